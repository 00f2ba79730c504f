import PyProof.Rows.All
import Wide.All
import OpenK.AllK
import Wide.FinOn
import HandS.ForMost
import HandS.Exc
import HandS.ExcInit
import HandS.ExcIs
import HandS.Defaults
import HandS.MakeKwOnly
import KE.KExcIs
import PyProof.ReprRoads
import HandS.Flow
import HandS.ListEq
import HandS.IsInst
import HandS.Walk
import PyProof.TupleCall
import HandS.OwnEq
import HandS.Style
import HandS.TupAny
import HandS.RevTup
import KE.LtSeq
import HandS.Zip
import HandS.SetFor
import HandS.NoneIn
import HandS.SetKeys
import HandS.SetBool
import PyProof.Rows.SortShellK
import PyProof.Rows.RuleB_bool
import HandS.HeadHook4
import HandS.HeadNt
import HandS.Star
import OpenK.KOps
import OpenK.KMeth
import PyProof.InstNe
import HandS.TupMul
import PyProof.Rows.ReprOcc
import HandS.TryMany
import HandS.ExcField
import HandS.Lambda
import HandS.TryOnly
import HandS.New0
import KE.DataCmp
import KE.KSortTupAny
import KE.SortKeyHeap
import HandS.SortKw
import HandS.ClsMeth
import HandS.WordsExc
import HandS.StrMore
import HandS.Replace
import PyProof.Rows.StrFit
import PyProof.Rows.EqDataRows
import HandS.Head0
import HandS.Head1
import HandS.Head2
import HandS.HeadEnd
import KE.KStateDown
import PySem.Challenge.RW_partwise_k26_keys_in_bounds
set_option Elab.async false
set_option linter.all false
set_option maxRecDepth 100000
set_option maxHeartbeats 0
namespace K34
open PySem PySem.Spec PyProof.Rows L2
def bmVE : List Value := [.type "ValueError", .type "Exception", .type "BaseException", .type "object"]
def bmKE : List Value := [.type "KeyError", .type "LookupError", .type "Exception", .type "BaseException", .type "object"]
def bmLE : List Value := [.type "LookupError", .type "Exception", .type "BaseException", .type "object"]
def bmOE : List Value := [.type "OverflowError", .type "ArithmeticError", .type "Exception", .type "BaseException", .type "object"]
def bmRE : List Value := [.type "RuntimeError", .type "Exception", .type "BaseException", .type "object"]
inductive Kd where | ve | ke | le | oe | re
  deriving DecidableEq
def Kd.bm : Kd → List Value
  | .ve => bmVE | .ke => bmKE | .le => bmLE | .oe => bmOE | .re => bmRE
def Kd.newId : Kd → String
  | .ve => "ValueError.__new__" | .ke => "LookupError.__new__" | .le => "LookupError.__new__" | .oe => "OverflowError.__new__" | .re => "RuntimeError.__new__"
end K34
namespace K26
open K34 PySem PySem.Spec PyProof.Rows L2
def top (i : Nat) : Stmt := PySem.Challenge.pw_partwise_k26_keys_in_bounds.main.body.getD i (.Pass ⟨0, 0, 0, 0⟩)
abbrev sIsNumber : Stmt := top 10
abbrev sIsWord : Stmt := top 11
abbrev sReadNumber : Stmt := top 14
abbrev sKindOf : Stmt := top 17
abbrev sIsMod : Stmt := top 18
abbrev sIsRem : Stmt := top 19
abbrev sBound : Stmt := top 23
abbrev sRange : Stmt := top 24
abbrev sValues : Stmt := top 25
abbrev sRest : Stmt := top 26
abbrev sDefault : Stmt := top 27
abbrev sIsValue : Stmt := top 28
abbrev sAreValues : Stmt := top 29
abbrev sAreEnds : Stmt := top 30
abbrev sIsEnd : Stmt := top 31
abbrev sAgree : Stmt := top 32
abbrev sEntryKind : Stmt := top 33
abbrev sPlaces : Stmt := top 34
abbrev sPen : Stmt := top 42
abbrev sDraw : Stmt := top 43
abbrev sPick : Stmt := top 44
abbrev sShuf : Stmt := top 45
abbrev sValue : Stmt := top 46
abbrev sEntryOrder : Stmt := top 47
abbrev sEndOrder : Stmt := top 48
abbrev sLEnd : Stmt := top 49
abbrev sEnds : Stmt := top 50
abbrev sBounds : Stmt := top 51
abbrev sHolds : Stmt := top 52
abbrev sBnd : Stmt := top 53
abbrev sValuesOf : Stmt := top 54
abbrev sNext : Stmt := top 55
abbrev sConsts : Stmt := top 56
abbrev sCutCols : Stmt := top 57
abbrev sAny : Stmt := top 58
abbrev sKeys : Stmt := top 59
abbrev sAlien : Stmt := top 60
abbrev sLaw : Stmt := top 61
abbrev sEB : Stmt := inClass (top 3) 0
abbrev sRInit : Stmt := inClass sRange 0
abbrev sREq : Stmt := inClass sRange 5
abbrev sVInit : Stmt := inClass sValues 0
abbrev sVEq : Stmt := inClass sValues 5
abbrev sTInit : Stmt := inClass sRest 0
abbrev sTEq : Stmt := inClass sRest 5
abbrev sDEq : Stmt := inClass sDefault 2
abbrev sRead : Stmt := inClass sBound 0
abbrev sRIn : Stmt := inClass sRange 4
abbrev sVIn : Stmt := inClass sValues 4
abbrev sTIn : Stmt := inClass sRest 4
abbrev R : PySem.W.OpenRow := PySem.W.OpenLaw.row PySem.Challenge.rw_partwise_k26_keys_in_bounds
/-! ### what is read off the heap behind the top -/
def clsB (K : PySem.W.Frag) (C : Addr) (k : Kd) : Bool := match K.lookup C with
  | some ⟨.type t, _, .cls cd, sl⟩ => decide (t = "type") && (decide (cd.mro = .ref C :: k.bm) && (cd.hasDict && (!cd.hasDel && (match sl.toList with
    | [_, _, _, _, some (.builtin n), _] => decide (n = k.newId)
    | _ => false))))
  | _ => false
def ecB (K : PySem.W.Frag) (C : Addr) (k : Kd) : Bool := clsB K C k && (He.eqO (PySem.W.findIn K (.ref C) "__setattr__") (some (some (.builtin "object.__setattr__"))) && (PySem.W.keepIn K (.ref C) &&
  (He.eqO (PySem.W.findIn K (.ref C) "__getattribute__") (some (some (.builtin "BaseException.__getattribute__"))) && (He.eqO (PySem.W.findIn K (.ref C) "__getattr__") (some none) && (decide (PySem.W.subIn K (.ref C) (.type "BaseException") = some true) &&
  (PySem.W.hasDictIn K C && (He.eqO (PySem.W.findIn K (.ref C) "__class__") (some (some (.builtin "object.__class__"))) && decide (PySem.W.mroIn K C (.type "object") = some true))))))))
def errB (K : PySem.W.Frag) (x : Str) (k : Kd) : Bool := ecB K (He.ga K x) k && (He.eqO (PySem.W.findIn K (.ref (He.ga K x)) "__init__") (some (some (.ref (He.ma K (He.ga K x) "__init__")))) && decide (PySem.W.typeIn K (.ref (He.ma K (He.ga K x) "__init__")) = some (.type "function")))
def exL (K : PySem.W.Frag) : List Bool := [errB K "InvalidBound" .ve, (PySem.W.clsIn K (He.ga K "Range")).isSome, decide (PySem.W.typeIn K (.ref (He.ga K "Range")) = some (.type "type")), He.eqO (PySem.W.findIn K (.ref (He.ga K "Range")) "__class__") (some (some (.builtin "object.__class__"))), decide (PySem.W.mroIn K (He.ga K "Range") (.type "object") = some true), He.eqO (PySem.W.findIn K (.ref (He.ga K "Range")) "__ne__") (some (some (.builtin "object.__ne__"))), (PySem.W.clsIn K (He.ga K "Values")).isSome, decide (PySem.W.typeIn K (.ref (He.ga K "Values")) = some (.type "type")), He.eqO (PySem.W.findIn K (.ref (He.ga K "Values")) "__class__") (some (some (.builtin "object.__class__"))), decide (PySem.W.mroIn K (He.ga K "Values") (.type "object") = some true), He.eqO (PySem.W.findIn K (.ref (He.ga K "Values")) "__ne__") (some (some (.builtin "object.__ne__"))), (PySem.W.clsIn K (He.ga K "Rest")).isSome, decide (PySem.W.typeIn K (.ref (He.ga K "Rest")) = some (.type "type")), He.eqO (PySem.W.findIn K (.ref (He.ga K "Rest")) "__class__") (some (some (.builtin "object.__class__"))), decide (PySem.W.mroIn K (He.ga K "Rest") (.type "object") = some true), He.eqO (PySem.W.findIn K (.ref (He.ga K "Rest")) "__ne__") (some (some (.builtin "object.__ne__"))), (PySem.W.clsIn K (He.ga K "Default")).isSome, decide (PySem.W.typeIn K (.ref (He.ga K "Default")) = some (.type "type")), He.eqO (PySem.W.findIn K (.ref (He.ga K "Default")) "__class__") (some (some (.builtin "object.__class__"))), decide (PySem.W.mroIn K (He.ga K "Default") (.type "object") = some true), He.eqO (PySem.W.findIn K (.ref (He.ga K "Default")) "__ne__") (some (some (.builtin "object.__ne__"))), decide (PySem.W.specialIn K (.builtin "object.__class__") "__get__" = some (some (.builtin "getset_descriptor.__get__"))), decide (PySem.W.takesIn K (.builtin "object.__class__") = some true), PySem.W.makesIn K (He.ga K "Default"), He.eqO (PySem.W.findIn K (.ref (He.ga K "Default")) "__init__") (some (some (.builtin "object.__init__"))), PySem.W.keepIn K (.ref (He.ga K "Default"))]
def exB (K : PySem.W.Frag) : Bool := (exL K).all id
def hd0 : He.DefD := ⟨(("InvalidBound" : Str), some ("__init__" : Str)), "__init__", "InvalidBound.__init__", defArgs sEB, defBody sEB, defScope sEB, [], []⟩
def hd1 : He.DefD := ⟨(("Range" : Str), some ("__init__" : Str)), "__init__", "Range.__init__", defArgs sRInit, defBody sRInit, defScope sRInit, [], []⟩
def hd2 : He.DefD := ⟨(("Range" : Str), some ("__eq__" : Str)), "__eq__", "Range.__eq__", defArgs sREq, defBody sREq, defScope sREq, [], []⟩
def hd3 : He.DefD := ⟨(("Range" : Str), some ("__contains__" : Str)), "__contains__", "Range.__contains__", defArgs sRIn, defBody sRIn, defScope sRIn, [], []⟩
def hd4 : He.DefD := ⟨(("Values" : Str), some ("__init__" : Str)), "__init__", "Values.__init__", defArgs sVInit, defBody sVInit, defScope sVInit, [], []⟩
def hd5 : He.DefD := ⟨(("Values" : Str), some ("__eq__" : Str)), "__eq__", "Values.__eq__", defArgs sVEq, defBody sVEq, defScope sVEq, [], []⟩
def hd6 : He.DefD := ⟨(("Values" : Str), some ("__contains__" : Str)), "__contains__", "Values.__contains__", defArgs sVIn, defBody sVIn, defScope sVIn, [], []⟩
def hd7 : He.DefD := ⟨(("Rest" : Str), some ("__init__" : Str)), "__init__", "Rest.__init__", defArgs sTInit, defBody sTInit, defScope sTInit, [], []⟩
def hd8 : He.DefD := ⟨(("Rest" : Str), some ("__eq__" : Str)), "__eq__", "Rest.__eq__", defArgs sTEq, defBody sTEq, defScope sTEq, [], []⟩
def hd9 : He.DefD := ⟨(("Rest" : Str), some ("__contains__" : Str)), "__contains__", "Rest.__contains__", defArgs sTIn, defBody sTIn, defScope sTIn, [], []⟩
def hd10 : He.DefD := ⟨(("Default" : Str), some ("__eq__" : Str)), "__eq__", "Default.__eq__", defArgs sDEq, defBody sDEq, defScope sDEq, [], []⟩
def hd11 : He.DefD := ⟨(("is_number" : Str), none), "is_number", "is_number", defArgs sIsNumber, defBody sIsNumber, defScope sIsNumber, [], []⟩
def hd12 : He.DefD := ⟨(("is_word" : Str), none), "is_word", "is_word", defArgs sIsWord, defBody sIsWord, defScope sIsWord, [], []⟩
def hd13 : He.DefD := ⟨(("kind_of" : Str), none), "kind_of", "kind_of", defArgs sKindOf, defBody sKindOf, defScope sKindOf, [], []⟩
def hd14 : He.DefD := ⟨(("is_modulus" : Str), none), "is_modulus", "is_modulus", defArgs sIsMod, defBody sIsMod, defScope sIsMod, [], []⟩
def hd15 : He.DefD := ⟨(("is_remainder" : Str), none), "is_remainder", "is_remainder", defArgs sIsRem, defBody sIsRem, defScope sIsRem, [], []⟩
def hd16 : He.DefD := ⟨(("_is_value" : Str), none), "_is_value", "_is_value", defArgs sIsValue, defBody sIsValue, defScope sIsValue, [], []⟩
def hd17 : He.DefD := ⟨(("_are_values" : Str), none), "_are_values", "_are_values", defArgs sAreValues, defBody sAreValues, defScope sAreValues, [], []⟩
def hd18 : He.DefD := ⟨(("_are_ends" : Str), none), "_are_ends", "_are_ends", defArgs sAreEnds, defBody sAreEnds, defScope sAreEnds, [], []⟩
def hd19 : He.DefD := ⟨(("_is_end" : Str), none), "_is_end", "_is_end", defArgs sIsEnd, defBody sIsEnd, defScope sIsEnd, [], []⟩
def hd20 : He.DefD := ⟨(("_agree_in_kinds" : Str), none), "_agree_in_kinds", "_agree_in_kinds", defArgs sAgree, defBody sAgree, defScope sAgree, [], []⟩
def hd21 : He.DefD := ⟨(("_entry_kind" : Str), none), "_entry_kind", "_entry_kind", defArgs sEntryKind, defBody sEntryKind, defScope sEntryKind, [], []⟩
def hd22 : He.DefD := ⟨(("_places" : Str), none), "_places", "_places", defArgs sPlaces, defBody sPlaces, defScope sPlaces, [], []⟩
def hd23 : He.DefD := ⟨(("_law_pen" : Str), none), "_law_pen", "_law_pen", defArgs sPen, defBody sPen, defScope sPen, [], []⟩
def hd24 : He.DefD := ⟨(("_law_draw" : Str), none), "_law_draw", "_law_draw", defArgs sDraw, defBody sDraw, defScope sDraw, [], []⟩
def hd25 : He.DefD := ⟨(("_law_pick" : Str), none), "_law_pick", "_law_pick", defArgs sPick, defBody sPick, defScope sPick, [], []⟩
def hd26 : He.DefD := ⟨(("_law_shuffled" : Str), none), "_law_shuffled", "_law_shuffled", defArgs sShuf, defBody sShuf, defScope sShuf, [], []⟩
def hd27 : He.DefD := ⟨(("_law_value" : Str), none), "_law_value", "_law_value", defArgs sValue, defBody sValue, defScope sValue, [], []⟩
def hd28 : He.DefD := ⟨(("_law_entry_order" : Str), none), "_law_entry_order", "_law_entry_order", defArgs sEntryOrder, defBody sEntryOrder, defScope sEntryOrder, [], []⟩
def hd29 : He.DefD := ⟨(("_law_end_order" : Str), none), "_law_end_order", "_law_end_order", defArgs sEndOrder, defBody sEndOrder, defScope sEndOrder, [], []⟩
def hd30 : He.DefD := ⟨(("_law_end" : Str), none), "_law_end", "_law_end", defArgs sLEnd, defBody sLEnd, defScope sLEnd, [], []⟩
def hd31 : He.DefD := ⟨(("_law_ends" : Str), none), "_law_ends", "_law_ends", defArgs sEnds, defBody sEnds, defScope sEnds, [], []⟩
def hd32 : He.DefD := ⟨(("_law_bounds" : Str), none), "_law_bounds", "_law_bounds", defArgs sBounds, defBody sBounds, defScope sBounds, [], []⟩
def hd33 : He.DefD := ⟨(("_law_holds" : Str), none), "_law_holds", "_law_holds", defArgs sHolds, defBody sHolds, defScope sHolds, [], []⟩
def hd34 : He.DefD := ⟨(("_law_bound" : Str), none), "_law_bound", "_law_bound", defArgs sBnd, defBody sBnd, defScope sBnd, [], []⟩
def hd35 : He.DefD := ⟨(("_law_values_of" : Str), none), "_law_values_of", "_law_values_of", defArgs sValuesOf, defBody sValuesOf, defScope sValuesOf, [], []⟩
def hd36 : He.DefD := ⟨(("_law_next" : Str), none), "_law_next", "_law_next", defArgs sNext, defBody sNext, defScope sNext, [], []⟩
def hd37 : He.DefD := ⟨(("_law_constants" : Str), none), "_law_constants", "_law_constants", defArgs sConsts, defBody sConsts, defScope sConsts, [], []⟩
def hd38 : He.DefD := ⟨(("_law_cut_columns" : Str), none), "_law_cut_columns", "_law_cut_columns", defArgs sCutCols, defBody sCutCols, defScope sCutCols, [], []⟩
def hd39 : He.DefD := ⟨(("_law_any_value" : Str), none), "_law_any_value", "_law_any_value", defArgs sAny, defBody sAny, defScope sAny, [], []⟩
def hd40 : He.DefD := ⟨(("_law_some_keys" : Str), none), "_law_some_keys", "_law_some_keys", defArgs sKeys, defBody sKeys, defScope sKeys, [], []⟩
def hd41 : He.DefD := ⟨(("_law_alien_right" : Str), none), "_law_alien_right", "_law_alien_right", defArgs sAlien, defBody sAlien, defScope sAlien, [], []⟩
def hd42 : He.DefD := ⟨(("law" : Str), none), "law", "law", defArgs sLaw, defBody sLaw, defScope sLaw, [], []⟩
def fn : List He.DefD := [hd0, hd1, hd2, hd3, hd4, hd5, hd6, hd7, hd8, hd9, hd10, hd11, hd12, hd13, hd14, hd15, hd16, hd17, hd18, hd19, hd20, hd21, hd22, hd23, hd24, hd25, hd26, hd27, hd28, hd29, hd30, hd31, hd32, hd33, hd34, hd35, hd36, hd37, hd38, hd39, hd40, hd41, hd42]
def fa : List He.Fa := [.free "int", .free "len", .free "abs", .free "list", .free "repr", .free "range", .free "isinstance", .free "str", .free "bool", .free "all", .free "zip", .free "tuple", .free "set", .free "sorted", .free "enumerate", .free "min", .free "max", .int "MAX_NUMBER" 1000000000000000000000000000000, .int "MAX_LETTERS" 8, .int "MAX_MODULUS" 60, .int "MAX_VALUES" 8, .int "MAX_RANGE_COLUMNS" 2, .str "FIRST" "-", .str "LAST" "+", .glo "InvalidBound", .glo "Range", .glo "Values", .glo "Rest", .glo "Default", .glo "is_number", .glo "is_word", .glo "kind_of", .glo "is_modulus", .glo "is_remainder", .glo "_is_value", .glo "_are_values", .glo "_are_ends", .glo "_is_end", .glo "_agree_in_kinds", .glo "_entry_kind", .glo "_places", .glo "_law_pen", .glo "_law_draw", .glo "_law_pick", .glo "_law_shuffled", .glo "_law_value", .glo "_law_entry_order", .glo "_law_end_order", .glo "_law_end", .glo "_law_ends", .glo "_law_bounds", .glo "_law_holds", .glo "_law_bound", .glo "_law_values_of", .glo "_law_next", .glo "_law_constants", .glo "_law_cut_columns", .glo "_law_any_value", .glo "_law_some_keys", .glo "_law_alien_right", .glo "law", .cls "Range", .cls "Values", .cls "Rest", .cls "Default", .noat "Range" "_low", .noat "Range" "_high", .noat "Values" "_entries", .noat "Rest" "_modulus", .noat "Rest" "_remainder", .meth "Range" "__eq__", .meth "Values" "__eq__", .meth "Rest" "__eq__", .meth "Default" "__eq__", .meth "Range" "__contains__", .meth "Values" "__contains__", .meth "Rest" "__contains__", .mkr "Range", .mkr "Values", .mkr "Rest"]
def namesL : List Str := (R.prog.main.scope.names.map (·.1)).filter fun x => !(x == "law" || x == "__name__")
/-- where what is looked at stands -/
def asL : List Addr := [2, 3, 6, 4, 21, 38, 58, 68, 73, 78, 85, 92, 99, 106, 113, 133, 184, 233, 288, 322, 331, 336, 343, 348, 353, 360, 367, 374, 381, 388, 395, 402, 409, 416, 423, 430, 437, 444, 451, 456, 463, 470, 475, 480, 487, 494, 501, 506, 511, 518, 525, 530, 535, 0, 20, 37, 57, 67, 72, 77, 84, 91, 98, 105, 112, 132, 183, 232, 287, 321, 330, 335, 342, 347, 352, 359, 366, 373, 380, 387, 394, 401, 408, 415, 422, 429, 436, 443, 450, 455, 462, 469, 474, 479, 486, 493, 500, 505, 510, 517, 524, 529, 534, 15, 16, 17, 18, 19, 35, 36, 39, 55, 56, 59, 62, 63, 64, 65, 66, 69, 70, 71, 74, 75, 76, 79, 80, 81, 82, 83, 86, 87, 88, 89, 90, 93, 94, 95, 96, 97, 100, 101, 102, 103, 104, 107, 108, 109, 110, 111, 129, 131, 134, 135, 151, 157, 162, 169, 174, 181, 182, 198, 204, 209, 216, 223, 230, 231, 249, 257, 264, 271, 278, 285, 286, 305, 312, 319, 320, 325, 326, 327, 328, 329, 332, 333, 334, 337, 338, 339, 340, 341, 344, 345, 346, 349, 350, 351, 354, 355, 356, 357, 358, 361, 362, 363, 364, 365, 368, 369, 370, 371, 372, 375, 376, 377, 378, 379, 382, 383, 384, 385, 386, 389, 390, 391, 392, 393, 396, 397, 398, 399, 400, 403, 404, 405, 406, 407, 410, 411, 412, 413, 414, 417, 418, 419, 420, 421, 424, 425, 426, 427, 428, 431, 432, 433, 434, 435, 438, 439, 440, 441, 442, 445, 446, 447, 448, 449, 452, 453, 454, 457, 458, 459, 460, 461, 464, 465, 466, 467, 468, 471, 472, 473, 476, 477, 478, 481, 482, 483, 484, 485, 488, 489, 490, 491, 492, 495, 496, 497, 498, 499, 502, 503, 504, 507, 508, 509, 512, 513, 514, 515, 516, 519, 520, 521, 522, 523, 526, 527, 528, 531, 532, 533, 34, 54, 127, 128, 150, 156, 161, 168, 173, 180, 197, 203, 208, 215, 222, 229, 248, 256, 263, 270, 277, 284, 304, 311, 318, 29, 30, 31, 32, 33, 49, 50, 51, 52, 53, 126, 130, 145, 146, 147, 148, 149, 155, 158, 159, 160, 163, 164, 165, 166, 167, 170, 171, 172, 175, 176, 177, 178, 179, 194, 195, 196, 202, 205, 206, 207, 210, 211, 212, 213, 214, 217, 218, 219, 220, 221, 224, 225, 226, 227, 228, 243, 244, 245, 246, 247, 255, 258, 259, 260, 261, 262, 265, 266, 267, 268, 269, 272, 273, 274, 275, 276, 279, 280, 281, 282, 283, 303, 306, 307, 308, 309, 310, 313, 314, 315, 316, 317]
abbrev AlK : Type := He.AlD × Bool
def obsK (g : Addr → Option Obj) : AlK := (He.obsD fa fn (He.frT g asL), exB (He.frT g asL))
/-- what is known of the heap behind the top -/
structure Says1 (h : Heap) (K : PySem.W.Frag) : Prop where
  kin : K.In h
  d : He.SaysD fa fn K
  x : exB K = true
theorem says_of {h : Heap} (e : obsK h.get? = (He.valD fn, true)) : Says1 h (He.frT h.get? asL) :=
  ⟨He.frT_in, congrArg (fun z : AlK => z.1) e, congrArg (fun z : AlK => z.2) e⟩
def hk : PySem.W.Hook where
  α := AlK
  obs := fun s => obsK s.heap.get?
  val := fun _ => (He.valD fn, true)
  says := fun _ h => ∃ K : PySem.W.Frag, Says1 h K
  of := fun _ _ e => ⟨_, says_of e⟩
  keeps := fun _ _ _ ⟨K, c⟩ kp => ⟨K, { kin := PySem.W.Frag.In.keeps c.kin kp, d := c.d, x := c.x }⟩
def ob (s : PySem.W.SharedT) : AlK := obsK (HandSHeadRun.getT s)
theorem ob_eq (s : PySem.W.SharedT) : ob s = hk.obs s.abs := by
  have e : HandSHeadRun.getT s = s.abs.heap.get? := funext (HandSHeadRun.getT_eq s)
  show obsK (HandSHeadRun.getT s) = obsK s.abs.heap.get?
  rw [e]
theorem run (w : World) : HandSHeadRun.RunEq R (PySem.W.view R.prog [61]) hk ob 20000 namesL w := by
  intro os
  kernel_rfl
end K26
set_option Elab.async false
set_option linter.all false
set_option maxRecDepth 100000
set_option maxHeartbeats 4000000
namespace K34
open PySem PySem.Spec PyProof.Rows PySem.HandSPX PySem.Builtin PySem.Builtin.ObjectAttr
/-! ### the mro of a built-in base, what it says -/
structure BmOk (B : String) (bm : List Value) : Prop where
  own : bm.contains (.type B) = true
  noA : bm.contains (.type "AttributeError") = false
  noN : bm.contains (.type "NameError") = false
  obj : bm.contains (.type "object") = true
  ne : bm.isEmpty = false
  pass : ∀ self : Value, refuseLoop self "__setattr__" bm = pure ()
theorem okVE : BmOk "ValueError" bmVE := ⟨by decide +kernel, by decide +kernel, by decide +kernel, by decide +kernel, rfl, F.store_ValueError.passes⟩
theorem okKE : BmOk "LookupError" bmKE := ⟨by decide +kernel, by decide +kernel, by decide +kernel, by decide +kernel, rfl, fun self => by unfold bmKE; kernel_rfl⟩
theorem okLE : BmOk "LookupError" bmLE := ⟨by decide +kernel, by decide +kernel, by decide +kernel, by decide +kernel, rfl, fun self => by unfold bmLE; kernel_rfl⟩
theorem okOE : BmOk "OverflowError" bmOE := ⟨by decide +kernel, by decide +kernel, by decide +kernel, by decide +kernel, rfl, fun self => by unfold bmOE; kernel_rfl⟩
theorem okRE : BmOk "RuntimeError" bmRE := ⟨by decide +kernel, by decide +kernel, by decide +kernel, by decide +kernel, rfl, fun self => by unfold bmRE; kernel_rfl⟩
/-! ### C(..), positional or by keyword: type.__call__, BaseException.__new__, the own __init__ -/
section
variable {M : Model} {A : Around} {E : Value → Shared → Prop} {h : Heap} {g : Array GenState} {d : Drawn} {t : Nat} {os : OsState}
variable {nm q : Str} {C N : Addr} {bs bm bmB : List Value} {hdct : Bool} {sn : List Str} {sub : List Value} {ab : Bool} {col : Option Bool} {dd : Option Addr} {k0 k1 k2 k3 k5 : Option Value} {B newId initId : String}
theorem chk_new (F : ExcBaseFacts B newId initId bmB) (O : BmOk B bm) {ws : List Value} {kv : List (Str × Value)} (hk : kv = [] ∨ (∃ y u, kv = [(y, u)]) ∨ ∃ y u z o, kv = [(y, u), (z, o)]) {Q : Unit → Shared → Prop}
    (hC : h.get? C = some (excClassObj nm q C N bs bm hdct sn sub ab col dd k0 k1 k2 k3 k5 newId)) (hq : Q () ⟨h, g, d, t, os⟩) : wpAny M A (checkBuiltinCall newId ⟨.ref C :: ws, kv⟩) Q E ⟨h, g, d, t, os⟩ := by
  have hcB : (Value.ref C :: bm).contains (.type B) = true := by rw [List.contains_cons, O.own, Bool.or_true]
  have hst := F.noStar
  rcases hk with rfl | ⟨y, u, rfl⟩ | ⟨y, u, z, o, rfl⟩
  · simp only [checkBuiltinCall, F.newKind, F.newSplit, F.newRow]
    repeat (first | refine wpAny_loadPart_at hC ?_ | (refine wpAny_isSubtype_exc hC ?_; rw [hcB]) | refine wpAny_staticBase_exc hC ?_ | refine wpAny_madeBy_exc hC ?_ | simp only [bne_self_eq_false, Bool.false_eq_true, if_false] | wp_step)
    exact hq
  · simp only [checkBuiltinCall, F.newKind, F.newSplit, F.newRow]
    repeat (first | refine wpAny_loadPart_at hC ?_ | (refine wpAny_isSubtype_exc hC ?_; rw [hcB]) | refine wpAny_staticBase_exc hC ?_ | refine wpAny_madeBy_exc hC ?_ | simp only [bne_self_eq_false, Bool.false_eq_true, if_false] | wp_step)
    exact hq
  · simp only [checkBuiltinCall, F.newKind, F.newSplit, F.newRow]
    repeat (first | refine wpAny_loadPart_at hC ?_ | (refine wpAny_isSubtype_exc hC ?_; rw [hcB]) | refine wpAny_staticBase_exc hC ?_ | refine wpAny_madeBy_exc hC ?_ | simp only [bne_self_eq_false, Bool.false_eq_true, if_false] | wp_step)
    exact hq
end
section
variable {prog : Program} {w : World} {A : Around} {E : Value → Shared → Prop} {R : Result → Shared → Prop} {h : Heap} {g : Array GenState} {d : Drawn} {t : Nat} {os : OsState}
variable {nm q : Str} {C N : Addr} {bs bm bmB : List Value} {hdct : Bool} {sn : List Str} {sub : List Value} {ab : Bool} {col : Option Bool} {dd : Option Addr} {k0 k1 k2 k3 k5 : Option Value} {B newId initId : String}
theorem run_new (F : ExcBaseFacts B newId initId bmB) (O : BmOk B bm) {ws : List Value} {kv : List (Str × Value)}
    (hC : h.get? C = some (excClassObj nm q C N bs bm hdct sn sub ab col dd k0 k1 k2 k3 k5 newId))
    (hq : R (.ok (.ret (.ref (h.objs.size + 1)))) ⟨(h.push (W.kdv_tup ws)).push (excO C h.objs.size), g, d, t, os⟩) (hws : ws.length ≤ sizeLine) :
    codeAny (model prog w) A (.builtin newId ⟨.ref C :: ws, kv⟩) R ⟨h, g, d, t, os⟩ := by
  have he := F.ends
  have c1 : (Value.ref C :: bm).contains (.type B) = true := by rw [List.contains_cons, O.own, Bool.or_true]
  have c2 : (Value.ref C :: bm).contains (.type "AttributeError") = false := by rw [List.contains_cons, O.noA]; rfl
  have c3 : (Value.ref C :: bm).contains (.type "NameError") = false := by rw [List.contains_cons, O.noN]; rfl
  refine codeAny_builtinAt F.entry ?_
  unfold Builtin.«BaseException.__new__»
  refine PySem.wpAt_bind ?_
  show PySem.wpAt _ _ _ (PySem.stack >>= _) _ _ _
  refine PySem.wpAt_bind (PySem.wpAt_stack fun p below => wpAt_of_wpAny ?_)
  wp_walk
  refine wpAt_of_wpAny ?_
  rw [F.owner]
  repeat (first | with_reducible refine wpAny_madeHere_exc F.canon hC ?_ | with_reducible refine wpAny_loadPart_at hC ?_ | (with_reducible refine wpAny_isSubtype_exc hC ?_; first | rw [c1] | rw [c2] | rw [c3]) | wp_step)
  show R _ _
  rw [Heap.size_push]
  exact hq
theorem type_call (F : ExcBaseFacts B newId initId bmB) (O : BmOk B bm) {ws : List Value} {kv : List (Str × Value)} (hk : kv = [] ∨ (∃ y u, kv = [(y, u)]) ∨ ∃ y u z o, kv = [(y, u), (z, o)]) {fI : Addr} {Q : Fin → Shared → Prop}
    (hC : h.get? C = some (excClassObj nm q C N bs bm hdct sn sub ab col dd k0 k1 k2 k3 k5 newId))
    (hi : W.Looks (model prog w) h (typeLookup (.ref C) "__init__") (some (.ref fI))) (hb : ∀ self, W.Looks (model prog w) h (bindSpecial (.ref fI) self) (.ref fI, [self])) (hws : ws.length ≤ sizeLine)
    (hq : codeAny (model prog w) A (.call (.ref fI) ⟨.ref (h.objs.size + 1) :: ws, kv⟩)
      (fun r s' => match r with | .ok (.ret v) => v = .none ∧ Q (.done (.ret (.ref (h.objs.size + 1)))) s' | .ok _ => False | .error e => E e s')
      ⟨(h.push (W.kdv_tup ws)).push (excO C h.objs.size), g, d, t, os⟩) :
    wpAny (model prog w) A (Builtin.«type.__call__» ⟨.ref C :: ws, kv⟩) Q E ⟨h, g, d, t, os⟩ := by
  repeat (first | with_reducible refine wpAny_loadPart_at hC ?_ | with_reducible refine wpAny_madeBy_exc hC ?_ | wp_step)
  refine codeAny_call_builtin_code (Code.quiet_builtin _ F.quiet) (chk_new F O hk hC ?_)
  refine run_new F O hC ?_ hws
  show wpAny _ _ _ _ _ _
  have kp : ∀ b o, h.get? b = some o → ((h.push (W.kdv_tup ws)).push (excO C h.objs.size)).get? b = some o := fun b o e => Heap.get?_push_of_some _ (Heap.get?_push_of_some _ e)
  have hC1 := kp _ _ hC
  have hx : ((h.push (W.kdv_tup ws)).push (excO C h.objs.size)).get? (h.objs.size + 1) = some (excO C h.objs.size) := by heap_get
  have cC : (Value.ref C :: bm).contains (.ref C) = true := by simp
  have i1 := hi.keeps kp
  have b1 := (hb (.ref (h.objs.size + 1))).keeps kp
  unfold isInstance
  repeat (first | with_reducible refine wpAny_loadPart_at hx ?_ | (with_reducible refine wpAny_isSubtype_exc hC1 ?_; rw [cC]) | wp_step)
  show wpAny _ _ (typeLookup (.ref C) _) _ _ _
  refine i1.at ?_
  refine wpAny_holding (wpAny_bind (b1.at ?_))
  refine wpAny_bind (wpAny_call (codeAny_mono hq fun r s' z => ?_))
  rcases r with e | (v | _ | _ | _) <;> first | exact z | exact z.elim | skip
  obtain ⟨rfl, z⟩ := z
  first
    | exact wpAny_pure (wpAny_pure z)
    | (wp_walk; exact z)
theorem call_E (F : ExcBaseFacts B newId initId bmB) (O : BmOk B bm) {ws : List Value} {kv : List (Str × Value)} (hk : kv = [] ∨ (∃ y u, kv = [(y, u)]) ∨ ∃ y u z o, kv = [(y, u), (z, o)]) {fI : Addr}
    (hC : h.get? C = some (excClassObj nm q C N bs bm hdct sn sub ab col dd k0 k1 k2 k3 k5 newId))
    (hi : W.Looks (model prog w) h (typeLookup (.ref C) "__init__") (some (.ref fI))) (hb : ∀ self, W.Looks (model prog w) h (bindSpecial (.ref fI) self) (.ref fI, [self])) (hws : ws.length ≤ sizeLine)
    (hq : codeAny (model prog w) (A.under (.builtin "type.__call__" ⟨.ref C :: ws, kv⟩)) (.call (.ref fI) ⟨.ref (h.objs.size + 1) :: ws, kv⟩) (W.InitBack (h.objs.size + 1) R)
      ⟨(h.push (W.kdv_tup ws)).push (excO C h.objs.size), g, d, t, os⟩) :
    codeAny (model prog w) A (.call (.ref C) ⟨ws, kv⟩) R ⟨h, g, d, t, os⟩ := by
  have f1 := tc_lookup
  have f2 := tc_bind (.ref C)
  have hTy : (⟨h, g, d, t, os⟩ : Shared).TypeIs (.ref C) "type" := ⟨_, hC, rfl⟩
  refine codeAny_of_tree ?_
  show wpAny _ _ (callAny (.ref C) _) _ _ _
  repeat (any_goals (first | assumption | with_reducible refine wpAny_loadPart_at hC ?_ | wp_step))
  refine ⟨rfl, ?_⟩
  refine codeAny_call_builtin_at (Code.quiet_builtin _ (by decide +kernel)) entry_typeCall (wpAny_check_type_call_sub hC (type_call F O hk hC hi hb hws ?_))
  refine codeAny_mono hq fun r s' z => ?_
  rcases r with e | (v | _ | _ | _) <;> exact z
end
end K34
set_option Elab.async false
set_option linter.all false
set_option maxRecDepth 100000
set_option maxHeartbeats 4000000
namespace K34
open PySem PySem.Spec PyProof.Rows PySem.HandSPX PySem.Builtin PySem.Builtin.ObjectAttr
/-! ### self.x = v on an exception: the first field, a further one -/
section
variable {prog : Program} {w : World} {A : Around} {R : Result → Shared → Prop} {hp : Heap} {g : Array GenState} {d : Drawn} {t : Nat} {os : OsState}
theorem osa_new {K : W.Frag} {x C : Addr} {nm : Str} {tk : Tok} {v : Value} {fv : Array Value} {cd : ClassData} {B : String} {bm : List Value}
    (X : K.In hp) (hx : hp.get? x = some { cls := .ref C, data := .fields fv }) (hcd : W.clsIn K C = some cd) (O : BmOk B bm) (hm : cd.mro = .ref C :: bm) (hh : cd.hasDict = true) (ha : W.findIn K (.ref C) nm = some none)
    (hq : ∀ h' tk' dx, (∀ b o, b ≠ x → hp.get? b = some o → h'.get? b = some o) → hp.objs.size ≤ dx → dx ≠ x → h'.get? x = some { cls := .ref C, dict := some dx, data := .fields fv } →
      h'.Ns1 dx (fun y => if y = nm then some v else none) → R (.ok (.ret .none)) ⟨h', g, d, tk', os⟩) :
    codeAny (model prog w) A (.call (.builtin "object.__setattr__") ⟨[.ref x, .str nm tk, v], []⟩) R ⟨hp, g, d, t, os⟩ := by
  have J : W.InstAt hp x { cls := .ref C, data := .fields fv } C none := ⟨hx, rfl, rfl, trivial⟩
  have SF := F.store_object
  have ne : cd.mro.isEmpty = false := by rw [hm] <;> rfl
  have ob : cd.mro.contains (.type "object") = true := by rw [hm, List.contains_cons, O.obj, Bool.or_true]
  have hxs : x ≠ hp.objs.size := Nat.ne_of_lt (Heap.lt_size hx)
  have sub : W.Looks (model prog w) hp (isInstance (.ref x) (.type "object")) true := J.type.andThen (W.looks_mroIn X (by unfold W.mroIn; rw [hcd, Option.bind_some, if_neg (by rw [ne]; decide), ob]))
  refine codeAny_call_builtin SF.slot.plain SF.entry (@W.check_slot (model prog w) _ _ ⟨hp, g, d, t, os⟩ "object.__setattr__" "object" "__setattr__" (.ref x) [.str nm tk, v] [] _ SF.kind SF.split sub (SF.args (.ref x) (.str nm tk) v) ?_)
  have m1 : W.Looks (model prog w) hp (mroOf (.ref C)) cd.mro := (W.looks_clsIn X hcd).andThen .now
  have m2 : W.Looks (model prog w) hp (storeTaker? none) none := .now
  have m3 : W.Looks (model prog w) hp (classData C) cd := W.looks_clsIn X hcd
  rw [W.osa_eq, refuse_eq]
  refine wpAny_bind (wpAny_bind (J.type.at (wpAny_bind (m1.at ?_))))
  rw [hm, refuseLoop_ref, O.pass]
  refine wpAny_pure (wpAny_bind (J.type.at (wpAny_bind ((W.looks_findIn X ha).at (wpAny_bind (m2.at ?_))))))
  show wpAny _ _ (storeInOwnDict (.ref x) (.ref C) (.str nm tk) nm v false) _ _ _
  obtain ⟨nm0, bs0, mro0, ns0, qn0, hd0, sn0, sb0, ab0, col0, del0⟩ := cd
  dsimp only at hh
  subst hh
  unfold storeInOwnDict ownDictForStores
  repeat (first | with_reducible refine store_in_new ?_ ?_ | with_reducible refine wpAny_loadPart_at hx ?_ | with_reducible refine m3.at ?_ | wp_step)
  · exact ⟨_, #[], _, (Heap.get?_update_ne _ _ _ _ hxs.symm).trans (Heap.get?_push_at rfl rfl), rfl, fun e he => absurd he (by simp), fun _ => rfl⟩
  · intro h' tk' hn' hs
    have hx1 : (hp.push { cls := .type "dict", data := .dict #[] }).get? x = some { cls := .ref C, data := .fields fv } := Heap.get?_push_of_some _ hx
    refine hq h' tk' hp.objs.size (fun b o hb ho => ?_) (Nat.le_refl _) hxs.symm ?_ hn'
    · exact (hs.2 b (Nat.ne_of_lt (Heap.lt_size ho))).trans ((Heap.get?_update_ne _ _ _ _ hb).trans (Heap.get?_push_of_some _ ho))
    · exact (hs.2 x hxs).trans (Heap.get?_update_self _ hx1 rfl)
theorem osa_more {K : W.Frag} {nm : Str} {tk : Tok} {v : Value} {x C dx : Addr} {fv : Array Value} {cd : ClassData} {m0 : Str → Option Value} {nl : List Str} {B : String} {bm : List Value}
    (X : K.In hp) (hx : hp.get? x = some { cls := .ref C, dict := some dx, data := .fields fv }) (hns : hp.Ns1 dx m0) (hw : Within m0 nl) (hz : nl.length ≤ 1000) (hcd : W.clsIn K C = some cd) (O : BmOk B bm) (hm : cd.mro = .ref C :: bm) (hh : cd.hasDict = true)
    (ha : W.findIn K (.ref C) nm = some none)
    (hq : ∀ h' tk', (∀ b o, b ≠ dx → hp.get? b = some o → h'.get? b = some o) → h'.Ns1 dx (fun y => if y = nm then some v else m0 y) → R (.ok (.ret .none)) ⟨h', g, d, tk', os⟩) :
    codeAny (model prog w) A (.call (.builtin "object.__setattr__") ⟨[.ref x, .str nm tk, v], []⟩) R ⟨hp, g, d, t, os⟩ := by
  obtain ⟨oD, esD, epD, hoD, hdD, _⟩ := hns.count hw
  have J : W.InstAt hp x { cls := .ref C, dict := some dx, data := .fields fv } C (some oD) := ⟨hx, rfl, rfl, hoD⟩
  have SF := F.store_object
  have ne : cd.mro.isEmpty = false := by rw [hm] <;> rfl
  have ob : cd.mro.contains (.type "object") = true := by rw [hm, List.contains_cons, O.obj, Bool.or_true]
  have sub : W.Looks (model prog w) hp (isInstance (.ref x) (.type "object")) true := J.type.andThen (W.looks_mroIn X (by unfold W.mroIn; rw [hcd, Option.bind_some, if_neg (by rw [ne]; decide), ob]))
  refine codeAny_call_builtin SF.slot.plain SF.entry (@W.check_slot (model prog w) _ _ ⟨hp, g, d, t, os⟩ "object.__setattr__" "object" "__setattr__" (.ref x) [.str nm tk, v] [] _ SF.kind SF.split sub (SF.args (.ref x) (.str nm tk) v) ?_)
  have m1 : W.Looks (model prog w) hp (mroOf (.ref C)) cd.mro := (W.looks_clsIn X hcd).andThen .now
  have m2 : W.Looks (model prog w) hp (storeTaker? none) none := .now
  have m3 : W.Looks (model prog w) hp (classData C) cd := W.looks_clsIn X hcd
  rw [W.osa_eq, refuse_eq]
  refine wpAny_bind (wpAny_bind (J.type.at (wpAny_bind (m1.at ?_))))
  rw [hm, refuseLoop_ref, O.pass]
  refine wpAny_pure (wpAny_bind (J.type.at (wpAny_bind ((W.looks_findIn X ha).at (wpAny_bind (m2.at ?_))))))
  show wpAny _ _ (storeInOwnDict (.ref x) (.ref C) (.str nm tk) nm v false) _ _ _
  obtain ⟨nm0, bs0, mro0, ns0, qn0, hd0, sn0, sb0, ab0, col0, del0⟩ := cd
  dsimp only at hh
  subst hh
  unfold storeInOwnDict ownDictForStores
  repeat (first | with_reducible refine OEX.store_in_old hns hw hz ?_ | with_reducible refine wpAny_loadPart_at hx ?_ | with_reducible refine m3.at ?_ | wp_step)
  intro h' tk' hn' hs
  exact hq h' tk' (fun b o hb ho => (hs.2 b hb).trans ho) hn'
end
end K34
set_option Elab.async false
set_option linter.all false
set_option maxRecDepth 100000
set_option maxHeartbeats 4000000
namespace K34
open PySem PySem.Spec PyProof.Rows L2
def Kd.B : Kd → String
  | .ve => "ValueError" | .ke => "LookupError" | .le => "LookupError" | .oe => "OverflowError" | .re => "RuntimeError"
theorem Kd.base : ∀ k : Kd, ∃ initId bmB, ExcBaseFacts k.B k.newId initId bmB
  | .ve => ⟨_, _, F.excBase_ValueError⟩
  | .ke => ⟨_, _, F.excBase_LookupError⟩
  | .le => ⟨_, _, F.excBase_LookupError⟩
  | .oe => ⟨_, _, F.excBase_OverflowError⟩
  | .re => ⟨_, _, F.excBase_RuntimeError⟩
theorem Kd.ok : ∀ k : Kd, BmOk k.B k.bm
  | .ve => okVE | .ke => okKE | .le => okLE | .oe => okOE | .re => okRE
/-- what the written part says of an own class of errors, directly below the base k -/
structure EC (K : PySem.W.Frag) (C : Addr) (k : Kd) : Prop where
  cls : ∃ nm q N bs sn sub ab col dd k0 k1 k2 k3 k5, K.lookup C = some (excClassObj nm q C N bs k.bm true sn sub ab col dd k0 k1 k2 k3 k5 k.newId)
  sa : PySem.W.findIn K (.ref C) "__setattr__" = some (some (.builtin "object.__setattr__"))
  kC : PySem.W.keepIn K (.ref C) = true
  at_ : ExcC K C
section
variable {X : Cx} {pins : List (Addr × Obj)} {σ : L2.St} {H : Hp} {s : Shared} {a C dx : Addr} {f : Str} {y : V} {u : Value} {fs : List (Str × V)} {Q : Unit → Shared → Prop} {E : Value → Shared → Prop} {A : Around} {k : Kd}
/-- self.f = y on an exception without fields -/
theorem st_first (T : EC X.K C k) (I : Inv X pins σ H s) (e : H a = some (exo a C none)) (hno : PySem.W.findIn X.K (.ref C) f = some none) (ry : RelV y u)
    (h : ∀ dx s', H dx = none → dx ≠ a → Inv X pins σ (upd (upd H dx (exd dx [(f, y)])) a (exo a C (some dx))) s' → Q () s') : wpAny (model X.prog X.w) A (setAttr (.ref a) f u) Q E s := by
  obtain ⟨nm, q, N, bs, sn, sub, ab, col, dd, k0, k1, k2, k3, k5, hC⟩ := T.cls
  have hcl : PySem.W.clsIn X.K C = some { name := nm, bases := bs, mro := .ref C :: k.bm, ns := N, qualname := q, hasDict := true, slotNames := sn, subclasses := sub, abstract := ab, collection := col, hasDel := false } := by unfold PySem.W.clsIn; rw [hC] <;> rfl
  obtain ⟨t1, ho⟩ := exo_at I.hok e
  obtain ⟨hp, g, d, t, os⟩ := s
  refine PySem.W.set_plain I.kIn (ox := { cls := .ref C, dict := none, data := .fields #[.ref t1, .none, .none, .none, .bool false, .none] }) (od := none) ⟨ho, rfl, rfl, trivial⟩ T.sa ?_
  refine osa_new I.kIn ho hcl k.ok rfl rfl hno (fun h' tk' dx kp dn dne hx hn => ?_)
  have hnd : H dx = none := I.hok.fresh dn
  have nd : ∀ {b : Addr} {o : Obj}, hp.get? b = some o → b ≠ dx := fun {b o} z => Nat.ne_of_lt (Nat.lt_of_lt_of_le (Heap.lt_size z) dn)
  have na : ∀ {b : Addr}, H b = none → b ≠ a := fun {b} n z => by
    rw [z, e] at n
    cases n
  have un1 : Un X.fs [] H (upd (upd H dx (exd dx [(f, y)])) a (exo a C (some dx))) hp h' := {
    keep := fun b o z n _ _ => kp b o (na n) z
    slot := fun b o z n _ _ => ⟨o.slots, kp b o (na n) z⟩
    free := fun b o z n _ => by rw [upd_ne (na n), upd_ne (nd z)]; exact n
    there := fun b o z _ => by
      by_cases hb : b = a
      · exact ⟨_, by rw [hb]; exact hx⟩
      · exact ⟨o, kp b o hb z⟩
    tups := fun b xs z => by rw [upd_ne (at_ne e z exo_tup), upd_ne (ne_of_none z hnd)]; exact z
    frzs := fun b o v z => by rw [upd_ne (at_ne e z exo_frz), upd_ne (ne_of_none z hnd)]; exact z
    tbls := fun b ps z => ⟨#[], by rw [upd_ne (at_ne e z exo_tbl), upd_ne (ne_of_none z hnd), z]; simp⟩ }
  refine h dx _ hnd dne (I.un (t' := tk') un1 fun b o z => ?_)
  by_cases hb : b = a
  · subst hb
    rw [upd_same] at z
    cases z
    exact exo_ok hx
  · rw [upd_ne hb] at z
    by_cases hd : b = dx
    · subst hd
      rw [upd_same] at z
      cases z
      exact exd_ok hn (relO_put (fs := []) ry fun g => True.intro)
    · rw [upd_ne hd] at z
      refine (I.hok b o z).stay (fun c v hc w => kp c v ?_ w) (fun c hc => by rw [upd_ne (at_ne e hc exo_own), upd_ne (ne_of_none hc hnd)]; exact hc) (fun c xs hc => by rw [upd_ne (at_ne e hc exo_tup), upd_ne (ne_of_none hc hnd)]; exact hc)
      rcases hc with hc | hc
      · rw [hc]
        exact hb
      · exact at_ne e hc exo_own
/-- a further field -/
theorem st_more (T : EC X.K C k) (I : Inv X pins σ H s) (e : H a = some (exo a C (some dx))) (ed : H dx = some (exd dx fs)) (hl : fs.length ≤ 900) (hno : PySem.W.findIn X.K (.ref C) f = some none) (ry : RelV y u)
    (h : ∀ s', Inv X pins σ (upd H dx (exd dx ((f, y) :: fs))) s' → Q () s') : wpAny (model X.prog X.w) A (setAttr (.ref a) f u) Q E s := by
  obtain ⟨nm, q, N, bs, sn, sub, ab, col, dd, k0, k1, k2, k3, k5, hC⟩ := T.cls
  have hcl : PySem.W.clsIn X.K C = some { name := nm, bases := bs, mro := .ref C :: k.bm, ns := N, qualname := q, hasDict := true, slotNames := sn, subclasses := sub, abstract := ab, collection := col, hasDel := false } := by unfold PySem.W.clsIn; rw [hC] <;> rfl
  obtain ⟨t1, ho⟩ := exo_at I.hok e
  obtain ⟨mA, hns, rel⟩ := exd_at I.hok ed
  have hw := within_of rel
  obtain ⟨hp, g, d, t, os⟩ := s
  obtain ⟨oD, _, _, hoD, _, _⟩ := hns.count hw
  refine PySem.W.set_plain I.kIn (ox := { cls := .ref C, dict := some dx, data := .fields #[.ref t1, .none, .none, .none, .bool false, .none] }) (od := some oD) ⟨ho, rfl, rfl, hoD⟩ T.sa ?_
  refine osa_more I.kIn ho hns hw (by rw [List.length_map]; omega) hcl k.ok rfl rfl hno (fun h' tk' kp hn => ?_)
  have hd : ∃ o, h'.get? dx = some o := by
    obtain ⟨o, _, _, e', _⟩ := hn
    exact ⟨o, e'⟩
  exact h _ (I.write (t' := tk') (x := dx) (e := dx) (o := exd dx ((f, y) :: fs)) (by rw [ed]; exact True.intro) (.inl rfl) kp hd (exd_ok hn (relO_put ry rel)))
end
/-- self.f = e, self an error of the class at C -/
def tSt (K : PySem.W.Frag) (k : Kd) (f : Str) (to te : TE) : TS := fun D σ H => te σ H fun y H1 => to σ H1 fun x H2 => ∃ a C : Addr, x = .ref a ∧ EC K C k ∧ PySem.W.findIn K (.ref C) f = some none ∧
  ((H2 a = some (exo a C none) ∧ ∀ dx, H2 dx = none → dx ≠ a → D.nx σ (upd (upd H2 dx (exd dx [(f, y)])) a (exo a C (some dx)))) ∨
    ∃ (dx : Addr) (fs : List (Str × V)), H2 a = some (exo a C (some dx)) ∧ H2 dx = some (exd dx fs) ∧ fs.length ≤ 900 ∧ D.nx σ (upd H2 dx (exd dx ((f, y) :: fs))))
section
variable {X : Cx} {o e : Expr} {es : List Expr} {to te : TE} {ta tk : TA} {f x : Str} {p p' p1 p2 pos : Pos} {k : Kd} {kws : List Keyword}
theorem ps_st (ho : PE X o to) (he : PE X e te) (hs : swapsWith e (some (.Attribute o f p')) pos.line X.env = pure false := by rfl) : PS X (.Assign [.Attribute o f p'] e pos) (tSt X.K k f to te) := by
  refine ⟨fun pins s σ H D I h => ?_⟩
  refine plainObj_wpAny_Assign_Attribute (thn (he.run pins s σ H _ I h) fun v s1 ⟨y, H1, I1, r1, q1⟩ => thn (ho.run pins s1 σ H1 _ I1 q1) fun u s2 ⟨z, H2, I2, r2, a, C, ex, T, hno, q⟩ => ?_) hs
  subst ex
  obtain rfl : u = Value.ref a := r2
  rcases q with ⟨ea, q⟩ | ⟨dx, fs, ea, ed, hl, q⟩
  · exact st_first T I2 ea hno r1 fun dx s' n ne J => ⟨σ, _, J, q dx n ne⟩
  · exact st_more T I2 ea ed hl hno r1 fun s' J => ⟨σ, _, J, q⟩
/-- an error's making: its class, its __init__ -/
structure EM (P : Program) (w : World) (K : PySem.W.Frag) (mg : Str → Option Value) (base : Heap) (x : Str) (C : Addr) (k : Kd) (fI : Addr) (fd : FuncData) (ps : List Str) (sp : Sp) : Prop where
  g : mg x = some (.ref C)
  c : EC K C k
  init : PySem.W.findIn K (.ref C) "__init__" = some (some (.ref fI))
  ty : PySem.W.typeIn K (.ref fI) = some (.type "function")
  ok : FnOk P w K mg base CX0 1 fI fd ps sp
/-- C(..): a new error at a, then __init__ -/
def tMkE (C : Addr) (sp : Sp) (t : TA) : TE := fun σ H Q => t σ H fun vs H1 => vs.length ≤ 1000 ∧ ∀ a, H1 a = none → sp (.ref a :: vs) (upd H1 a (exo a C none)) (fun v H2 => v = .non ∧ Q (.ref a) H2) E0
theorem run_mkE {pins : List (Addr × Obj)} {σ : L2.St} {H : Hp} {s : Shared} {Q : VK} {C fI : Addr} {fd : FuncData} {ps : List Str} {sp : Sp} {us ws : List Value} {kv : List (Str × Value)} {zs : List V} (M : EM X.prog X.w X.K X.mg X.base x C k fI fd ps sp) (hr : Room 2 X.A)
    (hk : kv = [] ∨ (∃ y u, kv = [(y, u)]) ∨ ∃ y u z o, kv = [(y, u), (z, o)]) (hus : us.length ≤ 1000) (I : Inv X pins σ H s) (r : Vals zs ws)
    (hb : ∀ (s' : Shared) (a : Addr), X.K.In s'.heap → BindsTo s' fd ⟨.ref a :: us, kv⟩ (ps.zip (.ref a :: ws)))
    (h : ∀ a, H a = none → sp (.ref a :: zs) (upd H a (exo a C none)) (fun v H2 => v = .non ∧ Q (.ref a) H2) E0) : wpAny (model X.prog X.w) X.A (call (.ref C) us kv) (EP X pins σ Q) X.xe s := by
  obtain ⟨nm, q, N, bs, sn, sub, ab, col, dd, k0, k1, k2, k3, k5, hC⟩ := M.c.cls
  obtain ⟨initId, bmB, FB⟩ := k.base
  obtain ⟨hp, g, dr, tk, os⟩ := s
  have hsz : hp.objs.size ≤ hp.objs.size + 1 := Nat.le_succ _
  have hq := h (hp.objs.size + 1) (I.hok.fresh hsz)
  have kk : ∀ b o, hp.get? b = some o → ((hp.push (PySem.W.kdv_tup us)).push (PySem.HandSPX.excO C hp.objs.size)).get? b = some o := fun b o e => Heap.get?_push_of_some _ (Heap.get?_push_of_some _ e)
  have hget : ((hp.push (PySem.W.kdv_tup us)).push (PySem.HandSPX.excO C hp.objs.size)).get? (hp.objs.size + 1) = some (PySem.HandSPX.excO C hp.objs.size) := by heap_get
  have I2 : Inv X pins σ (upd H (hp.objs.size + 1) (exo (hp.objs.size + 1) C none)) ⟨(hp.push (PySem.W.kdv_tup us)).push (PySem.HandSPX.excO C hp.objs.size), g, dr, tk, os⟩ :=
    I.laid (t' := tk) (a := hp.objs.size + 1) (o := exo (hp.objs.size + 1) C none) (h' := (hp.push (PySem.W.kdv_tup us)).push (PySem.HandSPX.excO C hp.objs.size)) kk hsz (exo_ok hget)
  have r2 : Vals (V.ref (hp.objs.size + 1) :: zs) (Value.ref (hp.objs.size + 1) :: ws) := .cons rfl r
  have hz : us.length ≤ sizeLine := by
    rw [sizeLine_eq]
    omega
  refine wpAny_call (call_E FB k.ok hk (I.kIn _ _ hC) (PySem.W.looks_findIn I.kIn M.init) (fun self => PySem.W.bind_fn I.kIn self M.ty) hz
    (codeAny_mono (M.ok.run _ X.stack _ _ ⟨Value.ref (hp.objs.size + 1) :: us, kv⟩ (Value.ref (hp.objs.size + 1) :: ws) _ _ E0 (hr.make C us kv) (I2.env0.make C us kv) (hb _ (hp.objs.size + 1) I2.kIn) r2 hq) fun r s' hq' => ?_))
  cases r with
  | error er => exact False.elim hq'
  | ok fl =>
    cases fl with
    | ret u =>
      obtain ⟨v, H', I3, rv, ev, q3⟩ := I2.after hq'
      subst ev
      exact ⟨rv, ⟨V.ref (hp.objs.size + 1), H', I3, rfl, q3⟩⟩
    | next => exact False.elim hq'
    | brk => exact False.elim hq'
    | cont => exact False.elim hq'
/-- C(e, ..) -/
theorem pe_mkE {C fI : Addr} {fd : FuncData} {ps : List Str} {sp : Sp} (M : EM X.prog X.w X.K X.mg X.base x C k fI fd ps sp) (hr : Room 2 X.A) (hb : Binds X.K fd ps []) (hg : Gl X x) (ha : PA X (e :: es) ta)
    (hdb : (x == ("__debug__" : Str)) = false := by decide) (he : starEach (e :: es) X.env = (false, eval e X.env) :: starEach es X.env := by rfl) (hpl : (backTo pos (starEach es X.env)).any (·.1) = false := by rfl) :
    PE X (.Call (.Name x p) (e :: es) [] pos) (tMkE C sp ta) := by
  refine ⟨fun pins s σ H Q I h => ?_⟩
  refine wpAny_Call_Name_kw (ld_glob I hg M.g ?_ hdb)
  refine PySem.W.callWith_K (h₀ := X.base) I.ok.mod.kin M.c.kC (thn (ha.run pos pins s σ H _ I h) fun us s1 ⟨vs, H1, I1, r1, hz, q1⟩ => ⟨I1.kIn, ?_⟩) he hpl
  have hlen : (V.ref s1.heap.objs.size :: vs).length = ps.length := M.ok.len _ _ _ _ (q1 (s1.heap.objs.size) (I1.hok.fresh (Nat.le_refl _)))
  refine run_mkE (us := us) (ws := us) (zs := vs) M hr (.inl rfl) (by rw [← Paired.length r1]; exact hz) I1 r1 (fun s' a X' => ?_) q1
  have e := hb s' (.ref a :: us) X' (by rw [List.append_nil, ← hlen, List.length_cons, List.length_cons, r1.length])
  rw [List.append_nil] at e
  exact e
/-- C() -/
theorem pe_mkE0 {C fI : Addr} {fd : FuncData} {ps : List Str} {sp : Sp} (M : EM X.prog X.w X.K X.mg X.base x C k fI fd ps sp) (hr : Room 2 X.A) (hb : Binds X.K fd ps []) (hg : Gl X x) (hdb : (x == ("__debug__" : Str)) = false := by decide) :
    PE X (.Call (.Name x p) [] [] pos) (tMkE C sp tNil) := by
  refine ⟨fun pins s σ H Q I h => ?_⟩
  obtain ⟨hz, q1⟩ := h
  refine wpAny_Call_Name_kw (ld_glob I hg M.g ?_ hdb)
  have hlen : (V.ref s.heap.objs.size :: ([] : List V)).length = ps.length := M.ok.len _ _ _ _ (q1 (s.heap.objs.size) (I.hok.fresh (Nat.le_refl _)))
  refine PySem.W.callWith_K0 I.kIn M.c.kC (run_mkE (us := []) (ws := []) (zs := []) M hr (.inl rfl) (Nat.zero_le _) I .nil (fun s' a X' => ?_) q1)
  have e := hb s' [.ref a] X' (by rw [List.append_nil, ← hlen]; rfl)
  rw [List.append_nil] at e
  exact e
/-- C(f = e, ..): one or two keywords, in the parameters' order -/
theorem pe_mkEK {C fI : Addr} {fd : FuncData} {ps ks : List Str} {sp : Sp} (M : EM X.prog X.w X.K X.mg X.base x C k fI fd ps sp) (hr : Room 2 X.A) (hn : ks.length = 1 ∨ ks.length = 2)
    (hb : ∀ (s' : Shared) (a : Addr) (ws : List Value), ws.length = ks.length → BindsTo s' fd ⟨[.ref a], ks.zip ws⟩ (ps.zip (.ref a :: ws))) (hp : ps.length = ks.length + 1) (hg : Gl X x) (hkw : PK X kws tk)
    (hall : (backToKw pos (keywordEach kws X.env)).all (·.1.isSome) = true := by rfl) (hks : (backToKw pos (keywordEach kws X.env)).filterMap (·.1) = ks := by rfl) (hdb : (x == ("__debug__" : Str)) = false := by decide)
    (hpl : ((backTo pos (starEach [] X.env)).any (·.1) || (backToKw pos (keywordEach kws X.env)).any (·.1.isNone)) = false := by rfl) :
    PE X (.Call (.Name x p) [] kws pos) (tMkE C sp tk) := by
  refine ⟨fun pins s σ H Q I h => ?_⟩
  refine wpAny_Call_Name_kw (ld_glob I hg M.g ?_ hdb)
  refine PySem.W.callWith_KW0 (h₀ := X.base) I.ok.mod.kin M.c.kC hall ?_ hpl
  refine thn (hkw.run pos pins s σ H _ I h) fun ws s2 ⟨zs, H2, I2, rz, hz, q2⟩ => ⟨I2.kIn, ?_⟩
  rw [hks]
  have hlen : (V.ref s2.heap.objs.size :: zs).length = ps.length := M.ok.len _ _ _ _ (q2 (s2.heap.objs.size) (I2.hok.fresh (Nat.le_refl _)))
  have hw : ws.length = ks.length := by
    rw [← rz.length]
    rw [List.length_cons] at hlen
    omega
  refine run_mkE (us := []) (ws := ws) (zs := zs) M hr ?_ (Nat.zero_le _) I2 rz (fun s' a X' => hb s' a ws hw) q2
  rcases hn with hn | hn
  · match ks, ws, hn, hw with
    | [y], [u], _, _ => exact .inr (.inl ⟨y, u, rfl⟩)
  · match ks, ws, hn, hw with
    | [y, z], [u, o], _, _ => exact .inr (.inr ⟨y, u, z, o, rfl⟩)
/-- e.f, e an error whose fields stand in its dict -/
def tFE (K : PySem.W.Frag) (f : Str) (te : TE) : TE := fun σ H Q => te σ H fun x H1 => ∃ (a C d : Addr) (k : Kd) (fs : List (Str × V)) (v : V), x = .ref a ∧ H1 a = some (exo a C (some d)) ∧ H1 d = some (exd d fs) ∧ EC K C k ∧ PySem.W.findIn K (.ref C) f = some none ∧ fs.lookup f = some v ∧ Q v H1
theorem pe_fE (he : PE X e te) (hb : attributeBase e f X.env (eval e X.env) = eval e X.env := by rfl) : PE X (.Attribute e f pos) (tFE X.K f te) := by
  refine ⟨fun pins s σ H Q I h => ?_⟩
  refine attr_of hb (thn (he.run pins s σ H _ I h) fun u s1 ⟨z, H1, I1, rx, a, C, d, k, fs, v, ez, ea, ed, T, hno, hl, q⟩ => ?_)
  subst ez
  obtain rfl : u = Value.ref a := rx
  obtain ⟨t1, ho⟩ := exo_at I1.hok ea
  obtain ⟨mA, hns, rel⟩ := exd_at I1.hok ed
  obtain ⟨od, hod, hlk⟩ := lookIn_ns hns
  obtain ⟨w', hu, ru⟩ := RelO.some_of (v := v) (o := mA f) (by rw [← hl]; exact rel f)
  have J : PySem.W.InstAt s1.heap a { cls := .ref C, dict := some d, data := .fields #[.ref t1, .none, .none, .none, .bool false, .none] } C (some od) := ⟨ho, rfl, rfl, hod⟩
  exact HandSPX.exc_get I1.kIn J T.at_.hg T.at_.hk T.at_.hs (PySem.W.findObj_own T.at_.hd hno rfl (by rw [hlk, hu])) (handed_of ru) ⟨v, H1, I1.tok _, ru, q⟩
end
end K34
set_option Elab.async false
set_option linter.all false
set_option maxRecDepth 100000
set_option maxHeartbeats 4000000
namespace K34
open PySem PySem.Spec PyProof.Rows L2
/-! ### isinstance of an error -/
/-- an error of the class at C stands at a -/
def ErrAt (H : Hp) (a C : Addr) : Prop := ∃ d : Option Addr, H a = some (exo a C d) ∧ (d = none ∨ ∃ dd fs, d = some dd ∧ H dd = some (exd dd fs))
theorem ErrAt.same {H H' : Hp} {a C : Addr} (e : ErrAt H a C) (s : Same H H') : ErrAt H' a C := by
  obtain ⟨d, h1, h2⟩ := e
  refine ⟨d, s _ _ h1, ?_⟩
  rcases h2 with h | ⟨dd, fs, h, h3⟩
  · exact .inl h
  · exact .inr ⟨dd, fs, h, s _ _ h3⟩
def rIsX (K : PySem.W.Frag) : List V → Hp → VK → Prop := fun xs H Q => ∃ (a C : Addr) (k : Kd) (c : V) (cv : Value) (b : Bool), xs = [.ref a, c] ∧ ErrAt H a C ∧ EC K C k ∧ (∀ u, RelV c u → u = cv) ∧ PySem.W.kitOne K (.ref C) cv = some b ∧ Q (.bl b) H
theorem call_isX {X : Cx} : CallR X (.builtin "isinstance") (rIsX X.K) := by
  intro pins s σ H xs us Q I r h
  obtain ⟨a, C, k, c, cv, b, rfl, ⟨d, ea, hd⟩, T, hcv, e, q⟩ := h
  cases r with
  | cons rx rr =>
    cases rr with
    | cons rt rr =>
      cases rr
      cases rx
      have ec := hcv _ rt
      subst ec
      obtain ⟨t1, ho⟩ := exo_at I.hok ea
      obtain ⟨od, J⟩ : ∃ od, PySem.W.InstAt s.heap a { cls := .ref C, dict := d, data := .fields #[.ref t1, .none, .none, .none, .bool false, .none] } C od := by
        rcases hd with rfl | ⟨dd, fs, rfl, ed⟩
        · exact ⟨none, ho, rfl, rfl, trivial⟩
        · obtain ⟨mA, hns, rel⟩ := exd_at I.hok ed
          obtain ⟨oD, _, _, hoD, _, _⟩ := hns
          exact ⟨some oD, ho, rfl, rfl, hoD⟩
      have hcl : (PySem.W.clsIn X.K C).isSome = true := by
        obtain ⟨cd, hc, _⟩ := PySem.W.any_some T.at_.hd
        rw [hc] <;> rfl
      exact PySem.W.kia_one (PySem.W.kitx_exc hcl T.at_.hg T.at_.hk T.at_.hs T.at_.ha T.at_.hn T.at_.ht T.at_.hm) I.kIn J e (fun z => nomatch z) fun tk => ⟨.bl b, H, I.kept (t' := tk) fun _ _ z => z, rfl, q⟩
section
variable {K : PySem.W.Frag} {C C' : Addr} {k k' : Kd}
theorem bm_ref : ∀ (k : Kd) (C : Addr), k.bm.contains (Value.ref C) = false
  | .ve, _ => rfl | .ke, _ => rfl | .le, _ => rfl | .oe, _ => rfl | .re, _ => rfl
theorem bm_ne : ∀ (k : Kd), k.bm.isEmpty = false
  | .ve => rfl | .ke => rfl | .le => rfl | .oe => rfl | .re => rfl
theorem EC.cd (T : EC K C k) : ∃ cd : ClassData, PySem.W.clsIn K C = some cd ∧ cd.mro = .ref C :: k.bm := by
  obtain ⟨nm, q, N, bs, sn, sub, ab, col, dd, k0, k1, k2, k3, k5, hC⟩ := T.cls
  refine ⟨_, by unfold PySem.W.clsIn; rw [hC], rfl⟩
theorem EC.ty (T : EC K C k) : PySem.W.typeIn K (.ref C) = some (.type "type") := by
  obtain ⟨nm, q, N, bs, sn, sub, ab, col, dd, k0, k1, k2, k3, k5, hC⟩ := T.cls
  show (K.lookup C).map (·.cls) = _
  rw [hC] <;> rfl
/-- isinstance(e, C'), C' an own class of errors -/
theorem kit_own (T : EC K C k) (T' : EC K C' k') : PySem.W.kitOne K (.ref C) (.ref C') = some (decide (C = C')) := by
  unfold PySem.W.kitOne
  by_cases h : C = C'
  · rw [if_pos (by rw [h]; exact beq_self_eq_true _), decide_eq_true h]
  · rw [if_neg (by intro z; exact h (Value.ref.inj (beq_iff_eq.mp z))), decide_eq_false h]
    obtain ⟨cd, hc, hm⟩ := T.cd
    obtain ⟨cd', hc', _⟩ := T'.cd
    show (if ((PySem.W.clsIn K C').isSome && PySem.W.typeIn K (.ref C') == some (.type "type")) = true then PySem.W.subIn K (.ref C) (.ref C') else none) = some false
    rw [if_pos (by rw [hc', T'.ty]; rfl)]
    show (PySem.W.clsIn K C).bind _ = _
    rw [hc, Option.bind_some, hm, if_neg (by simp), List.contains_cons, bm_ref, Bool.or_false]
    refine congrArg some (beq_eq_false_iff_ne.mpr fun z => h (Value.ref.inj z).symm)
/-- isinstance(e, T), T a built-in class -/
theorem kit_blt (T : EC K C k) (n : String) (hn : PySem.W.kitMeta n = true) : PySem.W.kitOne K (.ref C) (.type n) = some (k.bm.contains (.type n)) := by
  unfold PySem.W.kitOne
  rw [if_neg (by intro z; exact nomatch (beq_iff_eq.mp z))]
  obtain ⟨cd, hc, hm⟩ := T.cd
  show (if PySem.W.kitMeta n = true then PySem.W.subIn K (.ref C) (.type n) else none) = _
  rw [if_pos hn]
  show (PySem.W.clsIn K C).bind _ = _
  rw [hc, Option.bind_some, hm, if_neg (by simp), List.contains_cons]
  rfl
end
/-! ### xs.count(True), xs a list of bools -/
def isT (v : Value) : Bool := match v with
  | .bool b => b
  | _ => false
theorem bools_vals : ∀ {bs : List Bool} {us : List Value}, Vals (bs.map V.bl) us → (∀ y ∈ us, ∃ b, y = .bool b) ∧ us.countP isT = bs.count true
  | [], _, r => by
    cases r
    exact ⟨fun y hy => absurd hy (by simp), rfl⟩
  | b :: bs, _, r => by
    cases r with
    | cons r1 r2 =>
      obtain ⟨h1, h2⟩ := bools_vals r2
      cases (show _ = Value.bool b from r1)
      refine ⟨fun y hy => ?_, ?_⟩
      · rcases List.mem_cons.mp hy with e | e
        · exact ⟨b, e⟩
        · exact h1 y e
      · rw [List.countP_cons, List.count_cons, h2]
        cases b <;> rfl
def rCntT (K : PySem.W.Frag) : V → List V → Hp → VK → Prop := fun x xs H Q => ∃ (p : Addr) (bs : List Bool), x = .ref p ∧ xs = [.bl true] ∧ SqL K H p (bs.map V.bl) ∧ Q (.int (bs.count true : Nat)) H
theorem mt_cntT {X : Cx} : MtR X "list.count" (rCntT X.K) := by
  intro pins s σ H x xs v us Q I rx rxs h
  obtain ⟨p, bs, rfl, rfl, hs, q⟩ := h
  cases rx
  obtain ⟨u, rfl, ru⟩ := rxs.one
  cases (show u = Value.bool true from ru)
  obtain ⟨its, rv, ⟨⟨cls, dd, data, sl⟩, n, ho, hc, hdn, hd⟩, hlen⟩ := I.list hs
  simp only at hc hd
  subst hc hd
  obtain ⟨h1, h2⟩ := bools_vals rv
  refine call_meets PySem.F.slot_list_count ⟨_, ho, rfl⟩ PySem.F.entry_list_count (PySem.F.args_list_count_2 _ _)
    (SeqAt.list_countAt p its.toArray n dd sl (.bool true) isT) ⟨ho, fun y hy => ?_, ?_⟩
  · obtain ⟨b, rfl⟩ := h1 y (by simpa using hy)
    have z := SeqAt.EqAt.bool_bool (A := (X.A).in1) (s := s) b true
    have e : (b == true) = isT (.bool b) := by cases b <;> rfl
    rw [e] at z
    exact z
  · refine ⟨.int (bs.count true : Nat), H, I.tok _, ⟨s.toks, ?_⟩, q⟩
    show Value.int ((its.toArray.toList.countP isT : Nat) : Int) s.toks = _
    rw [show its.toArray.toList = its from by simp, h2]
/-! ### repr of data; nothing guards it -/
inductive Th (K : PySem.W.Frag) (H : Hp) : V → PyData → Prop
  | dp {v : V} {d : PyData} : Dp K H v d → d.hasDict = false → Th K H v d
  | d0 {a : Addr} : H a = some (.dK []) → Th K H (.ref a) (.dict [])
  | d1 {a : Addr} : H a = some (.dK [(.inr "a", .int 1)]) → Th K H (.ref a) (.dict [(.str "a", .int 1)])
theorem dp_same {K : PySem.W.Frag} {H H' : Hp} (e : ∀ b o, H b = some o → H' b = some o) : ∀ (d : PyData) (v : V), Dp K H v d → Dp K H' v d := by
  have sT : ∀ {a : Addr} {xs : List V}, SqT K H a xs → SqT K H' a xs := fun {a xs} h => by
    rcases h with (h | ⟨o, h⟩) | h
    · exact .inl (.inl (e _ _ h))
    · exact .inl (.inr ⟨o, e _ _ h⟩)
    · exact .inr h
  have sL : ∀ {a : Addr} {xs : List V}, SqL K H a xs → SqL K H' a xs := fun {a xs} h => Same.seq e h
  intro d v h
  exact Dp.rec (motive_1 := fun v d _ => Dp K H' v d) (motive_2 := fun vs ds _ => DpAll K H' vs ds) .non .bl .int .str (fun h1 _ ih => .lst (sL h1) ih) (fun h1 _ ih => .tup (sT h1) ih) .nil (fun _ _ i1 i2 => .cons i1 i2) h
theorem Th.same {K : PySem.W.Frag} {H H' : Hp} {v : V} {d : PyData} (t : Th K H v d) (e : ∀ b o, H b = some o → H' b = some o) : Th K H' v d := by
  cases t with
  | dp h n => exact .dp (dp_same e _ _ h) n
  | d0 h => exact .d0 (e _ _ h)
  | d1 h => exact .d1 (e _ _ h)
section
variable {X : Cx} {pins : List (Addr × Obj)} {σ : L2.St} {H : Hp} {s : Shared}
theorem Th.reads {v : V} {u : Value} {d : PyData} (I : Inv X pins σ H s) (t : Th X.K H v d) (r : RelV v u) : ∃ as, Reads s.heap u d as ∧ (d.hasDict = true → sysModules ∉ as) := by
  cases t with
  | dp h n =>
    obtain ⟨as, q⟩ := Dp.reads I d v u h r
    exact ⟨as, q, fun z => by rw [n] at z; cases z⟩
  | @d0 a h =>
    cases (show u = Value.ref a from r)
    obtain ⟨_, hn, vs, rel, o, es, ep, ho, hx, hd, he⟩ := dk_of I.hok h
    cases rel
    obtain ⟨_, pr, _⟩ := he
    have e0 : es.toList = [] := by
      generalize es.toList = l at pr
      cases pr
      rfl
    refine ⟨_, Reads.dict (as := []) (bs := []) ho hx.1 hd (by rw [e0]; exact .nil) (by rw [e0]; exact .nil), fun _ z => ?_⟩
    have z2 : sysModules = a := by simpa using z
    rw [z2] at hn
    simp at hn
  | @d1 a h =>
    cases (show u = Value.ref a from r)
    obtain ⟨_, hn, vs, rel, o, es, ep, ho, hx, hd, he⟩ := dk_of I.hok h
    obtain ⟨_, pr, _⟩ := he
    cases rel with
    | @cons _ q _ _ r1 r2 =>
      cases r2
      obtain ⟨k1, v1⟩ := q
      obtain ⟨ek, t1, ev⟩ := r1
      have ek' : Sum.inr ("a" : Str) = k1 := ek
      have ev' : v1 = Value.int 1 t1 := ev
      subst ek' ev'
      obtain ⟨e, e0, hk, hv⟩ : ∃ e : DictEntry, es.toList = [e] ∧ (mixKind X.prog X.w).is (.inr ("a" : Str)) e.key = true ∧ e.val = Value.int 1 t1 := by
        generalize es.toList = l at pr
        cases pr with
        | cons p1 p2 p3 =>
          cases p3
          exact ⟨_, rfl, p1, p2⟩
      obtain ⟨t2, hk2⟩ : ∃ t2, e.key = Value.str ("a" : Str) t2 := by
        rcases keyIs_shape (show keyIs (.inr ("a" : Str)) e.key = true from hk) with ⟨i, t, z, _⟩ | ⟨x, t, z, z2⟩
        · cases z
        · cases z
          exact ⟨t, z2⟩
      have q1 : Reads s.heap e.key (.str ("a" : Str)) [] := by rw [hk2]; exact .str _ _
      have q2 : Reads s.heap e.val (.int 1) [] := by rw [hv]; exact .int _ _
      refine ⟨_, Reads.dict (as := [] ++ []) (bs := [] ++ []) ho hx.1 hd (by rw [e0]; exact .cons q1 .nil) (by rw [e0]; exact .cons q2 .nil), fun _ z => ?_⟩
      have z2 : sysModules = a := by simpa using z
      rw [z2] at hn
      simp at hn
/-- a written list: its place is not that of the table of modules -/
def tLstM (t : TA) : TE := fun σ H Q => t σ H fun xs H1 => xs.length ≤ sizeLine ∧ ∀ p, H1 p = none → p ≠ sysModules → Q (.ref p) (upd H1 p (.lst xs))
theorem pe_lstM {es : List Expr} {t : TA} {pos : Pos} (h : PA X es t) : PE X (.List es pos) (tLstM t) := by
  refine ⟨fun pins s σ H Q I hq => ?_⟩
  refine wpAny_List_spliced (thn (h.run pos pins s σ H _ I hq) fun us s1 ⟨xs, H1, I1, r, z, q⟩ => ⟨by rw [← r.length]; exact z, ?_⟩)
  have hf : H1 s1.heap.objs.size = none := I1.hok.fresh (Nat.le_refl _)
  refine ⟨.ref s1.heap.objs.size, upd H1 s1.heap.objs.size (.lst xs), I1.laid (t' := s1.toks) (fun b u e => Heap.get?_push_of_some _ e) (Nat.le_refl _) ?_, rfl, q _ hf (Nat.ne_of_gt I1.big)⟩
  exact ⟨z, us, 0, r, Heap.get?_push_size _ rfl⟩
/-- repr of a datum -/
def rRepr (K : PySem.W.Frag) : List V → Hp → VK → Prop := fun xs H Q => ∃ v d, xs = [v] ∧ Th K H v d ∧ d.showable = true ∧ d.shown.length ≤ sizeLine ∧ d.depth ≤ 8 ∧ Q (.str d.shown) H
theorem call_repr (hg : X.A.guards = some []) (hu : X.A.units + 64 < cLine) : CallR X (.builtin "repr") (rRepr X.K) := by
  intro pins s σ H xs us Q I r h
  obtain ⟨v, d, rfl, t, hs, hl, hd, q⟩ := h
  obtain ⟨u, rfl, ru⟩ := vals1 r
  obtain ⟨as, rd, hm⟩ := t.reads I ru
  have fin : ∀ tk, EP X pins σ Q (.str d.shown tk) { s with toks := s.toks + 1 } := fun tk => ⟨.str _, H, I.tok _, ⟨_, rfl⟩, q⟩
  cases rd with
  | none => exact PySem.P.repr_of_none (fin _)
  | bool b =>
    refine PySem.P.repr_of_bool ?_
    have z := fin s.toks
    simp only [PyData.shown] at z
    exact z
  | int i tk =>
    have hi : i.natAbs.log2 < 1920 := of_decide_eq_true (by simpa only [PyData.showable] using hs)
    refine PySem.P.repr_of_int hi ?_
    have z := fin s.toks
    simp only [PyData.shown] at z
    exact z
  | str x tk =>
    have z := fin s.toks
    simp only [PyData.shown] at z hl
    exact PySem.P.repr_of_str z hl
  | list h1 h2 h3 h4 => exact repr_of_reads' (.list h1 h2 h3 h4) hs hm hg (by omega) (fun _ _ e => e) (fun h' u' tk kp => ⟨.str _, H, I.kept kp, ⟨_, rfl⟩, q⟩) hl
  | tuple h1 h2 h3 h4 => exact repr_of_reads' (.tuple h1 h2 h3 h4) hs hm hg (by omega) (fun _ _ e => e) (fun h' u' tk kp => ⟨.str _, H, I.kept kp, ⟨_, rfl⟩, q⟩) hl
  | dict h1 h2 h3 h4 h5 => exact repr_of_reads' (.dict h1 h2 h3 h4 h5) hs hm hg (by omega) (fun _ _ e => e) (fun h' u' tk kp => ⟨.str _, H, I.kept kp, ⟨_, rfl⟩, q⟩) hl
/-- repr of a list of a datum, twice -/
def rRepr2 (K : PySem.W.Frag) : List V → Hp → VK → Prop := fun xs H Q => ∃ p v d, xs = [.ref p] ∧ p ≠ sysModules ∧ H p = some (.lst [v, v]) ∧ Th K H v d ∧ (PyData.list [d, d]).showable = true ∧ (PyData.list [d, d]).shown.length ≤ sizeLine ∧ (PyData.list [d, d]).depth ≤ 8 ∧ Q (.str (PyData.list [d, d]).shown) H
theorem call_repr2 (hg : X.A.guards = some []) (hu : X.A.units + 64 < cLine) : CallR X (.builtin "repr") (rRepr2 X.K) := by
  intro pins s σ H xs us Q I r h
  obtain ⟨p, v, d, rfl, hp, hH, t, hs, hl, hd, q⟩ := h
  obtain ⟨u, rfl, ru⟩ := vals1 r
  cases (show u = Value.ref p from ru)
  obtain ⟨its, rv, ⟨o, n, ho, hc, _, hdat⟩, _⟩ := I.list (SqL.of hH)
  cases rv with
  | cons r1 r2 =>
    cases r2 with
    | cons r2 r3 =>
      cases r3
      obtain ⟨as, d1, m1⟩ := t.reads I r1
      obtain ⟨bs, d2, m2⟩ := t.reads I r2
      have rd : Reads s.heap (.ref p) (.list [d, d]) _ := .list ho hc hdat (.cons d1 (.cons d2 .nil))
      refine repr_of_reads' rd hs (fun hh z => ?_) hg (by omega) (fun _ _ e => e) (fun h' u' tk kp => ⟨.str _, H, I.kept kp, ⟨_, rfl⟩, q⟩) hl
      have hdd : d.hasDict = true := by
        have z : (d.hasDict || (d.hasDict || false)) = true := by simpa only [PyData.hasDict, PyData.hasDictAll] using hh
        simpa using z
      rcases List.mem_cons.mp z with e | e
      · exact hp e.symm
      · rcases List.mem_append.mp e with e | e
        · exact m1 hdd e
        · rcases List.mem_append.mp e with e | e
          · exact m2 hdd e
          · cases e
end
end K34
set_option Elab.async false
set_option linter.all false
set_option maxRecDepth 100000
set_option maxHeartbeats 4000000
/-! a def's promise where no guard runs: FnOk's twin, its body, its call, the law's call -/
namespace K34
open PySem PySem.Spec PyProof.Rows L2
structure FnG (P : Program) (w : World) (K : PySem.W.Frag) (mg : Str → Option Value) (base : Heap) (k : Nat) (f : Addr) (fd : FuncData) (ps : List Str) (sp : Sp) : Prop where
  len : ∀ vs H Q E, sp vs H Q E → vs.length = ps.length
  go : ∀ (A : Around) (outer : List Env) (s : Shared) (H : Hp) (args : Args) (us : List Value) (vs : List V) (Q : VK) (E : XK), A.guards = some [] → Room k A → Env0 P w K mg base A outer s H → BindsTo s fd args (ps.zip us) → Vals vs us → sp vs H Q E →
    codeAny (model P w) A (.call (.ref f) args) (CR CX0 outer P w H s Q E) s
section
variable {P : Program} {w : World} {K : PySem.W.Frag} {mg : Str → Option Value} {base : Heap} {x qual : Str} {params : Arguments} {body : List Stmt} {scope : Scope} {dvs : List V} {kws : List (Str × V)} {f : Addr} {fd : FuncData}
theorem okGl {N ps : List Str} {k : Nat} {sp : Sp} {oc dV kV doc pm cdv ct : Value} {od an : Option Addr} {osl : Array (Option Value)} (lk : K.lookup f = some ⟨oc, od, .func (PySem.W.fnOf x qual params body scope dV kV doc pm an cdv ct), osl⟩) (hcd : PySem.W.codeIn K cdv qual = true)
    (S : FnScope N ps scope) (len : ∀ vs H Q E, sp vs H Q E → vs.length = ps.length)
    (hbody : ∀ (A : Around) (outer : List Env) (s : Shared) (H : Hp) (vs : List V) (Q : VK) (E : XK), A.guards = some [] → Room k (A.deeper (envOfC qual scope s.heap.objs.size f cdv)) → sp vs H Q E →
      ∃ t, PSs (cxOf CX0 P w K mg base N qual scope f cdv A outer s H E) body t ∧ t { nx := fun _ H' => Q .non H', rt := Q } (start N vs) H) : FnG P w K mg base (k + 1) f (PySem.W.fnOf x qual params body scope dV kV doc pm an cdv ct) ps sp := by
  refine ⟨len, fun A outer s H args us vs Q E hga hro e0 hb r hsp => ?_⟩
  have hl := len _ _ _ _ hsp
  have kx : K.In s.heap := e0.mod.kin.keeps fun b o e => (e0.bs b o e).1
  have lim : s.heap.NoLimit := e0.mod.nolimit.keeps fun b o e => (e0.bs b o e).1
  have hk : ∀ y ∈ ps.zip us, scope.names.lookup y.1 = some .local ∨ (scope.names.lookup y.1 = some .cell ∧ ((cellsFrom (s.heap.objs.size + 1) scope.names []).lookup y.1).isSome = true) := fun ⟨n, v⟩ hy => by
    rcases S.par n (List.of_mem_zip hy).1 with z | z
    · exact .inl z
    · exact .inr ⟨z, PySem.W.cellsFrom_some _ _ _ (.inl z)⟩
  refine codeAny_call_function hro.depth (kx _ _ lk) rfl S.co S.gen rfl (PySem.W.codeRec_of kx hcd) (hb _ _ _ _ ?_)
  refine wpAny_newFunctionEnv_cells S.kind hk fun env he s1 z => ?_
  subst he
  refine ⟨lim.keeps z.toInCall.keep, codeAny_func ?_⟩
  obtain ⟨t, ht, hq⟩ := hbody A outer s H vs Q E hga (hro.deeper _) hsp
  have I : Inv (cxOf CX0 P w K mg base N qual scope f cdv A outer s H E) [] (start N vs) H s1 := inv_start S hro.hd e0 hl r z
  refine wpAny_mono (ht.run [] s1 (start N vs) H _ I hq) (fun fl s' hs => ?_) fun e s' hs => hs
  have fin : ∀ {σ' : L2.St} {H' : Hp} {v : V} {u : Value}, Inv (cxOf CX0 P w K mg base N qual scope f cdv A outer s H E) [] σ' H' s' → RelV v u → Q v H' → CE outer P w H s Q u s' :=
    fun {σ' H' v u} J rv q => ⟨v, H', J.os, J.bare, J.base, J.hok, rv, q⟩
  cases fl with
  | ret u =>
    obtain ⟨v, σ', H', J, rv, q⟩ := hs
    exact fin J rv q
  | next =>
    obtain ⟨σ', H', J, q⟩ := hs
    exact fin (v := V.non) (u := Value.none) J rfl q
  | brk =>
    obtain ⟨_, _, _, q⟩ := hs
    exact False.elim q
  | cont =>
    obtain ⟨_, _, _, q⟩ := hs
    exact False.elim q
theorem okG {N ps : List Str} {k : Nat} {sp : Sp} (F : FunD K x qual params body scope dvs kws f fd) (S : FnScope N ps scope) (len : ∀ vs H Q E, sp vs H Q E → vs.length = ps.length)
    (hbody : ∀ (cdv : Value) (A : Around) (outer : List Env) (s : Shared) (H : Hp) (vs : List V) (Q : VK) (E : XK), A.guards = some [] → Room k (A.deeper (envOfC qual scope s.heap.objs.size f cdv)) → sp vs H Q E →
      ∃ t, PSs (cxOf CX0 P w K mg base N qual scope f cdv A outer s H E) body t ∧ t { nx := fun _ H' => Q .non H', rt := Q } (start N vs) H) : FnG P w K mg base (k + 1) f fd ps sp := by
  obtain ⟨oc, od, dV, kV, doc, pm, an, cdv, ct, osl, rfl, lk, hcd, _, _⟩ := F.ex
  exact okGl lk hcd S len fun A outer s H vs Q E hga hr hsp => hbody cdv A outer s H vs Q E hga hr hsp
end
section
variable {X : Cx} {k : Nat} {f : Addr} {fd : FuncData} {ps : List Str} {sp : Sp} {x : Str} {p pos : Pos} {e : Expr} {es : List Expr} {t : TA}
theorem pe_callG (F : FnG X.prog X.w X.K X.mg X.base k f fd ps sp) (hga : X.A.guards = some []) (hr : Room k X.A) (hg : Gl X x) (hm : X.mg x = some (.ref f)) (hk : PySem.W.keepIn X.K (.ref f) = true) (hb : Binds X.K fd ps [])
    (ha : PA X (e :: es) t) (hdb : (x == ("__debug__" : Str)) = false := by decide) (he : starEach (e :: es) X.env = (false, eval e X.env) :: starEach es X.env := by rfl) (hpl : (backTo pos (starEach es X.env)).any (·.1) = false := by rfl) :
    PE X (.Call (.Name x p) (e :: es) [] pos) (tCall sp [] E0 t) := by
  refine ⟨fun pins s σ H Q I h => ?_⟩
  refine wpAny_Call_Name_kw (ld_glob I hg hm ?_ hdb)
  refine PySem.W.callWith_K (h₀ := X.base) I.ok.mod.kin hk (thn (ha.run pos pins s σ H _ I h) fun us s1 ⟨vs, H1, I1, r, q⟩ => ⟨I1.kIn, ?_⟩) he hpl
  have r2 : Vals (vs ++ []) (us ++ []) := r.append .nil
  have hl : (us ++ []).length = ps.length := by rw [← r2.length]; exact F.len _ _ _ _ q
  show wpAny _ _ (call (.ref f) us) _ _ _
  refine wpAny_call (codeAny_mono (F.go X.A X.stack s1 H1 ⟨us, []⟩ (us ++ []) (vs ++ []) Q E0 hga hr I1.env0 (hb s1 us I1.kIn hl) r2 q) fun r s' hq => ?_)
  cases r with
  | error e => exact False.elim hq
  | ok fl =>
    cases fl with
    | ret u => exact I1.after hq
    | next => exact False.elim hq
    | brk => exact False.elim hq
    | cont => exact False.elim hq
end
/-- the law's def at the heap behind the top -/
theorem law_G {P : Program} {w : World} {K : PySem.W.Frag} {mg mb : Str → Option Value} {k : Nat} {fa a : Addr} {fd : FuncData} {x : Str} {sp : Sp} {s1 : Shared} {vs : List Value} {ns : List Int}
    (kx : K.In s1.heap) (hns : s1.heap.Ns mainGlobals mg) (hb : s1.heap.Ns builtinsNs mb) (hbb : ∀ y : Str, y ≠ "__name__" → mb y = bootBuiltins y) (hlim : s1.heap.NoLimit) (hg : s1.gens = #[])
    (ha : s1.heap.get? a = some { cls := .type "list", data := .seq vs.toArray }) (hi : IntsAre vs ns) (hl : ns.length ≤ sizeLine) (hr : Room k callerA)
    (F : ∀ base : Heap, K.In base → base.Ns mainGlobals mg → FnG P w K mg base k fa fd [x] sp) (hbd : ∀ (s : Shared) (u : Value), BindsTo s fd ⟨[u], []⟩ [(x, u)])
    (hsp : ∀ H : Hp, Only H → SqL K H a (ns.map V.int) → sp [.ref a] H (fun v _ => v = .bl true) fun _ _ _ => False) :
    codeAny (model P w) callerA (.call (.ref fa) ⟨[.ref a], []⟩) (fun r s' => r = .ok (.ret (.bool true)) ∧ OldK s1.heap s'.heap ∧ s'.os = s1.os ∧ AllBare s'.gens) s1 := by
  have rv := vals_ints hi
  have lv := hi.length
  have core : ∀ H : Hp, Only H → SqL K H a (ns.map V.int) → HOk P w H s1.heap → (∀ b, H b ≠ none → b = a) → (H a ≠ none → K.lookup a = none) →
      codeAny (model P w) callerA (.call (.ref fa) ⟨[.ref a], []⟩) (fun r s' => r = .ok (.ret (.bool true)) ∧ OldK s1.heap s'.heap ∧ s'.os = s1.os ∧ AllBare s'.gens) s1 := by
    intro H hO hS hok hA hK
    have bo : ∀ {b : Addr} {o : Obj}, s1.heap.get? b = some o → H b = none → (hidT s1.heap H).get? b = some o := fun e n => hidT_get e n
    have nA : ∀ {b : Addr} {o : Obj} {es : Array DictEntry} {ep : Nat}, s1.heap.get? b = some o → o.data = .dict es ep → H b = none := fun {b o es ep} e d => by
      cases q : H b with
      | none => rfl
      | some u =>
        have e' : b = a := hA b (by rw [q]; simp)
        subst e'
        rw [ha] at e; cases e
        have d' : Data.seq vs.toArray _ = Data.dict es ep := d
        cases d'
    have nsK : ∀ {b : Addr} {m : Str → Option Value}, s1.heap.Ns b m → (hidT s1.heap H).Ns b m := fun {b m} ⟨o, es, ep, e, d, r⟩ => ⟨o, es, ep, bo e (nA e d), d, r⟩
    have hKb : K.In (hidT s1.heap H) := fun b o e => bo (kx b o e) (by
      cases q : H b with
      | none => rfl
      | some u =>
        have e' : b = a := hA b (by rw [q]; simp)
        subst e'
        rw [hK (by rw [q]; simp)] at e; cases e)
    have hM : Mod K mg (hidT s1.heap H) := ⟨hKb, nsK hns, ⟨mb, nsK hb, hbb⟩, let ⟨mc, h1, h2⟩ := hlim; ⟨mc, nsK h1, h2⟩⟩
    have e0 : Env0 P w K mg (hidT s1.heap H) callerA [] s1 H := ⟨rfl, hM, fun b o e => of_hidT e, Nat.le_of_eq (hidT_size _ _), trivial, fun b hb => absurd (show b ∈ ([] : List Addr) from hb) (by simp), hok, .of_eq hg⟩
    refine codeAny_mono ((F _ hKb (nsK hns)).go callerA [] s1 H ⟨[.ref a], []⟩ [.ref a] [.ref a] _ _ rfl hr e0 (hbd s1 (.ref a)) (.cons rfl .nil) (hsp H hO hS)) fun r s' h => ?_
    cases r with
    | error e => exact False.elim h
    | ok fl =>
      cases fl with
      | next => exact False.elim h
      | brk => exact False.elim h
      | cont => exact False.elim h
      | ret u =>
        obtain ⟨v, H', os, bare, un, hok', r', q⟩ := h
        have q' : v = .bl true := q
        subst q'
        obtain rfl : u = Value.bool true := r'
        refine ⟨rfl, OldK.of_keep fun b o e => ?_, os, bare⟩
        cases q : H b with
        | none => exact un.keep b o e q (by intro z; exact absurd (show b ∈ ([] : List Addr) from z) (by simp)) (by simp)
        | some u =>
          rcases hO b with z | ⟨ob, xs, z⟩
          · rw [q] at z; cases z
          · have z2 := un.frzs b ob _ z
            obtain ⟨e1, _⟩ := hok b _ z
            obtain ⟨e2, _⟩ := hok' b _ z2
            rw [e] at e1; cases e1
            exact e2
  cases hk : K.lookup a with
  | some o =>
    have e := kx a o hk
    rw [ha] at e
    cases e
    refine core (fun _ => none) (fun _ => .inl rfl) (.inr ⟨_, vs.toArray, _, hk, rfl, rfl, rfl, by rw [List.size_toArray, lv]; exact hl, by simpa using rv⟩) (fun b u z => by have z' : (none : Option HO) = some u := z; cases z') (fun b z => absurd rfl z) fun z => absurd rfl z
  | none =>
    refine core (fun b => if b = a then some (.frz { cls := .type "list", data := .seq vs.toArray } (.lst (ns.map V.int))) else none) (fun b => ?_) (.inl (.inr ⟨{ cls := .type "list", data := .seq vs.toArray }, if_pos rfl⟩)) (fun b u z => ?_) (fun b z => ?_) fun _ => hk
    · by_cases hb : b = a
      · exact .inr ⟨_, _, if_pos hb⟩
      · exact .inl (if_neg hb)
    · by_cases hb : b = a
      · have z' := (if_pos hb).symm.trans z
        cases z'
        subst hb
        exact ⟨ha, by rw [List.length_map]; exact hl, vs, _, rv, ha⟩
      · have z' := (if_neg hb).symm.trans z
        cases z'
    · by_cases hb : b = a
      · exact hb
      · exact absurd (if_neg hb) z
/-- a law: F gives the written part, the function object, the promise over every base -/
theorem walk_G {l : PySem.W.OpenLaw} {n k : Nat} {q : Program} {loose : List Str} {XP : (Str → Option Value) → Heap → Prop} {YP : World → Heap → Prop} {d : DefRec} {x : Str}
    (hn : l.most = some n) (hn2 : n ≤ sizeLine) (hdf : d.params.defaults = []) (hr : Room k callerA)
    (F : ∀ (w : World) (mg : Str → Option Value) (fa : Addr) (h : Heap), YP w h → h.Ns mainGlobals mg → mg d.name = some (.ref fa) →
      ∃ (K : PySem.W.Frag) (fd : FuncData) (sp : Sp), K.In h ∧ (∀ (s : Shared) (u : Value), BindsTo s fd ⟨[u], []⟩ [(x, u)]) ∧
        (∀ (H : Hp) (a : Addr) (ns : List Int), ns.length ≤ n → Only H → SqL K H a (ns.map V.int) → sp [.ref a] H (fun v _ => v = .bl true) fun _ _ _ => False) ∧
        ∀ base : Heap, K.In base → base.Ns mainGlobals mg → FnG l.prog w K mg base k fa fd [x] sp) :
    PySem.W.WalkO q loose XP YP l.row.toRowW d [] (fun f vs => PySem.call f vs) := by
  refine Att.attach_call hn hdf fun w s0 s1 mg mb fa o pm cd doc a vs ns G Y ho hd hcd hmg hobj hints hlen hg => ?_
  obtain ⟨K, fd, sp, kx, hb, hsp, hF⟩ := F w mg fa _ Y G.T.g hmg
  exact law_G kx G.T.g G.T.b G.T.builtins G.T.nolimit hg hobj hints (Nat.le_trans hlen hn2) hr hF hb fun H hO hS => hsp H a ns hlen hO hS
end K34
set_option Elab.async false
set_option linter.all false
set_option maxRecDepth 100000
set_option maxHeartbeats 4000000
namespace K26
open PySem PySem.Spec PyProof.Rows L2
abbrev FnP (K : PySem.W.Frag) (x : Str) (st : Stmt) (f : Addr) (fd : FuncData) : Prop := FunD K x x (defArgs st) (defBody st) (defScope st) [] [] f fd
/-! ### the pen -/
def penK (c : Addr) (t l : Int) : List (Key × V) := [(.inr "cells", .ref c), (.inr "turn", .int t), (.inr "left", .int l)]
theorem pen_cells (c : Addr) (t l : Int) : valV (penK c t l) (.inr ("cells" : Str)) = some (.ref c) := by kernel_rfl
theorem pen_turn (c : Addr) (t l : Int) : valV (penK c t l) (.inr ("turn" : Str)) = some (.int t) := by kernel_rfl
theorem pen_left (c : Addr) (t l : Int) : valV (penK c t l) (.inr ("left" : Str)) = some (.int l) := by kernel_rfl
theorem put_turn (c : Addr) (t l z : Int) : putK (penK c t l) (.inr ("turn" : Str)) (.int z) = penK c z l := by kernel_rfl
theorem put_left (c : Addr) (t l z : Int) : putK (penK c t l) (.inr ("left" : Str)) (.int z) = penK c t z := by kernel_rfl
/-- a pen stands at p, its cells at c -/
structure PenAt (H : Hp) (p c : Addr) (ns : List Int) (t l : Int) : Prop where
  d : H p = some (.dK (penK c t l))
  c : H c = some (.lst (ns.map .int))
  ht : 0 ≤ t
  hl : 0 ≤ l
  hn : ns.length ≤ 63
theorem get_cells {H : Hp} {p c : Addr} {t l : Int} (h : H p = some (.dK (penK c t l))) : DGet H p (.str "cells") (some (.ref c)) := by
  have g := DGet.k (k := Sum.inr ("cells" : Str)) h
  rw [pen_cells] at g
  exact g
theorem get_turn {H : Hp} {p c : Addr} {t l : Int} (h : H p = some (.dK (penK c t l))) : DGet H p (.str "turn") (some (.int t)) := by
  have g := DGet.k (k := Sum.inr ("turn" : Str)) h
  rw [pen_turn] at g
  exact g
theorem get_left {H : Hp} {p c : Addr} {t l : Int} (h : H p = some (.dK (penK c t l))) : DGet H p (.str "left") (some (.int l)) := by
  have g := DGet.k (k := Sum.inr ("left" : Str)) h
  rw [pen_left] at g
  exact g
theorem set_turn {H : Hp} {p c : Addr} {t l : Int} (h : H p = some (.dK (penK c t l))) (z : Int) : DPut H p (.str "turn") (.int z) (upd H p (.dK (penK c z l))) := by
  have g := DPut.k (k := Sum.inr ("turn" : Str)) (v := .int z) h (show 3 < sizeLine from by decide)
  rw [put_turn] at g
  exact g
theorem set_left {H : Hp} {p c : Addr} {t l : Int} (h : H p = some (.dK (penK c t l))) (z : Int) : DPut H p (.str "left") (.int z) (upd H p (.dK (penK c t z))) := by
  have g := DPut.k (k := Sum.inr ("left" : Str)) (v := .int z) h (show 3 < sizeLine from by decide)
  rw [put_left] at g
  exact g
/-- all that was tracked is as it was, but for what stands at p -/
def But (p : Addr) (H H' : Hp) : Prop := ∀ b o, b ≠ p → H b = some o → H' b = some o
theorem But.refl (p : Addr) (H : Hp) : But p H H := fun _ _ _ h => h
theorem But.trans {p : Addr} {H H1 H2 : Hp} (a : But p H H1) (b : But p H1 H2) : But p H H2 := fun c o n h => b c o n (a c o n h)
theorem But.of {p : Addr} {H H' : Hp} (a : Same H H') : But p H H' := fun c o _ h => a c o h
theorem But.put {p : Addr} {H H' : Hp} {o : HO} (a : But p H H') : But p H (upd H' p o) := fun c u n h => by rw [upd_ne n]; exact a c u n h
theorem But.new {p q : Addr} {H H' : Hp} {o : HO} (a : But p H H') (n : H q = none) : But p H (upd H' q o) := fun c u n' h => by
  rw [upd_ne (ne_of_none h n)]
  exact a c u n' h
theorem But.anew {p q : Addr} {H H' : Hp} {o : HO} (a : But p H H') (n : H' q = none) : But p H (upd H' q o) := fun c u n' h => by
  have h' := a c u n' h
  rw [upd_ne (ne_of_none h' n)]
  exact h'
theorem same_new {q : Addr} {H H' : Hp} {o : HO} (a : Same H H') (n : H' q = none) : Same H (upd H' q o) := fun c u h => by
  rw [upd_ne (ne_of_none (a c u h) n)]
  exact a c u h
theorem itT {A B : Prop} {c : Bool} (hc : c = true) (h : A) : if c = true then A else B := by
  subst hc
  exact iteT h
theorem itF {A B : Prop} {c : Bool} (hc : c = false) (h : B) : if c = true then A else B := by
  subst hc
  exact iteF h
def spDraw : Sp := fun vs H Q _ => ∃ (p c : Addr) (ns : List Int) (t l m : Int), vs = [.ref p, .int m] ∧ PenAt H p c ns t l ∧ t < 1000000000000 ∧ 0 < m ∧ m < 1073741824 ∧
  ∀ (k t' l' : Int) (H' : Hp), 0 ≤ k → k < m → t' ≤ t + 1 → PenAt H' p c ns t' l' → But p H H' → Q (.int k) H'
theorem scDraw : FnScope ["_law_pen_here", "_law_many", "_law_digit", "_law_turn", "_law_cell", "_law_primes", "_law_prime", "_law_drawn"] ["_law_pen_here", "_law_many"] (defScope sDraw) :=
  ⟨rfl, rfl, rfl, by decide +kernel, rfl, by decide +kernel, by decide +kernel⟩
structure TxB (mg : Str → Option Value) : Prop where
  int : mg "int" = none
  len : mg "len" = none
  abs : mg "abs" = none
  list : mg "list" = none
theorem can_ints : ∀ ns : List Int, PyData.canLayAll0 (ns.map PyData.int) = true
  | [] => rfl
  | n :: r => by
    show (PyData.canLay0 (.int n) && PyData.canLayAll0 (r.map PyData.int)) = true
    rw [can_ints r]
    rfl
theorem depth_ints : ∀ ns : List Int, PyData.depthAll (ns.map PyData.int) ≤ 1
  | [] => by decide
  | n :: r => by
    have := depth_ints r
    show max (PyData.depth (.int n)) (PyData.depthAll (r.map PyData.int)) ≤ 1
    refine Nat.max_le.mpr ⟨?_, this⟩
    rw [PyData.depth]
    all_goals decide
theorem shaped_ints (ns : List Int) : SeqAt.shaped (.list (ns.map PyData.int)) = true := by
  have h1 : PyData.canLay0 (.list (ns.map PyData.int)) = true := can_ints ns
  have h2 : (PyData.list (ns.map PyData.int)).depth ≤ 64 := by
    have := depth_ints ns
    rw [PyData.depth]
    omega
  show (PyData.canLay0 (.list (ns.map PyData.int)) && decide ((PyData.list (ns.map PyData.int)).depth ≤ 64)) = true
  rw [h1, decide_eq_true h2]
  rfl
theorem dp_ints {K : PySem.W.Frag} {H : Hp} : ∀ ns : List Int, DpAll K H (ns.map V.int) (ns.map PyData.int)
  | [] => .nil
  | n :: r => .cons (.int n) (dp_ints r)
theorem eqv_nil (ns : List Int) : PyData.eqv (.list (ns.map PyData.int)) (.list []) = ns.isEmpty := by
  cases ns with
  | nil => rfl
  | cons n r => rfl
theorem len_pos {ns : List Int} (h : ns ≠ []) : (0 : Int) < ((ns.map V.int).length : Int) := by
  have hl : 0 < ns.length := List.length_pos_iff.mpr h
  rw [List.length_map]
  omega
theorem cell_at {ns : List Int} {t : Int} (ht : 0 ≤ t) (h : ns ≠ []) : ∃ z, atI (ns.map V.int) (t % ((ns.map V.int).length : Int)) = some (.int z) := by
  rw [List.length_map]
  have hl : 0 < ns.length := List.length_pos_iff.mpr h
  have h0 : 0 ≤ t % (ns.length : Int) := Int.emod_nonneg _ (by omega)
  have h1 : t % (ns.length : Int) < ns.length := Int.emod_lt_of_pos _ (by omega)
  obtain ⟨j, hj⟩ : ∃ j : Nat, t % (ns.length : Int) = (j : Int) := ⟨(t % (ns.length : Int)).toNat, by omega⟩
  have hjl : j < ns.length := by omega
  refine ⟨ns[j], ?_⟩
  rw [hj]
  exact atI_nat (by rw [List.getElem?_map, List.getElem?_eq_getElem hjl]; rfl)
def primes : List Int := [2147483629, 2147483647, 2147483587, 2147483563, 2147483579]
theorem prime_at {t : Int} (ht : 0 ≤ t) : ∃ z, atI (primes.map V.int) (t % 5) = some (.int z) ∧ 2147483500 < z ∧ z < 2147483648 := by
  have h0 : 0 ≤ t % 5 := Int.emod_nonneg _ (by omega)
  have h1 : t % 5 < 5 := Int.emod_lt_of_pos _ (by omega)
  have hc : t % 5 = 0 ∨ t % 5 = 1 ∨ t % 5 = 2 ∨ t % 5 = 3 ∨ t % 5 = 4 := by omega
  rcases hc with e | e | e | e | e <;> rw [e]
  · exact ⟨2147483629, rfl, by decide, by decide⟩
  · exact ⟨2147483647, rfl, by decide, by decide⟩
  · exact ⟨2147483587, rfl, by decide, by decide⟩
  · exact ⟨2147483563, rfl, by decide, by decide⟩
  · exact ⟨2147483579, rfl, by decide, by decide⟩
theorem hu64_of {A : Around} {k : Nat} (hr : Room k A) : A.units + 64 < cLine := hr.units
section
variable {P : Program} {w : World} {K : PySem.W.Frag} {mg : Str → Option Value} {base : Heap} {f : Addr} {fd : FuncData}
theorem ok_draw (F : FnP K "_law_draw" sDraw f fd) (T : TxB mg) : FnOk P w K mg base CX0 1 f fd ["_law_pen_here", "_law_many"] spDraw := by
  refine F.ok scDraw (fun vs H Q E h => ?_) (fun cdv A outer s H vs Q E hr h => ?_)
  · obtain ⟨p, c, ns, t, l, m, rfl, _⟩ := h
    rfl
  · obtain ⟨p, c, ns, t, l, m, rfl, D, ht, m0, m1, k⟩ := h
    have hu := hu_of hr
    have hu64 := hu64_of hr
    have nd := scDraw.nd
    refine ⟨_, PSs.nox (pss_cons (ps_if (pt_cmpR op_gt (pe_dget hu (pv 0) pe_str (fun _ _ => rfl)) pe_int (nomark _))
        (pss_cons (ps_set (i := 2) nd rfl (Or.inl rfl) (pe_op op_mod (pe_callTy call_int1 (by rfl) T.int (by decide +kernel) (pa_cons (pe_dget hu (pv 0) pe_str (fun _ _ => rfl)) pa_nil)) (pv 1)))
      (pss_cons (ps_dput hu (pv 0) pe_str (pe_op op_fdiv (pe_dget hu (pv 0) pe_str (fun _ _ => rfl)) (pv 1)) rfl)
      (pss_one (ps_ret (pv 2))))) pss_nil)
      (pss_cons (ps_set (i := 3) nd rfl (Or.inl rfl) (pe_dget hu (pv 0) pe_str (fun _ _ => rfl)))
      (pss_cons (ps_dput hu (pv 0) pe_str (pe_op op_add (pv 3) pe_int) rfl)
      (pss_cons (ps_set (i := 4) nd rfl (Or.inl rfl) (pe_op op_add (pe_op op_mul pe_int (pv 3)) pe_int))
      (pss_cons (ps_if (pt_cmpR (op_neD hu64) (pe_dget hu (pv 0) pe_str (fun _ _ => rfl)) (pe_lst pa_nil) (nomark _))
        (pss_one (ps_set (i := 4) nd rfl (Or.inl rfl) (pe_ix ix_list (pe_dget hu (pv 0) pe_str (fun _ _ => rfl)) (pe_op op_mod (pe_callTy call_int1 (by rfl) T.int (by decide +kernel) (pa_cons (pv 3) pa_nil)) (pe_callB call_len_seq (by rfl) T.len PySem.boot_len (pa_cons (pe_dget hu (pv 0) pe_str (fun _ _ => rfl)) pa_nil))) (fun _ _ => rfl)))) pss_nil)
      (pss_cons (ps_if (PW.pt (pw_and (pt_cmpR op_lt (pv 3) (pe_callB call_len_seq (by rfl) T.len PySem.boot_len (pa_cons (pe_dget hu (pv 0) pe_str (fun _ _ => rfl)) pa_nil)) (nomark _)) (pw_and1 (pt_cmpR op_ge (pe_callB call_abs (by rfl) T.abs (by decide +kernel) (pa_cons (pv 4) pa_nil)) (pe_op op_pow pe_int pe_int) (nomark _)))))
        (pss_cons (ps_dput hu (pv 0) pe_str (pe_op op_fdiv (pe_op op_sub (pe_callB call_abs (by rfl) T.abs (by decide +kernel) (pa_cons (pv 4) pa_nil)) (pe_op op_pow pe_int pe_int)) (pv 1)) rfl)
      (pss_one (ps_ret (pe_op op_mod (pe_op op_sub (pe_callB call_abs (by rfl) T.abs (by decide +kernel) (pa_cons (pv 4) pa_nil)) (pe_op op_pow pe_int pe_int)) (pv 1))))) pss_nil)
      (pss_cons (ps_set (i := 5) nd rfl (Or.inl rfl) (pe_lst (pa_cons pe_int (pa_cons pe_int (pa_cons pe_int (pa_cons pe_int (pa_cons pe_int pa_nil)))))))
      (pss_cons (ps_set (i := 6) nd rfl (Or.inl rfl) (pe_ix ix_list (pv 5) (pe_op op_mod (pe_callTy call_int1 (by rfl) T.int (by decide +kernel) (pa_cons (pv 3) pa_nil)) pe_int) (fun _ _ => rfl)))
      (pss_cons (ps_set (i := 7) nd rfl (Or.inl rfl) (pe_op op_mod (pe_callTy call_int1 (by rfl) T.int (by decide +kernel) (pa_cons (pe_op op_add (pe_op op_add (pe_op op_mul (pe_op op_mod (pe_callTy call_int1 (by rfl) T.int (by decide +kernel) (pa_cons (pv 4) pa_nil)) (pv 6)) pe_int) (pe_op op_mul (pv 3) (pe_op op_add (pe_op op_mul pe_int (pv 3)) pe_int))) pe_int) pa_nil)) (pv 6)))
      (pss_cons (ps_set (i := 7) nd rfl (Or.inl rfl) (pe_op op_mod (pe_callTy call_int1 (by rfl) T.int (by decide +kernel) (pa_cons (pe_op op_mul (pv 7) (pe_op op_add (pv 7) pe_int)) pa_nil)) (pe_ix ix_list (pv 5) (pe_op op_mod (pe_callTy call_int1 (by rfl) T.int (by decide +kernel) (pa_cons (pe_op op_add (pv 3) pe_int) pa_nil)) pe_int) (fun _ _ => rfl))))
      (pss_one (ps_ret (pe_op op_mod (pe_callTy call_int1 (by rfl) T.int (by decide +kernel) (pa_cons (pe_op op_fdiv (pe_op op_mod (pe_callTy call_int1 (by rfl) T.int (by decide +kernel) (pa_cons (pe_op op_add (pe_op op_add (pe_op op_mul (pv 7) (pv 7)) (pe_op op_mul pe_int (pv 7))) (pv 3)) pa_nil)) pe_int) pe_int) pa_nil)) (pv 1)))))))))))))), ?_⟩
    have hpc : c ≠ p := ne_of D.c D.d (by intro z; cases z)
    have reP : ∀ {H' : Hp} {t' l' : Int}, But p H H' → 0 ≤ t' → 0 ≤ l' → H' p = some (.dK (penK c t' l')) → PenAt H' p c ns t' l' := fun b h1 h2 h3 => ⟨h3, b c _ hpc D.c, h1, h2, D.hn⟩
    -- left > 0
    refine ⟨_, rfl, p, .int l, rfl, get_left D.d, _, _, rfl, rfl, _, rfl, ?_⟩
    refine ite2 (fun _ => ?_) (fun _ => ?_)
    · refine ⟨_, rfl, p, .int l, rfl, get_left D.d, .inl ⟨l, rfl, _, rfl, _, _, rfl, rfl, m0, ?_⟩⟩
      refine ⟨_, rfl, p, .int l, rfl, get_left D.d, _, rfl, _, _, rfl, rfl, ⟨m0, m1⟩, _, rfl, p, _, rfl, set_left D.d _, ?_⟩
      refine ⟨_, rfl, ?_⟩
      have b : But p H (upd H p (.dK (penK c t (l / m)))) := (But.refl p H).put
      exact k (l % m) t (l / m) _ (Int.emod_nonneg _ (by omega)) (Int.emod_lt_of_pos _ m0) (by omega) (reP b D.ht (Int.ediv_nonneg D.hl (by omega)) upd_same) b
    · refine ⟨_, rfl, p, .int t, rfl, get_turn D.d, ?_⟩
      refine ⟨_, rfl, _, _, rfl, rfl, _, rfl, p, _, rfl, set_turn D.d _, ?_⟩
      have b1 : But p H (upd H p (.dK (penK c (t + 1) l))) := (But.refl p H).put
      generalize hH1 : upd H p (.dK (penK c (t + 1) l)) = H1 at b1 ⊢
      have d1 : H1 p = some (.dK (penK c (t + 1) l)) := by rw [← hH1]; exact upd_same
      have D1 := reP b1 (by have := D.ht; omega) D.hl d1
      refine ⟨_, rfl, _, _, rfl, rfl, .inl ⟨by decide, by decide⟩, _, _, rfl, rfl, ?_⟩
      refine ⟨_, rfl, p, .ref c, rfl, get_cells d1, (by show 0 ≤ sizeLine; decide), fun q hq => ⟨.list (ns.map .int), .list [], .lst (SqL.of (by rw [upd_ne (ne_of_none D1.c hq)]; exact D1.c)) (dp_ints ns), .lst (SqL.of upd_same) .nil, shaped_ints ns, rfl, _, rfl, ?_⟩⟩
      have b2 : But p H (upd H1 q (.lst [])) := b1.anew hq
      have d2 : (upd H1 q (.lst [])) p = some (.dK (penK c (t + 1) l)) := by rw [upd_ne (ne_of_none d1 hq)]; exact d1
      generalize upd H1 q (.lst []) = H2 at b2 d2 ⊢
      have D2 := reP b2 (by have := D.ht; omega) D.hl d2
      have c2 := D2.c
      have t0 := D.ht
      rw [eqv_nil]
      by_cases hns : ns = []
      all_goals
        first
          | (refine itF (by rw [hns]; rfl) ?_
             dsimp only
             generalize 43 * t + 19 = z)
          | (refine itT (by cases ns with | nil => exact absurd rfl hns | cons _ _ => rfl) ?_
             obtain ⟨z, hz⟩ := cell_at (ns := ns) t0 hns
             refine ⟨_, rfl, p, .ref c, rfl, get_cells d2, _, rfl, .inl ⟨t, rfl, _, rfl, p, .ref c, rfl, get_cells d2, c, ns.map V.int, rfl, .inl (SqL.of c2), _, _, rfl, rfl, len_pos hns, c, ns.map V.int, _, .int z, rfl, rfl, SqL.of c2, hz, ?_⟩⟩)
        refine ⟨_, rfl, _, rfl, p, .ref c, rfl, get_cells d2, c, _, rfl, .inl (SqL.of c2), _, _, rfl, rfl, _, rfl, ?_⟩
        refine ite2 (fun _ => ?_) (fun _ => ?_)
        · refine ⟨_, rfl, _, rfl, _, _, rfl, rfl, ⟨by decide, by decide, by decide⟩, _, _, rfl, rfl, _, rfl, ?_⟩
          refine ite2 (fun hge => ?_) (fun _ => ?_)
          · have hge' := of_decide_eq_true hge
            refine ⟨_, rfl, _, rfl, _, _, rfl, rfl, ⟨by decide, by decide, by decide⟩, _, _, rfl, rfl, _, rfl, _, _, rfl, rfl, ⟨m0, m1⟩, _, rfl, p, _, rfl, set_left d2 _, ?_⟩
            refine ⟨_, rfl, _, rfl, _, _, rfl, rfl, ⟨by decide, by decide, by decide⟩, _, _, rfl, rfl, _, rfl, _, _, rfl, rfl, m0, ?_⟩
            have b3 := b2.put (o := .dK (penK c (t + 1) (((if z < 0 then -z else z) - 10 ^ (18 : Int).toNat) / m)))
            exact k _ (t + 1) _ _ (Int.emod_nonneg _ (by omega)) (Int.emod_lt_of_pos _ m0) (Int.le_refl _) (reP b3 (by omega) (Int.ediv_nonneg (Int.sub_nonneg_of_le hge') (by omega)) upd_same) b3
          · obtain ⟨pr, hpr, p0, p1⟩ := prime_at t0
            obtain ⟨ps, hps, p2, p3⟩ := prime_at (t := t + 2) (by omega)
            refine ⟨(by show 5 ≤ sizeLine; decide), fun q5 h5 => ?_⟩
            have b3 := b2.anew (o := .lst (primes.map V.int)) h5
            have d3 : (upd H2 q5 (.lst (primes.map V.int))) p = some (.dK (penK c (t + 1) l)) := by rw [upd_ne (ne_of_none d2 h5)]; exact d2
            have l5 : SqL K (upd H2 q5 (.lst (primes.map V.int))) q5 (primes.map V.int) := SqL.of upd_same
            refine ⟨_, rfl, _, rfl, .inl ⟨t, rfl, _, _, rfl, rfl, (by show (0 : Int) < 5; decide), q5, _, _, .int pr, rfl, rfl, l5, hpr, ?_⟩⟩
            have e0 := Int.emod_nonneg z (b := pr) (by omega)
            have e1 := Int.emod_lt_of_pos z (b := pr) (by omega)
            refine ⟨_, rfl, .inl ⟨z, rfl, _, rfl, _, _, rfl, rfl, (by show 0 < pr; omega), _, _, rfl, rfl, .inl ⟨by omega, by omega⟩, _, rfl, _, rfl, _, _, rfl, rfl, .inl ⟨by decide, by decide⟩, _, _, rfl, rfl, _, _, rfl, rfl, .inl ⟨by omega, by omega⟩, _, _, rfl, rfl, _, _, rfl, rfl, .inl ⟨_, rfl, _, rfl, _, _, rfl, rfl, (by show 0 < pr; omega), ?_⟩⟩⟩
            dsimp only
            generalize hd : (z % pr * 39373 + t * (30011 * t + 8117) + 23) % pr = d
            have f0 : 0 ≤ d := by rw [← hd]; exact Int.emod_nonneg _ (by omega)
            have f1 : d < pr := by rw [← hd]; exact Int.emod_lt_of_pos _ (by omega)
            refine ⟨_, rfl, _, rfl, _, _, rfl, rfl, _, _, rfl, rfl, .inl ⟨by omega, by omega⟩, .inl ⟨_, rfl, _, rfl, _, rfl, _, _, rfl, rfl, .inl ⟨_, rfl, _, _, rfl, rfl, (by show (0 : Int) < 5; decide), q5, _, _, .int ps, rfl, rfl, l5, hps, _, _, rfl, rfl, (by show 0 < ps; omega), ?_⟩⟩⟩
            dsimp only
            generalize hg : d * (d + 69621) % ps = g
            have g0 : 0 ≤ g := by rw [← hg]; exact Int.emod_nonneg _ (by omega)
            have g1 : g < ps := by rw [← hg]; exact Int.emod_lt_of_pos _ (by omega)
            refine ⟨_, rfl, _, rfl, _, _, rfl, rfl, .inl ⟨by omega, by omega⟩, _, rfl, _, _, rfl, rfl, .inl ⟨by decide, by decide⟩, _, _, rfl, rfl, _, rfl, _, _, rfl, rfl, .inl ⟨_, rfl, _, _, rfl, rfl, (by show (0 : Int) < 2147483549; decide), _, _, rfl, rfl, ⟨by decide, by decide⟩, .inl ⟨_, rfl, _, rfl, _, _, rfl, rfl, m0, ?_⟩⟩⟩
            exact k _ (t + 1) l _ (Int.emod_nonneg _ (by omega)) (Int.emod_lt_of_pos _ m0) (Int.le_refl _) (reP b3 (by omega) D.hl d3) b3
        · refine iteF ?_
          obtain ⟨pr, hpr, p0, p1⟩ := prime_at t0
          obtain ⟨ps, hps, p2, p3⟩ := prime_at (t := t + 2) (by omega)
          refine ⟨(by show 5 ≤ sizeLine; decide), fun q5 h5 => ?_⟩
          have b3 := b2.anew (o := .lst (primes.map V.int)) h5
          have d3 : (upd H2 q5 (.lst (primes.map V.int))) p = some (.dK (penK c (t + 1) l)) := by rw [upd_ne (ne_of_none d2 h5)]; exact d2
          have l5 : SqL K (upd H2 q5 (.lst (primes.map V.int))) q5 (primes.map V.int) := SqL.of upd_same
          refine ⟨_, rfl, _, rfl, .inl ⟨t, rfl, _, _, rfl, rfl, (by show (0 : Int) < 5; decide), q5, _, _, .int pr, rfl, rfl, l5, hpr, ?_⟩⟩
          have e0 := Int.emod_nonneg z (b := pr) (by omega)
          have e1 := Int.emod_lt_of_pos z (b := pr) (by omega)
          refine ⟨_, rfl, .inl ⟨z, rfl, _, rfl, _, _, rfl, rfl, (by show 0 < pr; omega), _, _, rfl, rfl, .inl ⟨by omega, by omega⟩, _, rfl, _, rfl, _, _, rfl, rfl, .inl ⟨by decide, by decide⟩, _, _, rfl, rfl, _, _, rfl, rfl, .inl ⟨by omega, by omega⟩, _, _, rfl, rfl, _, _, rfl, rfl, .inl ⟨_, rfl, _, rfl, _, _, rfl, rfl, (by show 0 < pr; omega), ?_⟩⟩⟩
          dsimp only
          generalize hd : (z % pr * 39373 + t * (30011 * t + 8117) + 23) % pr = d
          have f0 : 0 ≤ d := by rw [← hd]; exact Int.emod_nonneg _ (by omega)
          have f1 : d < pr := by rw [← hd]; exact Int.emod_lt_of_pos _ (by omega)
          refine ⟨_, rfl, _, rfl, _, _, rfl, rfl, _, _, rfl, rfl, .inl ⟨by omega, by omega⟩, .inl ⟨_, rfl, _, rfl, _, rfl, _, _, rfl, rfl, .inl ⟨_, rfl, _, _, rfl, rfl, (by show (0 : Int) < 5; decide), q5, _, _, .int ps, rfl, rfl, l5, hps, _, _, rfl, rfl, (by show 0 < ps; omega), ?_⟩⟩⟩
          dsimp only
          generalize hg : d * (d + 69621) % ps = g
          have g0 : 0 ≤ g := by rw [← hg]; exact Int.emod_nonneg _ (by omega)
          have g1 : g < ps := by rw [← hg]; exact Int.emod_lt_of_pos _ (by omega)
          refine ⟨_, rfl, _, rfl, _, _, rfl, rfl, .inl ⟨by omega, by omega⟩, _, rfl, _, _, rfl, rfl, .inl ⟨by decide, by decide⟩, _, _, rfl, rfl, _, rfl, _, _, rfl, rfl, .inl ⟨_, rfl, _, _, rfl, rfl, (by show (0 : Int) < 2147483549; decide), _, _, rfl, rfl, ⟨by decide, by decide⟩, .inl ⟨_, rfl, _, rfl, _, _, rfl, rfl, m0, ?_⟩⟩⟩
          exact k _ (t + 1) l _ (Int.emod_nonneg _ (by omega)) (Int.emod_lt_of_pos _ m0) (Int.le_refl _) (reP b3 (by omega) D.hl d3) b3
end
end K26
set_option Elab.async false
set_option linter.all false
set_option maxRecDepth 100000
set_option maxHeartbeats 4000000
namespace K26
open K34 PySem PySem.Spec PyProof.Rows L2
theorem cut_ints (ns : List Int) (lo hi : Option Int) : ∃ ms : List Int, cutV (ns.map V.int) lo hi = ms.map V.int ∧ ms.length ≤ ns.length := by
  refine ⟨(ns.drop (HT.sIx (ns.map V.int).length 0 lo)).take (HT.sIx (ns.map V.int).length (ns.map V.int).length hi - HT.sIx (ns.map V.int).length 0 lo), ?_, ?_⟩
  · unfold cutV
    rw [List.map_take, List.map_drop]
  · rw [List.length_take, List.length_drop]
    omega
theorem But.seq {K : PySem.W.Frag} {p o : Addr} {H H' : Hp} {xs : List V} {kvs : List (Key × V)} (b : But p H H') (hp : H p = some (.dK kvs)) (h : SqL K H o xs) : SqL K H' o xs := by
  rcases h with (h | ⟨u, h⟩) | h
  · exact .inl (.inl (b _ _ (ne_of h hp (by intro z; cases z)) h))
  · exact .inl (.inr ⟨u, b _ _ (ne_of h hp (by intro z; cases z)) h⟩)
  · exact .inr h
theorem up {H : Hp} {q b : Addr} {o u : HO} (h : H b = some u) (n : H q = none) : upd H q o b = some u := by rw [upd_ne (ne_of_none h n)]; exact h
def spPen (K : PySem.W.Frag) : Sp := fun vs H Q _ => ∃ (a : Addr) (ns : List Int), vs = [.ref a] ∧ SqL K H a (ns.map V.int) ∧ ns.length ≤ 63 ∧ ∀ (p c : Addr) (ms : List Int) (H' : Hp), PenAt H' p c ms 0 0 → Same H H' → Q (.ref p) H'
theorem scPen : FnScope ["_law_script"] ["_law_script"] (defScope sPen) := ⟨rfl, rfl, rfl, by decide +kernel, rfl, by decide +kernel, by decide +kernel⟩
def spPick (K : PySem.W.Frag) : Sp := fun vs H Q _ => ∃ (p c o : Addr) (ns : List Int) (t l : Int) (xs : List V), vs = [.ref p, .ref o] ∧ PenAt H p c ns t l ∧ t < 1000000000000 ∧ SqL K H o xs ∧ xs ≠ [] ∧ xs.length < 1000000 ∧
  ∀ (x : V) (t' l' : Int) (H' : Hp), x ∈ xs → t' ≤ t + 1 → PenAt H' p c ns t' l' → But p H H' → Q x H'
theorem scPick : FnScope ["_law_pen_here", "_law_options"] ["_law_pen_here", "_law_options"] (defScope sPick) := ⟨rfl, rfl, rfl, by decide +kernel, rfl, by decide +kernel, by decide +kernel⟩
section
variable {P : Program} {w : World} {K : PySem.W.Frag} {mg : Str → Option Value} {base : Heap} {f fD : Addr} {fd fdD : FuncData}
theorem merge_pen (c : Addr) : mergeK [] [((.inr ("cells" : Str) : Key), V.ref c), (.inr ("turn" : Str), .int 0), (.inr ("left" : Str), .int 0)] = penK c 0 0 := by kernel_rfl
theorem ok_pen (F : FnP K "_law_pen" sPen f fd) (T : TxB mg) : FnOk P w K mg base CX0 1 f fd ["_law_script"] (spPen K) := by
  refine F.ok scPen (fun vs H Q E h => ?_) (fun cdv A outer s H vs Q E hr h => ?_)
  · obtain ⟨a, ns, rfl, _⟩ := h
    rfl
  · obtain ⟨a, ns, rfl, hs, hn, k⟩ := h
    have hu := hu_of hr
    have nd := scPen.nd
    refine ⟨_, PSs.nox (pss_one (ps_ret (pe_disp (pps_cons pe_str (pe_callTy call_list_of (by rfl) T.list (by decide +kernel) (pa_cons (pe_slice sl_list (pv 0) po_none (po_some pe_int)) pa_nil)) (pps_cons pe_str pe_int (pps_cons pe_str pe_int pps_nil))) (by rfl) (by rfl) (fun z => by cases z) (by decide)))), ?_⟩
    refine fun p hp => ?_
    have s1 : Same H (upd H p (.dK [])) := same_new (Same.refl H) hp
    have d1 : (upd H p (.dK [])) p = some (.dK []) := upd_same
    generalize upd H p (.dK []) = H1 at s1 d1 ⊢
    refine ⟨_, rfl, _, rfl, a, _, rfl, s1.seq hs, fun q hq => ?_⟩
    obtain ⟨ms, e1, e2⟩ := cut_ints ns none (some 63)
    have s2 : Same H1 (upd H1 q (.lst (cutV (ns.map V.int) none (some 63)))) := same_new (Same.refl H1) hq
    have l2 : (upd H1 q (.lst (cutV (ns.map V.int) none (some 63)))) q = some (.lst (ms.map V.int)) := by rw [e1]; exact upd_same
    generalize upd H1 q (.lst (cutV (ns.map V.int) none (some 63))) = H2 at s2 l2 ⊢
    refine ⟨q, _, rfl, .inl (SqL.of l2), fun c hc => ?_⟩
    have s3 : Same H2 (upd H2 c (.lst (ms.map V.int))) := same_new (Same.refl H2) hc
    have l3 : (upd H2 c (.lst (ms.map V.int))) c = some (.lst (ms.map V.int)) := upd_same
    have d3 := s3 _ _ (s2 _ _ d1)
    have sA : Same H (upd H2 c (.lst (ms.map V.int))) := (s1.trans s2).trans s3
    have hpp := hp
    generalize upd H2 c (.lst (ms.map V.int)) = H3 at s3 l3 d3 sA ⊢
    refine ⟨d3, [((.inr ("cells" : Str) : Key), V.ref c), (.inr ("turn" : Str), .int 0), (.inr ("left" : Str), .int 0)], rfl, (by show 3 ≤ 15; decide), ?_⟩
    refine k p c ms _ ⟨by rw [merge_pen]; exact upd_same, ?_, Int.le_refl _, Int.le_refl _, by omega⟩ (fun b o e => ?_)
    · rw [upd_ne (ne_of l3 d3 (by intro z; cases z))]
      exact l3
    · rw [upd_ne (ne_of_none e hp)]
      exact sA b o e
theorem ok_pick (F : FnP K "_law_pick" sPick f fd) (T : TxB mg) (FD : FnP K "_law_draw" sDraw fD fdD) (gD : mg "_law_draw" = some (.ref fD)) : FnOk P w K mg base CX0 2 f fd ["_law_pen_here", "_law_options"] (spPick K) := by
  have GD : FnOk P w K mg base CX0 1 fD fdD ["_law_pen_here", "_law_many"] spDraw := ok_draw FD T
  have bD : Binds K fdD ["_law_pen_here", "_law_many"] [] := FD.bindsN fun _ _ _ _ _ _ us hl => match us, hl with | [_, _], _ => rfl
  have kD := FD.kp
  refine F.ok scPick (fun vs H Q E h => ?_) (fun cdv A outer s H vs Q E hr h => ?_)
  · obtain ⟨p, c, o, ns, t, l, xs, rfl, _⟩ := h
    rfl
  · obtain ⟨p, c, o, ns, t, l, xs, rfl, D, ht, hs, hx, hl, k⟩ := h
    have hu := hu_of hr
    have nd := scPick.nd
    refine ⟨_, PSs.nox (pss_one (ps_ret (pe_ix ix_list (pv 1) (pe_call GD hr rfl gD kD bD .nil pass0 (pa_cons (pv 0) (pa_cons (pe_callB call_len_seq (by rfl) T.len PySem.boot_len (pa_cons (pv 1) pa_nil)) pa_nil))) (fun _ _ => rfl)))), ?_⟩
    have hpos : 0 < xs.length := List.length_pos_iff.mpr hx
    refine ⟨_, rfl, _, rfl, _, rfl, o, xs, rfl, .inl hs, p, c, ns, t, l, _, rfl, D, ht, by omega, by omega, fun j t' l' H' j0 j1 h1 D' b => ?_⟩
    obtain ⟨n, rfl⟩ : ∃ n : Nat, j = (n : Int) := ⟨j.toNat, by omega⟩
    have hjl : n < xs.length := by omega
    exact ⟨o, xs, (n : Int), xs[n], rfl, rfl, b.seq D.d hs, atI_nat (List.getElem?_eq_getElem hjl), k _ t' l' H' (List.getElem_mem hjl) h1 D' b⟩
end
end K26
set_option Elab.async false
set_option linter.all false
set_option maxRecDepth 100000
set_option maxHeartbeats 4000000
namespace K26
open K34 PySem PySem.Spec PyProof.Rows L2
/-! ### any value: its type, what is asked of it -/
def tyName : PyData → String
  | .none => "NoneType" | .bool _ => "bool" | .int _ => "int" | .str _ => "str" | .list _ => "list" | .tuple _ => "tuple" | .dict _ => "dict"
def isS : PyData → Bool
  | .str _ => true | _ => false
def isB : PyData → Bool
  | .bool _ => true | _ => false
def isI : PyData → Bool
  | .bool _ => true | .int _ => true | _ => false
theorem th_ty {K : PySem.W.Frag} {H : Hp} {v : V} {d : PyData} (t : Th K H v d) : TyX K H v (.type (tyName d)) := by
  cases t with
  | dp h n =>
    cases h with
    | non => exact .base .non
    | bl b => exact .base (.bl b)
    | int i => exact .base (.int i)
    | str x => exact .base (.str x)
    | lst h _ =>
      rcases h with (h | ⟨o, h⟩) | ⟨o, its, n, hk, hc, _⟩
      · exact .base (.lst h)
      · exact .base (.frz h)
      · exact .kList hk hc
    | tup h _ =>
      rcases h with (h | ⟨o, h⟩) | ⟨o, its, n, hk, hc, _⟩
      · exact .base (.tup h)
      · exact .fTuple h
      · exact .kTuple hk hc
  | d0 h => exact .base (.dK h)
  | d1 h => exact .base (.dK h)
theorem kit_str : ∀ d : PyData, kitB (tyName d) "str" = some (isS d)
  | .none => (by decide +kernel : kitB "NoneType" "str" = some false)
  | .bool _ => (by decide +kernel : kitB "bool" "str" = some false)
  | .int _ => (by decide +kernel : kitB "int" "str" = some false)
  | .str _ => (by decide +kernel : kitB "str" "str" = some true)
  | .list _ => (by decide +kernel : kitB "list" "str" = some false)
  | .tuple _ => (by decide +kernel : kitB "tuple" "str" = some false)
  | .dict _ => (by decide +kernel : kitB "dict" "str" = some false)
theorem kit_bool : ∀ d : PyData, kitB (tyName d) "bool" = some (isB d)
  | .none => (by decide +kernel : kitB "NoneType" "bool" = some false)
  | .bool _ => (by decide +kernel : kitB "bool" "bool" = some true)
  | .int _ => (by decide +kernel : kitB "int" "bool" = some false)
  | .str _ => (by decide +kernel : kitB "str" "bool" = some false)
  | .list _ => (by decide +kernel : kitB "list" "bool" = some false)
  | .tuple _ => (by decide +kernel : kitB "tuple" "bool" = some false)
  | .dict _ => (by decide +kernel : kitB "dict" "bool" = some false)
theorem kit_int : ∀ d : PyData, kitB (tyName d) "int" = some (isI d)
  | .none => (by decide +kernel : kitB "NoneType" "int" = some false)
  | .bool _ => (by decide +kernel : kitB "bool" "int" = some true)
  | .int _ => (by decide +kernel : kitB "int" "int" = some true)
  | .str _ => (by decide +kernel : kitB "str" "int" = some false)
  | .list _ => (by decide +kernel : kitB "list" "int" = some false)
  | .tuple _ => (by decide +kernel : kitB "tuple" "int" = some false)
  | .dict _ => (by decide +kernel : kitB "dict" "int" = some false)
theorem th_str {K : PySem.W.Frag} {H : Hp} {v : V} {x : Str} (t : Th K H v (.str x)) : v = .str x := by
  cases t with
  | dp h n => cases h; rfl
theorem th_int {K : PySem.W.Frag} {H : Hp} {v : V} {i : Int} (t : Th K H v (.int i)) : v = .int i := by
  cases t with
  | dp h n => cases h; rfl
theorem th_bool {K : PySem.W.Frag} {H : Hp} {v : V} {b : Bool} (t : Th K H v (.bool b)) : v = .bl b := by
  cases t with
  | dp h n => cases h; rfl
theorem th_none {K : PySem.W.Frag} {H : Hp} {v : V} (t : Th K H v .none) : v = .non := by
  cases t with
  | dp h n => cases h; rfl
/-- a sign from a to z; a word; a number -/
def lowN (c : Nat) : Bool := decide (97 ≤ c) && decide (c ≤ 122)
def wordS (x : Str) : Bool := decide (1 ≤ x.length) && (decide (x.length ≤ 8) && x.cps.toList.all lowN)
def isW : PyData → Bool
  | .str x => wordS x | _ => false
def isN : PyData → Bool
  | .int i => decide (-(10 ^ 30) ≤ i) && decide (i ≤ 10 ^ 30) | _ => false
/-- texts are not long -/
def sOk : PyData → Bool
  | .str x => decide (x.length ≤ 1000) && PyData.strOk x | _ => true
structure TxW (mg : Str → Option Value) : Prop extends TxB mg where
  isi : mg "isinstance" = none
  str : mg "str" = none
  bool : mg "bool" = none
  all : mg "all" = none
  maxN : ∃ t, mg "MAX_NUMBER" = some (.int 1000000000000000000000000000000 t)
  maxL : ∃ t, mg "MAX_LETTERS" = some (.int 8 t)
def spNum (K : PySem.W.Frag) : Sp := fun vs H Q _ => ∃ (v : V) (d : PyData), vs = [v] ∧ Th K H v d ∧ Q (.bl (isN d)) H
def spWord (K : PySem.W.Frag) : Sp := fun vs H Q _ => ∃ (v : V) (d : PyData), vs = [v] ∧ Th K H v d ∧ sOk d = true ∧ ∀ H', Same H H' → Q (.bl (isW d)) H'
theorem scNum : FnScope ["value"] ["value"] (defScope sIsNumber) := ⟨rfl, rfl, rfl, by decide +kernel, rfl, by decide +kernel, by decide +kernel⟩
theorem scWord : FnScope ["value", "letter"] ["value"] (defScope sIsWord) := ⟨rfl, rfl, rfl, by decide +kernel, rfl, by decide +kernel, by decide +kernel⟩
theorem sgn_ge (c : Nat) : (!decide ((⟨#[c]⟩ : Str).cps.toList < ("a" : Str).cps.toList)) = decide (97 ≤ c) := by
  have e : ("a" : Str).cps.toList = [97] := by decide +kernel
  rw [e]
  show (!decide ([c] < [97])) = _
  by_cases h : 97 ≤ c
  · rw [decide_eq_true h, decide_eq_false (by intro z; rcases List.cons_lt_cons_iff.mp z with q | ⟨_, q⟩ <;> first | omega | exact absurd q (by simp))]
    rfl
  · rw [decide_eq_false h, decide_eq_true (List.cons_lt_cons_iff.mpr (.inl (by omega)))]
    rfl
theorem sgn_le (c : Nat) : (!decide (("z" : Str).cps.toList < (⟨#[c]⟩ : Str).cps.toList)) = decide (c ≤ 122) := by
  have e : ("z" : Str).cps.toList = [122] := by decide +kernel
  rw [e]
  show (!decide ([122] < [c])) = _
  by_cases h : c ≤ 122
  · rw [decide_eq_true h, decide_eq_false (by intro z; rcases List.cons_lt_cons_iff.mp z with q | ⟨_, q⟩ <;> first | omega | exact absurd q (by simp))]
    rfl
  · rw [decide_eq_false h, decide_eq_true (List.cons_lt_cons_iff.mpr (.inl (by omega)))]
    rfl
section
variable {P : Program} {w : World} {K : PySem.W.Frag} {mg : Str → Option Value} {base : Heap} {f fW : Addr} {fd fdW : FuncData}
theorem ok_num (F : FnP K "is_number" sIsNumber f fd) (T : TxW mg) : FnOk P w K mg base CX0 1 f fd ["value"] (spNum K) := by
  refine F.ok scNum (fun vs H Q E h => ?_) (fun cdv A outer s H vs Q E hr h => ?_)
  · obtain ⟨v, d, rfl, _⟩ := h
    rfl
  · obtain ⟨v, d, rfl, t, k⟩ := h
    have nd := scNum.nd
    obtain ⟨tN, hmaxN⟩ := T.maxN
    refine ⟨_, PSs.nox (pss_cons (ps_if (PW.pt (pw_or (pt_val (pe_callB call_isi (by rfl) T.isi (by decide +kernel) (pa_cons (pv 0) (pa_cons (pe_bltn (v := .ty "bool") (by rfl) T.bool (by decide +kernel) rfl) pa_nil)))) (pw_or1 (pt_not (pt_val (pe_callB call_isi (by rfl) T.isi (by decide +kernel) (pa_cons (pv 0) (pa_cons (pe_bltn (v := .ty "int") (by rfl) T.int (by decide +kernel) rfl) pa_nil))))))))
        (pss_one (ps_ret pe_bl)) pss_nil)
      (pss_one (ps_ret (pe_chain op_le op_le (pe_un un_neg (pe_glob (v := .int 1000000000000000000000000000000) rfl hmaxN ⟨_, rfl⟩)) (pv 0) (pe_glob (v := .int 1000000000000000000000000000000) rfl hmaxN ⟨_, rfl⟩))))), ?_⟩
    refine ⟨_, rfl, v, .ty "bool", .type (tyName d), _, isB d, rfl, .ty _, th_ty t, kit_ty (kit_bool d), _, rfl, ?_⟩
    cases hb : isB d with
    | true =>
      refine iteT ?_
      refine iteT ?_
      have e : isN d = false := by cases d <;> first | rfl | cases hb
      rw [e] at k
      exact k
    | false =>
      refine iteF ?_
      refine ⟨_, rfl, v, .ty "int", .type (tyName d), _, isI d, rfl, .ty _, th_ty t, kit_ty (kit_int d), _, rfl, ?_⟩
      cases hi : isI d with
      | false =>
        refine iteT ?_
        have e : isN d = false := by cases d <;> first | rfl | cases hi
        rw [e] at k
        exact k
      | true =>
        refine iteF ?_
        obtain ⟨i, rfl⟩ : ∃ i, d = .int i := by cases d <;> first | exact ⟨_, rfl⟩ | exact Bool.noConfusion hb | exact Bool.noConfusion hi
        cases th_int t
        refine ⟨_, rfl, _, rfl, _, _, rfl, rfl, _, rfl, ?_⟩
        refine ite2 (fun h1 => ?_) (fun h1 => ?_)
        · refine ⟨_, _, rfl, rfl, ?_⟩
          have h1 := of_decide_eq_true h1
          have e : isN (.int i) = decide (i ≤ 1000000000000000000000000000000) := by
            show (decide (-(10 ^ 30) ≤ i) && decide (i ≤ 10 ^ 30)) = _
            rw [decide_eq_true (by omega), Bool.true_and]
            rfl
          rw [e] at k
          exact k
        · have h1 := of_decide_eq_false (Bool.eq_false_iff.mpr h1)
          have e : isN (.int i) = false := by
            show (decide (-(10 ^ 30) ≤ i) && decide (i ≤ 10 ^ 30)) = false
            rw [decide_eq_false (by omega), Bool.false_and]
          rw [e] at k
          exact k
theorem ok_word (F : FnP K "is_word" sIsWord f fd) (T : TxW mg) : FnOk P w K mg base CX0 1 f fd ["value"] (spWord K) := by
  refine F.ok scWord (fun vs H Q E h => ?_) (fun cdv A outer s H vs Q E hr h => ?_)
  · obtain ⟨v, d, rfl, _⟩ := h
    rfl
  · obtain ⟨v, d, rfl, t, so, k⟩ := h
    have nd := scWord.nd
    obtain ⟨tL, hmaxL⟩ := T.maxL
    refine ⟨_, PSs.nox (pss_cons (ps_if (PW.pt (pw_or (pt_not (pt_val (pe_callB call_isi (by rfl) T.isi (by decide +kernel) (pa_cons (pv 0) (pa_cons (pe_bltn (v := .ty "str") (by rfl) T.str (by decide +kernel) rfl) pa_nil))))) (pw_or1 (pt_not (pt_chain op_le op_le pe_int (pe_callB call_len_str (by rfl) T.len (by decide +kernel) (pa_cons (pv 0) pa_nil)) (pe_glob (v := .int 8) rfl hmaxL ⟨_, rfl⟩))))))
        (pss_one (ps_ret pe_bl)) pss_nil)
      (pss_one (ps_ret (pe_callB (cr_all rfl) (by rfl) T.all (by decide +kernel) (pa_cons (pe_lc (own := [("letter", 1)]) (g := gName 1) (tt := tYes) rfl nd (pi_str (pv 0)) (blkOk_by (N := ["value", "letter"]) (sc := defScope sIsWord) (by decide +kernel)) (fun _ _ _ _ _ => pg_name (i := 1) nd rfl (Or.inl rfl)) (fun _ _ _ _ _ => pts_nil) (fun _ _ _ _ _ => pe_chain op_le_str op_le_str pe_str (pv 1) pe_str)) pa_nil))))), ?_⟩
    refine ⟨_, rfl, v, .ty "str", .type (tyName d), _, isS d, rfl, .ty _, th_ty t, kit_ty (kit_str d), _, rfl, ?_⟩
    have no : isW d = false → Q (.bl false) H := fun e => by
      have k := k H (Same.refl H)
      rw [e] at k
      exact k
    cases hs : isS d with
    | false =>
      refine iteT ?_
      refine iteT ?_
      exact no (by cases d <;> first | rfl | exact Bool.noConfusion hs)
    | true =>
      refine iteF ?_
      obtain ⟨x, rfl⟩ : ∃ x, d = .str x := by cases d <;> first | exact ⟨_, rfl⟩ | exact Bool.noConfusion hs
      cases th_str t
      have hx : x.length ≤ 1000 := of_decide_eq_true (Bool.and_eq_true_iff.mp so).1
      have hz : x.length ≤ sizeLine := by rw [sizeLine_eq]; omega
      refine ⟨_, rfl, _, rfl, hz, _, _, rfl, rfl, _, rfl, ?_⟩
      refine ite2 (fun h1 => ?_) (fun h1 => ?_)
      · have h1 := of_decide_eq_true h1
        refine ⟨_, _, rfl, rfl, _, rfl, ?_⟩
        refine ite2 (fun h2 => ?_) (fun h2 => ?_)
        · refine no ?_
          have h2 : decide ((x.length : Int) ≤ 8) = false := by simpa using h2
          have h2 := of_decide_eq_false h2
          show wordS x = false
          unfold wordS
          rw [decide_eq_false (show ¬ x.length ≤ 8 by omega), Bool.false_and, Bool.and_false]
        · have h2 : decide ((x.length : Int) ≤ 8) = true := by simpa using h2
          have h2 := of_decide_eq_true h2
          have e : isW (.str x) = x.cps.toList.all lowN := by
            show wordS x = _
            unfold wordS
            rw [decide_eq_true (show 1 ≤ x.length by omega), decide_eq_true (show x.length ≤ 8 by omega), Bool.true_and, Bool.true_and]
          refine ⟨_, rfl, x, rfl, fun D hD => ?_⟩
          refine lc_it (walk_str (z := x)) (fun i H6 => H6 D = some (.lst (((x.cps.toList.take i).map lowN).map V.bl)) ∧ Same H H6) ⟨upd_same, same_new (Same.refl H) hD⟩ (fun _ _ _ _ => True.intro) ?_ ?_
          · rintro i v' H6 H7 hi ⟨h3, h4⟩ ⟨rfl, c, hc, rfl⟩
            refine ⟨rfl, ?_⟩
            unfold tYes
            dsimp only
            refine iteT ?_
            have hDf : H D = none := hD
            have hcl : x.cps.toList[i]? = some c := by
              rw [Array.getElem?_toList]
              exact hc
            have more : ∀ b : Bool, b = lowN c → ∃ acc, H7 D = some (HO.lst acc) ∧ acc.length < sizeLine ∧ (upd H7 D (HO.lst (acc ++ [V.bl b]))) D = some (HO.lst (((x.cps.toList.take (i + 1)).map lowN).map V.bl)) ∧ Same H (upd H7 D (HO.lst (acc ++ [V.bl b]))) := by
              rintro b rfl
              refine ⟨_, h3, ?_, ?_, fun a o e' => ?_⟩
              · rw [List.length_map, List.length_map, List.length_take, sizeLine_eq]
                have : i < x.length := hi
                omega
              · rw [upd_same, List.take_add_one, hcl, List.map_append, List.map_append]
                rfl
              · rw [upd_ne (ne_of_none e' hDf)]
                exact h4 a o e'
            refine ⟨_, rfl, _, _, rfl, rfl, _, rfl, ?_⟩
            have g1 := sgn_ge c
            have g2 := sgn_le c
            rw [g1]
            by_cases q : 97 ≤ c
            · rw [decide_eq_true q]
              refine iteT ?_
              refine ⟨_, _, rfl, rfl, ?_⟩
              refine more _ ?_
              rw [g2]
              unfold lowN
              rw [decide_eq_true q, Bool.true_and]
            · rw [decide_eq_false q]
              refine iteF ?_
              refine more _ ?_
              unfold lowN
              rw [decide_eq_false q, Bool.false_and]
          · rintro H6 ⟨h3, h4⟩
            refine ⟨D, x.cps.toList.map lowN, rfl, ?_, ?_⟩
            · have e2 : x.cps.toList.take x.cps.size = x.cps.toList := by rw [← Array.length_toList, List.take_length]
              rw [e2] at h3
              exact SqL.of h3
            · have k := k H6 h4
              rw [e] at k
              rw [List.all_map]
              exact k
      · have h1 := of_decide_eq_false (Bool.eq_false_iff.mpr h1)
        have no' := no (by
          show wordS x = false
          unfold wordS
          rw [decide_eq_false (show ¬ 1 ≤ x.length by omega), Bool.false_and])
        refine ⟨false, rfl, ?_⟩
        dsimp only
        refine iteT ?_
        exact no'
end
end K26
set_option Elab.async false
set_option linter.all false
set_option maxRecDepth 100000
set_option maxHeartbeats 4000000
/-! a text and a dict: unequal; any value in a tuple of texts -/
namespace K26S
open PySem PySem.SeqAt PySem.Builtin
open AutoSeq1 (wpAny_loadPart')
open MeetsSeq
theorem str_declines_dict (b : Str) (u : Tok) (l : Addr) (o : Obj) (es : Array DictEntry) (n : Nat) (hd : o.data = .dict es n) :
    Meets (Builtin.«str.__eq__» ⟨[.str b u, .ref l], []⟩) (fun _ R s => s.heap.get? l = some o ∧ R (.ok (.ret .notImplemented)) s) :=
  .of_wp fun prog w A R s h => by
    obtain ⟨hp, g, d, tk, os⟩ := s
    obtain ⟨hl, h⟩ := h
    obtain ⟨oc, od, dt, sl⟩ := o
    simp only at hd
    subst hd
    wp_walk using wpAny_loadPart' hl, wpAny_load hl
    exact ⟨_, rfl, h⟩
theorem dict_declines_str (b : Str) (u : Tok) (l : Addr) (o : Obj) (es : Array DictEntry) (n : Nat) (hc : o.cls = .type "dict") (hd : o.data = .dict es n) :
    Meets (Builtin.«dict.__eq__» ⟨[.ref l, .str b u], []⟩) (fun _ R s => s.heap.get? l = some o ∧ R (.ok (.ret .notImplemented)) s) :=
  .of_wp fun prog w A R s h => by
    obtain ⟨hp, g, d, tk, os⟩ := s
    obtain ⟨hl, h⟩ := h
    obtain ⟨oc, od, dt, sl⟩ := o
    simp only at hd hc
    subst hd hc
    have f1 : isSubtype (.type "str") (.type "dict") = pure false := by rw [isSubtype_type]; kernel_rfl
    unfold Builtin.«dict.__eq__»
    wp_walk using wpAny_loadPart' hl, wpAny_load hl
    exact ⟨_, rfl, h⟩
section
variable {A : Around} {s : Shared}
theorem rc_str_dict {l : Addr} {o : Obj} {es : Array DictEntry} {n : Nat} (b : Str) (u : Tok) (ho : s.heap.get? l = some o) (hc : o.cls = .type "dict") (hd : o.data = .dict es n) (hu : A.units < cLine) : RcAt A s (.str b u) (.ref l) false := fun prog w E Q h =>
  rc_eq_decline_or (k := false) (typeIs_str s b u) ⟨_, ho, hc⟩ (by decide) F.sub_dict_str F.slot_str_eq F.slot_dict_eq_refl
    (fun _ hq => call_meets F.slot_str_eq (typeIs_str s b u) F.entry_str_eq (F.args_str_eq_2 _ _) (str_declines_dict b u l o es n hd) ⟨ho, hq⟩)
    (fun _ hq => call_meets F.slot_dict_eq_refl ⟨_, ho, hc⟩ F.entry_dict_eq (F.args_dict_eq_2 _ _) (dict_declines_str b u l o es n hc hd) ⟨ho, hq⟩)
    (fun _ hq => wpAny_of_eq (rfl : isSame (.str b u) (.ref l) = pure false) hq) (.inr hu) h
theorem eq_str_dict {l : Addr} {o : Obj} {es : Array DictEntry} {n : Nat} (b : Str) (u : Tok) (ho : s.heap.get? l = some o) (hc : o.cls = .type "dict") (hd : o.data = .dict es n) (hu : A.units < cLine) : EqAt A s (.str b u) (.ref l) false := fun prog w E Q h => by
  unfold eqBool
  refine wpAny_holding ?_
  refine wpAny_ite_split (fun hab => absurd (eq_of_beq hab) nofun) (fun _ => ?_)
  exact wpAny_bind (rc_str_dict b u ho hc hd hu prog w E _ (wpAny_truthy_bool h))
end
end K26S
namespace K26
open K34 PySem PySem.Spec PyProof.Rows L2
def isIn (d : PyData) (ss : List Str) : Bool := match d with
  | .str x => ss.contains x | _ => false
def eqS (d : PyData) (u : Value) : Bool := match u with
  | .str z _ => (match d with
    | .str x => z == x | _ => false)
  | _ => false
section
variable {X : Cx} {pins : List (Addr × Obj)} {σ : L2.St} {H : Hp} {s : Shared}
theorem th_eqAt {v : V} {u : Value} {d : PyData} (I : Inv X pins σ H s) (t : Th X.K H v d) (r : RelV v u) (A : Around) (hu : A.units < cLine) (z : Str) (k : Tok) : SeqAt.EqAt A s (.str z k) u (eqS d (.str z k)) := by
  have kd : ∀ {a : Addr} {kvs : List (Key × V)}, H a = some (.dK kvs) → SeqAt.EqAt A s (.str z k) (.ref a) false := fun {a kvs} h => by
    obtain ⟨_, hn, vs, rel, o, es, ep, ho, hx, hd, he⟩ := dk_of I.hok h
    exact K26S.eq_str_dict z k ho hx.1 hd hu
  cases t with
  | dp h n =>
    cases h with
    | non => cases (show u = Value.none from r); exact SeqAt.EqAt.str_none z k
    | bl b => cases (show u = Value.bool b from r); exact SeqAt.EqAt.str_bool z k b
    | int i => obtain ⟨t, q⟩ := (show ∃ t, u = Value.int i t from r); cases q; exact SeqAt.EqAt.str_int z k i t
    | str y => obtain ⟨t, q⟩ := (show ∃ t, u = Value.str y t from r); cases q; exact SeqAt.EqAt.str_str z k y t
    | @lst a xs ds h _ =>
      cases (show u = Value.ref a from r)
      obtain ⟨its, rv, pl, hz⟩ := I.list h
      exact SeqAt.EqAt.str_list z k pl.isList hu
    | @tup a xs ds h _ =>
      cases (show u = Value.ref a from r)
      obtain ⟨its, rv, pl, hz⟩ := I.tuple h
      exact SeqAt.EqAt.str_tuple z k pl hu
  | @d0 a h => cases (show u = Value.ref a from r); exact kd h
  | @d1 a h => cases (show u = Value.ref a from r); exact kd h
theorem any_eqS (d : PyData) : ∀ {ss : List Str} {us : List Value}, Vals (ss.map V.str) us → us.any (eqS d) = isIn d ss
  | [], _, r => by
    cases r
    cases d <;> rfl
  | z :: ss, _, r => by
    cases r with
    | cons r1 r2 =>
      obtain ⟨t, e⟩ := (show ∃ t, _ = Value.str z t from r1)
      subst e
      rw [List.any_cons, any_eqS d r2]
      cases d <;> first | rfl | (show (_ == _ || List.contains _ _) = List.contains _ _; rw [List.contains_cons, Bool.beq_comm])
theorem all_str : ∀ {ss : List Str} {us : List Value}, Vals (ss.map V.str) us → ∀ w ∈ us, ∃ z t, w = Value.str z t
  | [], _, r => by
    cases r
    intro w hw
    cases hw
  | z :: ss, _, r => by
    cases r with
    | cons r1 r2 =>
      obtain ⟨t, e⟩ := (show ∃ t, _ = Value.str z t from r1)
      intro w hw
      rcases List.mem_cons.mp hw with rfl | hw
      · exact ⟨z, t, e⟩
      · exact all_str r2 w hw
/-- x not in a tuple of texts, x any value -/
def rNotInS (K : PySem.W.Frag) : R2 := fun x y H Q => ∃ (p : Addr) (ss : List Str) (d : PyData), y = .ref p ∧ SqT K H p (ss.map V.str) ∧ Th K H x d ∧ Q (.bl (!isIn d ss)) H
theorem op_notInS (hu : X.A.in1.units < cLine) : OpR X (compareOp .NotIn) (rNotInS X.K) := by
  intro pins s σ H x y v u Q I rx ry h
  obtain ⟨p, ss, d, rfl, hq, t, q⟩ := h
  cases ry
  obtain ⟨its, r, pl, hz⟩ := I.tuple hq
  refine SeqAt.notIn_tupleAt (eqS d) pl (fun w hw => ?_) ⟨.bl _, H, I, rfl, ?_⟩
  · obtain ⟨z, k, rfl⟩ := all_str r w (by simpa using hw)
    exact th_eqAt I t rx _ hu z k
  · rw [show its.toArray.any (eqS d) = its.any (eqS d) by simp, any_eqS d r]
    exact q
end
end K26
set_option Elab.async false
set_option linter.all false
set_option maxRecDepth 100000
set_option maxHeartbeats 4000000
/-! == of two tuples, both answers, by what == of the items gives -/
namespace TupB
open PySem PySem.SeqAt
open AutoSeq1 (wpAny_loadPart')
open MeetsSeq MeetsSeq2 MeetsSeq3 SeqRoads2
section
variable {prog : Program} {w : World} {A : Around} {R : Result → Shared → Prop}
theorem body {l b : Addr} {xs ys : Array Value} {n n2 : Nat} {d1 d2 : Option Addr} {c1 c2 : Array (Option Value)} (J : Nat → Shared → Prop)
    (turn : ∀ i (h1 : i < xs.size) (h2 : i < ys.size) s, J i s → wpAny (model prog w) A.in1 (eqBool xs[i] ys[i]) (fun r s' => if r = true then J (i + 1) s' else R (.ok (.ret (.bool false))) s') (fun e s' => R (.error e) s') s)
    (fin : ∀ i s, J i s → min xs.size ys.size ≤ i → R (.ok (.ret (.bool (decide (xs.size = ys.size))))) s) {s : Shared}
    (hl : s.heap.get? l = some { cls := .type "tuple", dict := d1, data := .seq xs n, slots := c1 }) (hb : s.heap.get? b = some { cls := .type "tuple", dict := d2, data := .seq ys n2, slots := c2 }) (h : J 0 s) :
    wpAny (model prog w) A.in1 (Builtin.«tuple.__eq__» ⟨[.ref l, .ref b], []⟩) (GQ.FinOf prog w A R) (fun e s' => R (.error e) s') s := by
  have sub := AutoSeq1.sub_tuple_tuple
  have hZ : (xs.toList.zip ys.toList).length = min xs.size ys.size := by simp
  have h0 := h
  obtain ⟨hp, g, d, tk, os⟩ := s
  wp_walk using wpAny_loadPart' hl, wpAny_loadPart' hb, wpAny_forIn_list _ (fun rest z s' => z.1 = none ∧ ∃ i, rest = (xs.toList.zip ys.toList).drop i ∧ J i s') _
  case turn =>
    rintro ⟨y, x⟩ rest z s' ⟨hz0, i, hz, hJ⟩
    have hlt : i < (xs.toList.zip ys.toList).length := by
      by_cases q : i < (xs.toList.zip ys.toList).length
      · exact q
      · rw [List.drop_of_length_le (Nat.le_of_not_lt q)] at hz
        cases hz
    have k1 : i < xs.size := by omega
    have k2 : i < ys.size := by omega
    rw [List.drop_eq_getElem_cons hlt] at hz
    injection hz with e1 e2
    obtain rfl : y = xs[i] := by have := congrArg Prod.fst e1; simpa using this
    obtain rfl : x = ys[i] := by have := congrArg Prod.snd e1; simpa using this
    refine wpAny_bind (wpAny_mono (turn i k1 k2 s' hJ) (fun r s2 q2 => ?_) fun _ _ x => x)
    cases r with
    | true =>
      rw [if_pos rfl] at q2
      wp_walk
      exact ⟨rfl, i + 1, e2, q2⟩
    | false =>
      rw [if_neg Bool.false_ne_true] at q2
      wp_walk
      exact q2
  case fin =>
    rintro ⟨z1, z2⟩ s' ⟨hz0, i, hz, hJ⟩
    simp only at hz0
    subst hz0
    have hge : min xs.size ys.size ≤ i := by
      by_cases q : i < (xs.toList.zip ys.toList).length
      · rw [List.drop_eq_getElem_cons q] at hz
        cases hz
      · omega
    have hR := fin i s' hJ hge
    wp_walk
    show R (.ok (.ret (.bool (xs.size == ys.size)))) s'
    have e : (xs.size == ys.size) = decide (xs.size = ys.size) := by
      rw [Bool.eq_iff_iff]
      simp
    rw [e]
    exact hR
  case h => exact ⟨rfl, 0, rfl, h0⟩
/-- == of two tuples as a rich comparison -/
theorem rc {E : Value → Shared → Prop} {s : Shared} {l b : Addr} {xs ys : Array Value} {Q : Value → Shared → Prop} (hu : A.units < cLine) (J : Nat → Shared → Prop) (hl : s.heap.IsTuple l xs) (hb : s.heap.IsTuple b ys)
    (turn : ∀ i (h1 : i < xs.size) (h2 : i < ys.size) s, J i s → wpAny (model prog w) A.in1 (eqBool xs[i] ys[i]) (fun r s' => if r = true then J (i + 1) s' else Q (.bool false) s') E s)
    (fin : ∀ i s, J i s → min xs.size ys.size ≤ i → Q (.bool (decide (xs.size = ys.size))) s) (h : J 0 s) : wpAny (model prog w) A (richCompare .Eq (.ref l) (.ref b)) Q E s := by
  obtain ⟨⟨k1, d1, u1, c1⟩, o1, e1, n, f1⟩ := id hl
  obtain ⟨⟨k2, d2, u2, c2⟩, o2, e2, n2, f2⟩ := id hb
  simp only at e1 f1 e2 f2
  subst e1 f1 e2 f2
  refine wpAny_richCompare_same_room (op := .Eq) ⟨_, o1, rfl⟩ ⟨_, o2, rfl⟩ F.slot_tuple_eq (GQ.call_here F.slot_tuple_eq ⟨_, o1, rfl⟩ F.entry_tuple_eq (F.args_tuple_eq_2 _ _) ?_) hu
  refine body (R := wants (fun v s' => v ≠ .notImplemented ∧ Q v s') E) J (fun i h1 h2 s hJ => wpAny_mono (turn i h1 h2 s hJ) (fun r s' q => ?_) fun _ _ x => x) (fun i s hJ hm => ⟨(fun z => nomatch z), fin i s hJ hm⟩) o1 o2 h
  cases r with
  | true =>
    rw [if_pos rfl] at q ⊢
    exact q
  | false =>
    rw [if_neg Bool.false_ne_true] at q ⊢
    exact ⟨(fun z => nomatch z), q⟩
end
end TupB
set_option Elab.async false
set_option linter.all false
set_option maxRecDepth 100000
set_option maxHeartbeats 4000000
/-! != of two lists of equal items -/
namespace LstN
open PySem PySem.SeqAt
open AutoSeq1 (wpAny_loadPart')
open MeetsSeq MeetsSeq2 MeetsSeq3 SeqRoads2
section
variable {prog : Program} {w : World} {A : Around} {R : Result → Shared → Prop}
def ListJ (prog : Program) (w : World) (A : Around) (E : Value → Shared → Prop) (l b : Addr) (N : Nat) (I : Nat → Shared → Prop) : Prop := ∀ i s, I i s → ∃ (items items2 : Array Value) (n n2 : Nat) (d1 d2 : Option Addr) (c1 c2 : Array (Option Value)), s.heap.get? l = some { cls := .type "list", dict := d1, data := .seq items n, slots := c1 } ∧
  s.heap.get? b = some { cls := .type "list", dict := d2, data := .seq items2 n2, slots := c2 } ∧ items.size = N ∧ items2.size = N ∧ ∀ (h1 : i < items.size) (h2 : i < items2.size), wpAny (model prog w) A.in1 (eqBool items[i] items2[i]) (fun r s' => r = true ∧ I (i + 1) s') E s
theorem ne_loop (l b : Addr) (N : Nat) (I : Nat → Shared → Prop) (hl : ListJ prog w A (fun e s' => R (.error e) s') l b N I) (fin : ∀ s, I N s → R (.ok (.ret (.bool false))) s) :
    ∀ (k i : Nat), N - i = k → i ≤ N → ∀ s, I i s → wpAny (model prog w) A.in1 (Builtin.«list.__eq__.loop» ⟨[.ref l, .ref b, rawInt i, rawInt 3], []⟩) (GQ.FinOf prog w A R) (fun e s' => R (.error e) s') s := by
  intro k
  induction k with
  | zero =>
    intro i hk hi s h
    obtain ⟨items, items2, n, n2, d1, d2, c1, c2, hl1, hb1, hs1, hs2, _⟩ := hl i s h
    have ei : i = N := by omega
    subst ei
    have hR := fin s h
    obtain ⟨hp, g, d, tk, os⟩ := s
    have hi1 : items[((i : Nat) : Int).toNat]? = none := by simp [hs1]
    have hi2 : items2[((i : Nat) : Int).toNat]? = none := by simp [hs2]
    wp_walk using wpAny_load' hl1, wpAny_load' hb1
    rw [hi1, hi2]
    wp_walk using wpAny_load' hl1, wpAny_load' hb1
    show R (.ok (.ret (.bool (items.size != items2.size)))) _
    rw [hs1, hs2, bne_self_eq_false]
    exact hR
  | succ k ih =>
    intro i hk hi s h
    obtain ⟨items, items2, n, n2, d1, d2, c1, c2, hl1, hb1, hs1, hs2, turn⟩ := hl i s h
    have hlt : i < items.size := by omega
    have hlt2 : i < items2.size := by omega
    have ht := turn hlt hlt2
    obtain ⟨hp, g, d, tk, os⟩ := s
    have hi1 : items[((i : Nat) : Int).toNat]? = some items[i] := by simp [hlt]
    have hi2 : items2[((i : Nat) : Int).toNat]? = some items2[i] := by simp [hlt2]
    wp_walk using wpAny_load' hl1, wpAny_load' hb1
    rw [hi1, hi2]
    refine wpAny_bind (wpAny_mono ht (fun r s' ⟨hr, hI⟩ => ?_) fun _ _ x => x)
    subst hr
    refine wpAny_ite_true rfl ?_
    have hrec := ih (i + 1) (by omega) (by omega) s' hI
    have hc : ((i : Nat) : Int) + 1 = ((i + 1 : Nat) : Int) := by push_cast; rfl
    rw [hc]
    refine wpAny_pure ?_
    refine ⟨plainId_quiet plain_eq_loop _, codeAny_builtin entry_eq_loop ?_⟩
    rw [Around.under_plainId plain_eq_loop]
    exact hrec
theorem list_ne (l b : Addr) (N : Nat) (I : Nat → Shared → Prop) (hl : ListJ prog w A (fun e s' => R (.error e) s') l b N I) (fin : ∀ s, I N s → R (.ok (.ret (.bool false))) s) {s : Shared} (h : I 0 s) :
    wpAny (model prog w) A.in1 (Builtin.«list.__ne__» ⟨[.ref l, .ref b], []⟩) (GQ.FinOf prog w A R) (fun e s' => R (.error e) s') s := by
  obtain ⟨items, items2, n, n2, d1, d2, c1, c2, hl1, hb1, hs1, hs2, _⟩ := hl 0 s h
  have hrec := ne_loop l b N I hl fin (N - 0) 0 rfl (Nat.zero_le N) s h
  have f3 := AutoSeq1.sub_list_list
  have hne : (items.size != items2.size) = false := by rw [hs1, hs2, bne_self_eq_false]
  obtain ⟨hp, g, d, tk, os⟩ := s
  wp_walk using wpAny_loadPart' hb1, wpAny_load' hl1, wpAny_load' hb1
  refine ⟨plainId_quiet plain_eq_loop _, codeAny_builtin entry_eq_loop ?_⟩
  rw [Around.under_plainId plain_eq_loop]
  exact hrec
theorem rc_ne {E : Value → Shared → Prop} {s : Shared} {l b : Addr} {N : Nat} {Q : Value → Shared → Prop} (hu : A.units < cLine) (I : Nat → Shared → Prop) (hl : ListJ prog w A E l b N I) (fin : ∀ s, I N s → Q (.bool false) s) (h : I 0 s) :
    wpAny (model prog w) A (richCompare .NotEq (.ref l) (.ref b)) Q E s := by
  obtain ⟨items, items2, n, n2, d1, d2, c1, c2, hl1, hb1, hs1, hs2, _⟩ := hl 0 s h
  exact wpAny_richCompare_same_room (op := .NotEq) ⟨_, hl1, rfl⟩ ⟨_, hb1, rfl⟩ F.slot_list_ne (GQ.call_here F.slot_list_ne ⟨_, hl1, rfl⟩ F.entry_list_ne (F.args_list_ne_2 _ _) (list_ne (R := wants (fun v s' => v ≠ .notImplemented ∧ Q v s') E) l b N I hl (fun s' q => ⟨(fun z => nomatch z), fin s' q⟩) h)) hu
end
end LstN
set_option Elab.async false
set_option linter.all false
set_option maxRecDepth 100000
set_option maxHeartbeats 4000000
/-! raise C(..) for own errors of every base: with fields, without -/
namespace K34
open PySem PySem.Spec PyProof.Rows L2
section
variable {X : Cx} {pins : List (Addr × Obj)} {σ : L2.St} {k : Kd} {x : Str} {C fI : Addr} {fd : FuncData} {ps : List Str} {sp : Sp}
/-- an error without a dict is let go -/
theorem mk_endN {H1 H2 : Hp} {Q : XK} {ha hb hc : Heap} {g1 g2 : Array GenState} {d1 d2 : Drawn} {t1 t2 : Nat} {os1 os2 : OsState} {a : Addr} (R : Raises X (.ref C)) (I : Inv X pins σ H1 ⟨ha, g1, d1, t1, os1⟩) (sz : ha.objs.size ≤ a)
    (kp : ∀ b o, ha.get? b = some o → hb.get? b = some o) (un : Un (frs X.stack) [] (upd H1 a (exo a C none)) H2 hb hc) (ok : HOk X.prog X.w H2 hc) (eo : os2 = os1) (bare : AllBare g2) (ea : H2 a = some (exo a C none)) (q : Q (.ref C) none (del H2 a)) :
    MkP X pins σ Q (.ref a) ⟨hc, g2, d2, t2, os2⟩ := by
  obtain ⟨t0, eat⟩ := exo_at ok ea
  have n1 : H1 a = none := I.hok.fresh sz
  obtain ⟨G, y1, y2⟩ := restrict hc fun b => decide (b ≠ a)
  have Ga : G.get? a = none := y2 a (by simp)
  have Gb : ∀ {b}, b ≠ a → G.get? b = hc.get? b := fun {b} z => y1 b (decide_eq_true z)
  have off : ∀ {b : Addr} {o : Obj}, ha.get? b = some o → b ≠ a := fun {b o} z => Nat.ne_of_lt (Nat.lt_of_lt_of_le (Heap.lt_size z) sz)
  have un1 : ∀ {b : Addr}, b ≠ a → H1 b = none → upd H1 a (exo a C none) b = none := fun {b} z n => (upd_ne z).trans n
  have U : Un (frs X.stack) [] H1 (del H2 a) ha G :=
    { keep := fun b o z n f e => (Gb (off z)).trans (un.keep b o (kp b o z) (un1 (off z) n) f e)
      slot := fun b o z n f e => by
        obtain ⟨sl, y⟩ := un.slot b o (kp b o z) (un1 (off z) n) f e
        exact ⟨sl, (Gb (off z)).trans y⟩
      free := fun b o z n e => (del_ne (off z)).trans (un.free b o (kp b o z) (un1 (off z) n) e)
      there := fun b o z e => by
        obtain ⟨u, y⟩ := un.there b o (kp b o z) e
        exact ⟨u, (Gb (off z)).trans y⟩
      tups := fun b l z => (del_ne (ne_of_none z n1)).trans (un.tups b l ((upd_ne (ne_of_none z n1)).trans z))
      frzs := fun b o v z => (del_ne (ne_of_none z n1)).trans (un.frzs b o v ((upd_ne (ne_of_none z n1)).trans z))
      tbls := fun b l z => by
        obtain ⟨m, y⟩ := un.tbls b l ((upd_ne (ne_of_none z n1)).trans z)
        exact ⟨m, (del_ne (ne_of_none z n1)).trans y⟩ }
  have okG : HOk X.prog X.w (del H2 a) G := fun b o z => by
    have nb : b ≠ a := fun e => by
      rw [e, del_same] at z
      cases z
    rw [del_ne nb] at z
    have nOwn : ∀ {c : Addr}, H2 c = some (.own b) → c ≠ a := fun {c} e => at_ne ea e exo_own
    refine (ok b o z).stay (fun c v e y => ?_) (fun c e => (del_ne (nOwn e)).trans e) (fun c l e => (del_ne (at_ne ea e exo_tup)).trans e)
    rcases e with e | e
    · rw [e] at y ⊢
      exact (Gb nb).trans y
    · exact (Gb (nOwn e)).trans y
  have J : Inv X pins σ (del H2 a) ⟨G, g2, d2, t2, os2⟩ := I.call' (ch := []) eo U okG bare (fun b z => absurd z (by simp))
  refine ⟨a, _, _, ⟨G, g2, d2, t2, os2⟩, _, .ref C, none, rfl, J, fun b o z => ?_, Ga, eat, ⟨rfl, rfl⟩, rfl, rfl, del_same, rfl, bare, R, q⟩
  by_cases e : b = a
  · rw [e, Ga] at z
    cases z
  · exact (Gb e).symm.trans z
/-- what is left of the error at a -/
def Gone (C : Addr) (H1 : Hp) (Q : XK) (a : Addr) (H2 : Hp) : Prop := (H2 a = some (exo a C none) ∧ Q (.ref C) none (del H2 a)) ∨
  ∃ (d : Addr) (fs : List (Str × V)), H2 a = some (exo a C (some d)) ∧ H2 d = some (exd d fs) ∧ H1 d = none ∧ Q (.ref C) (some d) (upd (del H2 a) d (.xd fs))
def tRz (C : Addr) (sp : Sp) (t : TA) : L2.St → Hp → XK → Prop := fun σ H Q => t σ H fun vs H1 => vs.length ≤ 1000 ∧ ∀ a, H1 a = none → sp (.ref a :: vs) (upd H1 a (exo a C none)) (fun v H2 => v = .non ∧ Gone C H1 Q a H2) E0
theorem run_rz {H : Hp} {s : Shared} {Q : XK} {us : List Value} {zs : List V} (M : EM X.prog X.w X.K X.mg X.base x C k fI fd ps sp) (hr : Room 2 X.A) (hus : us.length ≤ 1000) (I : Inv X pins σ H s) (r : Vals zs us)
    (hb : ∀ (s' : Shared) (a : Addr), X.K.In s'.heap → BindsTo s' fd ⟨.ref a :: us, []⟩ (ps.zip (.ref a :: us)))
    (h : ∀ a, H a = none → sp (.ref a :: zs) (upd H a (exo a C none)) (fun v H2 => v = .non ∧ Gone C H Q a H2) E0) : wpAny (model X.prog X.w) X.A (call (.ref C) us) (MkP X pins σ Q) X.xe s := by
  obtain ⟨nm, q, N, bs, sn, sub, ab, col, dd, k0, k1, k2, k3, k5, hC⟩ := M.c.cls
  obtain ⟨initId, bmB, FB⟩ := k.base
  have hR : Raises X (.ref C) := raises_own M.c.at_.hs M.c.ty
  obtain ⟨hp, g, dr, tk, os⟩ := s
  have sz : hp.objs.size ≤ hp.objs.size + 1 := Nat.le_succ _
  have hq := h (hp.objs.size + 1) (I.hok.fresh sz)
  have r2 : Vals (V.ref (hp.objs.size + 1) :: zs) (Value.ref (hp.objs.size + 1) :: us) := .cons rfl r
  have kk : ∀ b o, hp.get? b = some o → ((hp.push (PySem.W.kdv_tup us)).push (PySem.HandSPX.excO C hp.objs.size)).get? b = some o := fun b o e => Heap.get?_push_of_some _ (Heap.get?_push_of_some _ e)
  have I2 : Inv X pins σ (upd H (hp.objs.size + 1) (exo (hp.objs.size + 1) C none)) ⟨(hp.push (PySem.W.kdv_tup us)).push (PySem.HandSPX.excO C hp.objs.size), g, dr, tk, os⟩ :=
    I.laid (t' := tk) (a := hp.objs.size + 1) (o := exo (hp.objs.size + 1) C none) (h' := (hp.push (PySem.W.kdv_tup us)).push (PySem.HandSPX.excO C hp.objs.size)) kk sz (exo_ok (by heap_get))
  refine wpAny_call (call_E FB k.ok (.inl rfl) (I.kIn _ _ hC) (PySem.W.looks_findIn I.kIn M.init) (fun self => PySem.W.bind_fn I.kIn self M.ty) (by rw [sizeLine_eq]; omega)
    (codeAny_mono (M.ok.run _ X.stack _ _ ⟨Value.ref (hp.objs.size + 1) :: us, []⟩ (Value.ref (hp.objs.size + 1) :: us) _ _ E0 (hr.make C us []) (I2.env0.make C us []) (hb _ (hp.objs.size + 1) I2.kIn) r2 hq) fun r' s' hq' => ?_))
  cases r' with
  | error er => exact False.elim hq'
  | ok fl =>
    cases fl with
    | ret u =>
      obtain ⟨v, H2, os2, bare2, un2, hok2, rv, ev, gone⟩ := hq'
      subst ev
      obtain ⟨h2, g2, d2, t2, os'⟩ := s'
      refine ⟨rv, ?_⟩
      rcases gone with ⟨ea, q⟩ | ⟨d, fs, ea, ed, hd, q⟩
      · exact mk_endN hR I sz kk un2 hok2 os2 bare2 ea q
      · exact mk_end hR I sz kk un2 hok2 os2 bare2 ea ed hd q
    | next => exact False.elim hq'
    | brk => exact False.elim hq'
    | cont => exact False.elim hq'
variable {e : Expr} {es : List Expr} {ta : TA} {p pos : Pos}
/-- raise C(e, ..) -/
theorem pmk_E (M : EM X.prog X.w X.K X.mg X.base x C k fI fd ps sp) (hr : Room 2 X.A) (hb : Binds X.K fd ps []) (hg : Gl X x) (ha : PA X (e :: es) ta)
    (hdb : (x == ("__debug__" : Str)) = false := by decide) (he : starEach (e :: es) X.env = (false, eval e X.env) :: starEach es X.env := by rfl) (hpl : (backTo pos (starEach es X.env)).any (·.1) = false := by rfl) :
    PMk X (.Call (.Name x p) (e :: es) [] pos) (tRz C sp ta) := by
  intro pins s σ H Q I h
  refine wpAny_Call_Name_kw (ld_glob I hg M.g ?_ hdb)
  refine PySem.W.callWith_K (h₀ := X.base) I.ok.mod.kin M.c.kC (thn (ha.run pos pins s σ H _ I h) fun us s1 ⟨vs, H1, I1, r1, hz, q1⟩ => ⟨I1.kIn, ?_⟩) he hpl
  have hl : (V.ref s1.heap.objs.size :: vs).length = ps.length := M.ok.len _ _ _ _ (q1 (s1.heap.objs.size) (I1.hok.fresh (Nat.le_refl _)))
  refine run_rz (us := us) (zs := vs) M hr (by rw [← Paired.length r1]; exact hz) I1 r1 (fun s' a X' => ?_) q1
  have e := hb s' (.ref a :: us) X' (by rw [List.append_nil, ← hl, List.length_cons, List.length_cons, r1.length])
  rw [List.append_nil] at e
  exact e
/-- raise C() -/
theorem pmk_E0 (M : EM X.prog X.w X.K X.mg X.base x C k fI fd ps sp) (hr : Room 2 X.A) (hb : Binds X.K fd ps []) (hg : Gl X x) (hdb : (x == ("__debug__" : Str)) = false := by decide) : PMk X (.Call (.Name x p) [] [] pos) (tRz C sp tNil) := by
  intro pins s σ H Q I h
  obtain ⟨hz, q1⟩ := h
  refine wpAny_Call_Name_kw (ld_glob I hg M.g ?_ hdb)
  have hl : (V.ref s.heap.objs.size :: ([] : List V)).length = ps.length := M.ok.len _ _ _ _ (q1 (s.heap.objs.size) (I.hok.fresh (Nat.le_refl _)))
  refine PySem.W.callWith_K0 I.kIn M.c.kC (run_rz (us := []) (zs := []) M hr (Nat.zero_le _) I .nil (fun s' a X' => ?_) q1)
  have e := hb s' [.ref a] X' (by rw [List.append_nil, ← hl]; rfl)
  rw [List.append_nil] at e
  exact e
end
end K34
set_option Elab.async false
set_option linter.all false
set_option maxRecDepth 100000
set_option maxHeartbeats 4000000
/-! a tuple turned round by its slice -/
namespace RevT
open PySem PyProof.Rows L2
theorem adj (n : Nat) : Builtin.Slice.sliceAdjust none none (-1) (n : Int) = ((n : Int) - 1, -1) := by
  unfold Builtin.Slice.sliceAdjust
  simp
theorem places (n : Nat) : Builtin.Slice.slicePlaces ((n : Int) - 1) (-1) (-1) = n := by
  unfold Builtin.Slice.slicePlaces
  simp
  try omega
theorem pick (items : Array Value) : ((List.range items.size).filterMap fun k : Nat => items[((items.size : Int) - 1 + (k : Int) * (-1)).toNat]?).toArray = items.toList.reverse.toArray := by
  congr 1
  have e : ∀ (n : Nat), n ≤ items.size → (List.range n).filterMap (fun k : Nat => items[((items.size : Int) - 1 + (k : Int) * (-1)).toNat]?) = items.toList.reverse.take n := by
    intro n
    induction n with
    | zero => intro _; simp
    | succ n ih =>
      intro hn
      rw [List.range_succ, List.filterMap_append, ih (by omega), List.take_add_one]
      congr 1
      have e1 : ((items.size : Int) - 1 + (n : Int) * (-1)).toNat = items.size - 1 - n := by omega
      rw [List.filterMap_cons, List.filterMap_nil, e1, List.getElem?_reverse (by rw [Array.length_toList]; omega), Array.length_toList, Array.getElem?_toList]
      cases items[items.size - 1 - n]? <;> rfl
  have := e items.size (Nat.le_refl _)
  rw [this, List.take_of_length_le (by rw [List.length_reverse, Array.length_toList]; omega)]
section
variable {prog : Program} {w : World} {A : Around} {E : Value → Shared → Prop} {s : Shared}
theorem sliceApplied_rev {sl : Addr} {vl vu vs : Value} {n : Nat} {Q : Int × Int × Nat → Shared → Prop} (hs : s.heap.IsSliceOf sl vl vu vs) (pl : IsPart vl none) (pu : IsPart vu none) (ps : IsPart vs (some (-1)))
    (h : Q ((n : Int) - 1, -1, n) s) : wpAny (model prog w) A (Builtin.Slice.sliceApplied (.ref sl) (pure (n : Int))) Q E s := by
  obtain ⟨os, hos, hcs, hds⟩ := id hs
  unfold Builtin.Slice.sliceApplied
  refine wpAny_bind (wpAny_bind (wpAny_field hos hds rfl (wpAny_bind (wpAny_field hos hds rfl (wpAny_bind (wpAny_field hos hds rfl (wpAny_pure (wpAny_bind (HT.slicePart_ ps ?_)))))))))
  show wpAny _ _ (if ((-1 : Int) == 0) = true then _ else _) _ _ _
  rw [if_neg (by decide)]
  refine wpAny_bind (HT.slicePart_ pl (wpAny_bind (HT.slicePart_ pu (wpAny_bind (wpAny_pure ?_)))))
  show wpAny _ _ (match Builtin.Slice.sliceAdjust none none (-1) (n : Int) with | (lo, hi) => pure (lo, -1, Builtin.Slice.slicePlaces lo hi (-1))) _ _ _
  rw [adj]
  show wpAny _ _ (pure ((n : Int) - 1, (-1 : Int), Builtin.Slice.slicePlaces ((n : Int) - 1) (-1) (-1))) _ _ _
  rw [places]
  exact wpAny_pure h
theorem getItem_tuple_rev {t sl : Addr} {items : Array Value} {vl vu vs : Value} {Q : Value → Shared → Prop} (ht : IsTup s.heap t items) (hs : s.heap.IsSliceOf sl vl vu vs) (pl : IsPart vl none) (pu : IsPart vu none) (ps : IsPart vs (some (-1)))
    (h : Q (.ref s.heap.objs.size) { s with heap := s.heap.push { cls := .type "tuple", data := .seq items.toList.reverse.toArray } }) (hsz : items.size ≤ sizeLine) : wpAny (model prog w) A (getItem (.ref t) (.ref sl)) Q E s := by
  obtain ⟨os, hos, hcs, hds⟩ := id hs
  have hTs : s.TypeIs (.ref sl) "slice" := ⟨os, hos, hcs⟩
  refine wpAny_holding (wpAny_bind (wpAny_sequenceKey (IsTup.typeIs ht) (by decide +kernel) (wpAny_bind (wpAny_callSpecial?_slot (IsTup.typeIs ht) slot_tuple_getitem (wpAny_call_entry slot_tuple_getitem (IsTup.typeIs ht) entry_tuple_getitem ?_ (args_tuple_getitem (.ref t) (.ref sl)))))))
  refine wpAny_bind (show wpAny _ _ (pure (Value.ref t, [Value.ref sl])) _ _ _ from wpAny_pure ?_)
  dsimp only
  refine wpAny_bind (tupleItemsOf_ ht (wpAny_bind (wpAny_typeOf hTs ?_)))
  rw [if_pos (by decide +kernel)]
  refine wpAny_bind (sliceApplied_rev hs pl pu ps ?_)
  dsimp only
  have hno : ¬(((items.size : Int) - 1 == 0 && (-1 : Int) == 1 && items.size == items.size) = true) := by
    simp
  rw [if_neg hno, pick]
  exact wpAny_bind (wpAny_newObj_type (wpAny_pure ⟨_, rfl, wpAny_pure h⟩) (show items.toList.reverse.toArray.size ≤ sizeLine by rw [List.size_toArray, List.length_reverse, Array.length_toList]; exact hsz))
end
/-- e[::-1] of a tuple -/
def tRevT (K : PySem.W.Frag) (te : TE) : TE := fun σ H Q => te σ H fun x H1 => ∃ a xs, x = .ref a ∧ SqT K H1 a xs ∧ ∀ p, H1 p = none → Q (.ref p) (upd H1 p (.tup xs.reverse))
theorem vals_rev {xs : List V} {us : List Value} (h : Vals xs us) : Vals xs.reverse us.reverse := by
  induction h with
  | nil => exact .nil
  | cons r _ ih =>
    rw [List.reverse_cons, List.reverse_cons]
    exact ih.append (.cons r .nil)
theorem pe_revT {X : Cx} {e : Expr} {te : TE} {k : Nat} {p1 p2 p3 pos : Pos} (he : PE X e te) : PE X (.Subscript e (.Slice none none (some (.UnaryOp .USub (.Constant (.int 1) k p1) p2)) p3) pos) (tRevT X.K te) := by
  refine ⟨fun pins s σ H Q I h => ?_⟩
  refine Subscript_ (thn (he.run pins s σ H _ I h) fun v s1 ⟨x, H1, I1, r1, a, xs, ex, hx, q⟩ => ?_)
  subst ex
  obtain rfl : v = Value.ref a := r1
  have hst : PO X (some (.UnaryOp .USub (.Constant (.int 1) k p1) p2)) _ := po_some (pe_un un_neg pe_int)
  refine wpAny_Slice (thn (po_none.run pins s1 σ H1 (fun o H2 => o = none ∧ H2 = H1) I1 ⟨rfl, rfl⟩) fun vl s2 ⟨l, H2, I2, pl, el, e2⟩ => ?_)
  subst el
  subst e2
  refine thn (po_none.run pins s2 σ H2 (fun o H3 => o = none ∧ H3 = H2) I2 ⟨rfl, rfl⟩) fun vu s3 ⟨u, H3, I3, pu, eu, e3⟩ => ?_
  subst eu
  subst e3
  refine thn (hst.run pins s3 σ H3 (fun o H4 => o = some (-1) ∧ H4 = H3) I3 ⟨1, rfl, -1, rfl, rfl, rfl⟩) fun vs s4 ⟨o, H4, I4, ps, eo, e4⟩ => ?_
  subst eo
  subst e4
  have I5 := I4.kept (t' := s4.toks) (h' := s4.heap.push { cls := Value.type "slice", data := Data.fields #[vl, vu, vs] }) fun b ob q => Heap.get?_push_of_some _ q
  obtain ⟨its, r, ht, hz⟩ := Inv.tuple I5 hx
  have hlen := Vals.length r
  refine tail_any (IsTup.typeIs ht) slot_tuple_getitem.lookup (getItem_tuple_rev ht (Heap.IsSliceOf.new s4.1 vl vu vs) pl pu ps ?_ (by rw [List.size_toArray, ← hlen]; exact hz)) rfl
  refine ⟨.ref _, upd H4 _ (.tup xs.reverse), Inv.laid I5 (fun b ob q => Heap.get?_push_of_some _ q) (Nat.le_refl _) ⟨?_, its.reverse, vals_rev r, ?_⟩, rfl, q _ (HOk.fresh I5.hok (Nat.le_refl _))⟩
  · rw [List.length_reverse]
    exact hz
  · exact IsTup.new _ its.reverse.toArray
end RevT
set_option Elab.async false
set_option linter.all false
set_option maxRecDepth 100000
set_option maxHeartbeats 4000000
/-! < of two pairs whose first items decide, or whose second ones may be compared -/
namespace TupL
open PySem PySem.SeqAt
open AutoSeq1 (wpAny_loadPart')
open MeetsSeq MeetsSeq2 MeetsSeq3 SeqRoads2
section
variable {prog : Program} {w : World} {A : Around} {R : Result → Shared → Prop}
theorem body {l b : Addr} {xs ys : Array Value} {n n2 : Nat} {d1 d2 : Option Addr} {c1 c2 : Array (Option Value)} (J : Nat → Shared → Prop)
    (turn : ∀ i (h1 : i < xs.size) (h2 : i < ys.size) s, J i s → wpAny (model prog w) A.in1 (eqBool xs[i] ys[i]) (fun r s' => if r = true then J (i + 1) s' else wpAny (model prog w) A.in1 (richCompare .Lt xs[i] ys[i]) (fun v s2 => R (.ok (.ret v)) s2) (fun e s2 => R (.error e) s2) s') (fun e s' => R (.error e) s') s)
    (fin : ∀ i s, J i s → min xs.size ys.size ≤ i → R (.ok (.ret (.bool (decide (xs.size < ys.size))))) s) {s : Shared}
    (hl : s.heap.get? l = some { cls := .type "tuple", dict := d1, data := .seq xs n, slots := c1 }) (hb : s.heap.get? b = some { cls := .type "tuple", dict := d2, data := .seq ys n2, slots := c2 }) (h : J 0 s) :
    wpAny (model prog w) A.in1 (Builtin.«tuple.__lt__» ⟨[.ref l, .ref b], []⟩) (GQ.FinOf prog w A R) (fun e s' => R (.error e) s') s := by
  have sub := AutoSeq1.sub_tuple_tuple
  have hZ : (xs.toList.zip ys.toList).length = min xs.size ys.size := by simp
  have h0 := h
  obtain ⟨hp, g, d, tk, os⟩ := s
  wp_walk using wpAny_loadPart' hl, wpAny_loadPart' hb, wpAny_forIn_list _ (fun rest z s' => z.1 = none ∧ ∃ i, rest = (xs.toList.zip ys.toList).drop i ∧ J i s') _
  case turn =>
    rintro ⟨y, x⟩ rest z s' ⟨hz0, i, hz, hJ⟩
    have lt : i < (xs.toList.zip ys.toList).length := by
      by_cases q : i < (xs.toList.zip ys.toList).length
      · exact q
      · rw [List.drop_of_length_le (Nat.le_of_not_lt q)] at hz
        cases hz
    have k1 : i < xs.size := by omega
    have k2 : i < ys.size := by omega
    rw [List.drop_eq_getElem_cons lt] at hz
    injection hz with e1 e2
    obtain rfl : y = xs[i] := by have := congrArg Prod.fst e1; simpa using this
    obtain rfl : x = ys[i] := by have := congrArg Prod.snd e1; simpa using this
    refine wpAny_bind (wpAny_mono (turn i k1 k2 s' hJ) (fun r s2 q2 => ?_) fun _ _ x => x)
    cases r with
    | true =>
      rw [if_pos rfl] at q2
      wp_walk
      exact ⟨rfl, i + 1, e2, q2⟩
    | false =>
      rw [if_neg Bool.false_ne_true] at q2
      rw [if_pos (show (!false) = true from rfl)]
      show wpAny (model prog w) A.in1 (do
        rule "tuple.compare.by-the-first-pair-that-differs"
        let v ← richCompare .Lt xs[i] ys[i]
        let r ← ret v
        pure (ForInStep.done (some r, ()))) _ _ _
      refine wpAny_bind (wpAny_rule ?_)
      refine wpAny_bind (wpAny_mono q2 (fun v s3 q3 => ?_) fun _ _ x => x)
      wp_walk
      exact q3
  case fin =>
    rintro ⟨z1, z2⟩ s' ⟨hz0, i, hz, hJ⟩
    simp only at hz0
    subst hz0
    have ge : min xs.size ys.size ≤ i := by
      by_cases q : i < (xs.toList.zip ys.toList).length
      · rw [List.drop_eq_getElem_cons q] at hz
        cases hz
      · omega
    have hR := fin i s' hJ ge
    wp_walk
    first
      | exact hR
      | exact ⟨_, rfl, by simpa [Builtin.Tuple.tupleCompareSizes] using hR⟩
      | (simpa [Builtin.Tuple.tupleCompareSizes] using hR)
  case h => exact ⟨rfl, 0, rfl, h0⟩
/-- < of two pairs -/
theorem pair {A : Around} {s : Shared} {l b : Addr} {x0 x1 y0 y1 : Value} {e0 e1 r0 r1 : Bool} (hl : s.heap.IsTuple l #[x0, x1]) (hb : s.heap.IsTuple b #[y0, y1]) (hu : A.units < cLine)
    (q0 : EqAt A.in1 s x0 y0 e0) (l0 : e0 = false → RcLt A.in1 s x0 y0 r0) (q1 : e0 = true → EqAt A.in1 s x1 y1 e1) (l1 : e0 = true → e1 = false → RcLt A.in1 s x1 y1 r1) :
    RcLt A s (.ref l) (.ref b) (if e0 = true then (if e1 = true then false else r1) else r0) := fun prog w E Q h => by
  obtain ⟨⟨k1, d1, u1, c1⟩, o1, z1, n, f1⟩ := id hl
  obtain ⟨⟨k2, d2, u2, c2⟩, o2, z2, n2, f2⟩ := id hb
  simp only at z1 f1 z2 f2
  subst z1 f1 z2 f2
  refine wpAny_richCompare_same_room (op := .Lt) ⟨_, o1, rfl⟩ ⟨_, o2, rfl⟩ F.slot_tuple_lt (GQ.call_here F.slot_tuple_lt ⟨_, o1, rfl⟩ F.entry_tuple_lt (F.args_tuple_lt_2 _ _) ?_) hu
  refine body (R := wants (fun v s' => v ≠ .notImplemented ∧ Q v s') E) (fun i s' => s' = s ∧ (i = 0 ∨ (i = 1 ∧ e0 = true) ∨ (i = 2 ∧ e0 = true ∧ e1 = true))) (fun i h1 h2 s' hJ => ?_) (fun i s' hJ hm => ?_) o1 o2 ⟨rfl, .inl rfl⟩
  · obtain ⟨rfl, hJ⟩ := hJ
    rcases hJ with rfl | ⟨rfl, t0⟩ | ⟨rfl, _⟩
    · refine q0 prog w _ _ ?_
      cases e0 with
      | true => exact ⟨rfl, .inr (.inl ⟨rfl, rfl⟩)⟩
      | false => exact l0 rfl prog w _ _ ⟨(fun z => nomatch z), h⟩
    · refine q1 t0 prog w _ _ ?_
      subst t0
      cases e1 with
      | true => exact ⟨rfl, .inr (.inr ⟨rfl, rfl, rfl⟩)⟩
      | false => exact l1 rfl rfl prog w _ _ ⟨(fun z => nomatch z), h⟩
    · exact absurd h1 (by simp)
  · obtain ⟨rfl, hJ⟩ := hJ
    have hm : 2 ≤ i := hm
    rcases hJ with rfl | ⟨rfl, t0⟩ | ⟨rfl, t0, t1⟩
    · omega
    · omega
    · subst t0 t1
      exact ⟨(fun z => nomatch z), h⟩
end
end TupL
set_option Elab.async false
set_option linter.all false
set_option maxRecDepth 100000
set_option maxHeartbeats 4000000
/-! the ends of ranges as data; what may be handed in -/
namespace K26
open K34 PySem PySem.Spec PyProof.Rows L2
inductive En where
  | lo | hi | num (i : Int) | wrd (s : Str)
  deriving DecidableEq
def enV : En → V
  | .lo => .str "-" | .hi => .str "+" | .num i => .int i | .wrd s => .str s
def enD : En → PyData
  | .lo => .str "-" | .hi => .str "+" | .num i => .int i | .wrd s => .str s
def isSg : En → Bool
  | .lo => true | .hi => true | _ => false
def enOk : En → Bool
  | .num i => isN (.int i) | .wrd s => wordS s | _ => true
/-- a sign; an entry -/
def sgD : PyData → Bool
  | .str s => decide (s = "-") || decide (s = "+") | _ => false
def entD (d : PyData) : Bool := sgD d || (isN d || isW d)
def enOfS (s : Str) : En := if s = "-" then .lo else if s = "+" then .hi else .wrd s
def enOf : PyData → En
  | .str s => enOfS s
  | .int i => .num i
  | _ => .lo
theorem enOfS_lo : enOfS "-" = .lo := by decide +kernel
theorem enOfS_hi : enOfS "+" = .hi := by decide +kernel
theorem enOfS_w {s : Str} (h1 : s ≠ "-") (h2 : s ≠ "+") : enOfS s = .wrd s := by
  unfold enOfS
  rw [if_neg h1, if_neg h2]
theorem sgS_w {s : Str} (h1 : s ≠ "-") (h2 : s ≠ "+") : sgD (.str s) = false := by
  show (decide _ || decide _) = false
  rw [decide_eq_false h1, decide_eq_false h2]
  rfl
theorem enOf_D {d : PyData} (h : entD d = true) : enD (enOf d) = d ∧ enOk (enOf d) = true ∧ isSg (enOf d) = sgD d := by
  cases d with
  | str s =>
    show enD (enOfS s) = _ ∧ enOk (enOfS s) = true ∧ isSg (enOfS s) = _
    by_cases h1 : s = "-"
    · subst h1
      rw [enOfS_lo]
      exact ⟨rfl, rfl, by decide +kernel⟩
    · by_cases h2 : s = "+"
      · subst h2
        rw [enOfS_hi]
        exact ⟨rfl, rfl, by decide +kernel⟩
      · rw [enOfS_w h1 h2, sgS_w h1 h2]
        refine ⟨rfl, ?_, rfl⟩
        unfold entD at h
        rw [sgS_w h1 h2] at h
        exact h
  | int i =>
    refine ⟨rfl, ?_, rfl⟩
    have h : (false || (isN (.int i) || false)) = true := h
    rw [Bool.false_or, Bool.or_false] at h
    exact h
  | none => exact Bool.noConfusion (show false = true from h)
  | bool b => exact Bool.noConfusion (show false = true from h)
  | list b => exact Bool.noConfusion (show false = true from h)
  | tuple b => exact Bool.noConfusion (show false = true from h)
  | dict b => exact Bool.noConfusion (show false = true from h)
theorem wordS_sg {s : Str} (h : wordS s = true) : s ≠ "-" ∧ s ≠ "+" := by
  constructor <;> (rintro rfl; revert h; decide +kernel)
theorem enD_of {e : En} (h : enOk e = true) : enOf (enD e) = e := by
  cases e with
  | lo => exact enOfS_lo
  | hi => exact enOfS_hi
  | num i => rfl
  | wrd s => exact enOfS_w (wordS_sg h).1 (wordS_sg h).2
theorem ent_of {e : En} (h : enOk e = true) : entD (enD e) = true ∧ sgD (enD e) = isSg e := by
  cases e with
  | lo => exact ⟨by decide +kernel, by decide +kernel⟩
  | hi => exact ⟨by decide +kernel, by decide +kernel⟩
  | num i =>
    have h : isN (.int i) = true := h
    exact ⟨by show (false || (isN (.int i) || false)) = true; rw [h]; rfl, rfl⟩
  | wrd s =>
    have e2 := sgS_w (wordS_sg h).1 (wordS_sg h).2
    refine ⟨?_, e2⟩
    show (sgD (.str s) || (false || isW (.str s))) = true
    have h : isW (.str s) = true := h
    rw [e2, h]
    rfl
/-- what makes an end -/
def endOk : List En → Bool
  | [_] => true
  | [x, y] => !isSg x || decide (y = x)
  | _ => false
def endD : PyData → Bool
  | .tuple ds => (decide (1 ≤ ds.length) && decide (ds.length ≤ 2)) && (ds.all entD && endOk (ds.map enOf))
  | _ => false
def itemsD : PyData → List PyData
  | .tuple ds => ds
  | _ => []
def entsD (d : PyData) : List En := (itemsD d).map enOf
/-- the kinds: some true of a number, some false of a word -/
def enK : En → Option Bool
  | .num _ => some true | .wrd _ => some false | _ => none
def agr1 (p : En × En) : Bool := (enK p.1).isNone || ((enK p.2).isNone || decide (enK p.1 = enK p.2))
def agr (es fs : List En) : Bool := (es.zip fs).all agr1
/-- the places' order -/
def rankE : En → Int
  | .lo => 0 | .hi => 2 | _ => 1
def secE : En → V
  | .num i => .int i | .wrd s => .str s | _ => .int 0
def ltE : En → En → Bool
  | .num i, .num j => decide (i < j)
  | .wrd s, .wrd t => decide (s.cps.toList < t.cps.toList)
  | e, f => decide (rankE e < rankE f)
def ltEs (es fs : List En) : Bool := SeqAt.firstLt (fun j => decide (es.getD j .lo = fs.getD j .lo)) (fun j => ltE (es.getD j .lo) (fs.getD j .lo)) (decide (es.length < fs.length)) (List.range (min es.length fs.length))
def rngD (a b : PyData) : Bool := (endD a && (endD b && decide ((itemsD a).length = (itemsD b).length))) && (agr (entsD a) (entsD b) && ltEs (entsD a) (entsD b))
/-- what may be handed in: a tuple of data, or a datum that is no tuple -/
def isTup : PyData → Bool
  | .tuple _ => true | _ => false
inductive Tg (K : PySem.W.Frag) (H : Hp) : V → PyData → Prop where
  | tup {a : Addr} {xs : List V} {ds : List PyData} (h : SqT K H a xs) (l : xs.length = ds.length) (t : ∀ (i : Nat) (x : V) (d : PyData), xs[i]? = some x → ds[i]? = some d → Th K H x d) : Tg K H (.ref a) (.tuple ds)
  | oth {v : V} {d : PyData} (t : Th K H v d) (n : isTup d = false) : Tg K H v d
theorem dpAll_at {K : PySem.W.Frag} {H : Hp} : ∀ {xs : List V} {ds : List PyData}, DpAll K H xs ds → xs.length = ds.length ∧ ∀ (i : Nat) (x : V) (d : PyData), xs[i]? = some x → ds[i]? = some d → Dp K H x d
  | _, _, .nil => ⟨rfl, fun i x d h => by simp at h⟩
  | _, _, .cons h1 h2 => by
    obtain ⟨l, f⟩ := dpAll_at h2
    refine ⟨by rw [List.length_cons, List.length_cons, l], fun i x d e1 e2 => ?_⟩
    cases i with
    | zero =>
      simp only [List.getElem?_cons_zero, Option.some.injEq] at e1 e2
      subst e1 e2
      exact h1
    | succ i => exact f i x d (by simpa using e1) (by simpa using e2)
theorem hasAll {ds : List PyData} (h : PyData.hasDictAll ds = false) : ∀ d ∈ ds, d.hasDict = false := by
  induction ds with
  | nil => intro d hd; cases hd
  | cons x r ih =>
    have h : (x.hasDict || PyData.hasDictAll r) = false := by simpa only [PyData.hasDictAll] using h
    obtain ⟨h1, h2⟩ := Bool.or_eq_false_iff.mp h
    intro d hd
    rcases List.mem_cons.mp hd with rfl | hd
    · exact h1
    · exact ih h2 d hd
theorem Th.tg {K : PySem.W.Frag} {H : Hp} {v : V} {d : PyData} (t : Th K H v d) : Tg K H v d := by
  cases hd : isTup d with
  | false => exact .oth t hd
  | true =>
    cases d with
    | tuple ds =>
      cases t with
      | dp h n =>
        cases h with
        | @tup a xs ds h1 h2 =>
          obtain ⟨l, f⟩ := dpAll_at h2
          have n : PyData.hasDictAll ds = false := by simpa only [PyData.hasDict] using n
          exact .tup h1 l fun i x d e1 e2 => .dp (f i x d e1 e2) (hasAll n d (List.mem_of_getElem? e2))
    | _ => exact Bool.noConfusion hd
section
variable {K : PySem.W.Frag} {H H' : Hp} {v : V} {d : PyData}
theorem sqT_same {a : Addr} {xs : List V} (h : SqT K H a xs) (s : Same H H') : SqT K H' a xs := by
  rcases h with (h | ⟨o, h⟩) | h
  · exact .inl (.inl (s _ _ h))
  · exact .inl (.inr ⟨o, s _ _ h⟩)
  · exact .inr h
theorem Tg.same (t : Tg K H v d) (s : Same H H') : Tg K H' v d := by
  cases t with
  | tup h l f => exact .tup (sqT_same h s) l fun i x d e1 e2 => (f i x d e1 e2).same s
  | oth t n => exact .oth (t.same s) n
theorem dp_but (e : ∀ b o, (∀ kvs, o ≠ HO.dK kvs) → H b = some o → H' b = some o) : ∀ (d : PyData) (v : V), Dp K H v d → Dp K H' v d := by
  have sT : ∀ {a : Addr} {xs : List V}, SqT K H a xs → SqT K H' a xs := fun {a xs} h => by
    rcases h with (h | ⟨o, h⟩) | h
    · exact .inl (.inl (e _ _ (fun _ z => by cases z) h))
    · exact .inl (.inr ⟨o, e _ _ (fun _ z => by cases z) h⟩)
    · exact .inr h
  have sL : ∀ {a : Addr} {xs : List V}, SqL K H a xs → SqL K H' a xs := fun {a xs} h => by
    rcases h with (h | ⟨o, h⟩) | h
    · exact .inl (.inl (e _ _ (fun _ z => by cases z) h))
    · exact .inl (.inr ⟨o, e _ _ (fun _ z => by cases z) h⟩)
    · exact .inr h
  intro d v h
  exact Dp.rec (motive_1 := fun v d _ => Dp K H' v d) (motive_2 := fun vs ds _ => DpAll K H' vs ds) .non .bl .int .str (fun h1 _ ih => .lst (sL h1) ih) (fun h1 _ ih => .tup (sT h1) ih) .nil (fun _ _ i1 i2 => .cons i1 i2) h
/-- a datum stands while the pen is written -/
theorem th_but {p c : Addr} {t l : Int} (hp : H p = some (.dK (penK c t l))) (b : But p H H') (h : Th K H v d) : Th K H' v d := by
  cases h with
  | dp h n => exact .dp (dp_but (fun a o no e => b a o (fun z => no _ (by rw [z, hp] at e; exact (Option.some.inj e).symm)) e) _ _ h) n
  | @d0 a h => exact .d0 (b a _ (fun z => by rw [z, hp] at h; cases h) h)
  | @d1 a h => exact .d1 (b a _ (fun z => by rw [z, hp] at h; cases h) h)
theorem sqT_but {p o : Addr} {xs : List V} {kvs : List (Key × V)} (hp : H p = some (.dK kvs)) (b : But p H H') (h : SqT K H o xs) : SqT K H' o xs := by
  rcases h with (h | ⟨u, h⟩) | h
  · exact .inl (.inl (b _ _ (ne_of h hp (by intro z; cases z)) h))
  · exact .inl (.inr ⟨u, b _ _ (ne_of h hp (by intro z; cases z)) h⟩)
  · exact .inr h
theorem Tg.but {p c : Addr} {t l : Int} (hp : H p = some (.dK (penK c t l))) (b : But p H H') (h : Tg K H v d) : Tg K H' v d := by
  cases h with
  | tup h l f => exact .tup (sqT_but hp b h) l fun i x d e1 e2 => th_but hp b (f i x d e1 e2)
  | oth t n => exact .oth (th_but hp b t) n
end
end K26
set_option Elab.async false
set_option linter.all false
set_option maxRecDepth 100000
set_option maxHeartbeats 4000000
/-! in a tuple of texts; == of sequences of flat items; < of lists of pairs; a list and the empty list -/
namespace K26
open K34 PySem PySem.Spec PyProof.Rows L2
theorem vals_getD {xs : List V} {us : List Value} (r : Vals xs us) : ∀ (j : Nat) (h : j < us.length), RelV (xs.getD j .non) us[j] := by
  induction r with
  | nil => intro j h; exact absurd h (Nat.not_lt_zero _)
  | cons r1 _ ih =>
    intro j h
    cases j with
    | zero => exact r1
    | succ j => exact ih j (Nat.lt_of_succ_lt_succ h)
def eqVs (xs ys : List V) : Bool := (List.range (min xs.length ys.length)).all (fun j => eqV (xs.getD j .non) (ys.getD j .non)) && (xs.length == ys.length)
theorem flat_getD {xs : List V} (f : xs.all flatV = true) (j : Nat) : flatV (xs.getD j .non) = true := by
  rw [List.getD_eq_getElem?_getD]
  cases h : xs[j]? with
  | none => rfl
  | some v => exact List.all_eq_true.mp f v (List.mem_of_getElem? h)
theorem eqVs_refl {xs : List V} (f : xs.all flatV = true) : eqVs xs xs = true := by
  unfold eqVs
  rw [Bool.and_eq_true]
  refine ⟨List.all_eq_true.mpr fun j _ => ?_, by simp⟩
  have h := flat_getD f j
  cases hv : xs.getD j .non <;> rw [hv] at h <;> first | rfl | exact absurd h Bool.false_ne_true | (show (_ == _) = true; simp)
section
variable {X : Cx} {pins : List (Addr × Obj)} {σ : L2.St} {H : Hp} {s : Shared}
/-- x in a tuple of texts, x any value -/
def rInS (K : PySem.W.Frag) : R2 := fun x y H Q => ∃ (p : Addr) (ss : List Str) (d : PyData), y = .ref p ∧ SqT K H p (ss.map V.str) ∧ Th K H x d ∧ Q (.bl (isIn d ss)) H
theorem op_inS (hu : X.A.in1.units < cLine) : OpR X (compareOp .In) (rInS X.K) := by
  intro pins s σ H x y v u Q I rx ry h
  obtain ⟨p, ss, d, rfl, hq, t, q⟩ := h
  cases ry
  obtain ⟨its, r, pl, hz⟩ := I.tuple hq
  refine SeqAt.in_tupleAt (eqS d) pl (fun w hw => ?_) ⟨.bl _, H, I, rfl, ?_⟩
  · obtain ⟨z, k, rfl⟩ := all_str r w (by simpa using hw)
    exact th_eqAt I t rx _ hu z k
  · rw [show its.toArray.any (eqS d) = its.any (eqS d) by simp, any_eqS d r]
    exact q
/-- == of two tuples, of two lists, of flat items -/
def rEqS (K : PySem.W.Frag) : R2 := fun x y H Q => ∃ (a b : Addr) (xs ys : List V), x = .ref a ∧ y = .ref b ∧ ((SqT K H a xs ∧ SqT K H b ys) ∨ (SqL K H a xs ∧ SqL K H b ys)) ∧ xs.all flatV = true ∧ ys.all flatV = true ∧ Q (.bl (eqVs xs ys)) H
theorem op_eqS (hu : X.A.units < cLine) : OpR X (compareOp .Eq) (rEqS X.K) := by
  intro pins s σ H x y v u Q I rx ry h
  obtain ⟨a, b, xs, ys, rfl, rfl, hq, fx, fy, q⟩ := h
  cases rx
  cases ry
  rcases hq with ⟨h1, h2⟩ | ⟨h1, h2⟩
  · obtain ⟨its, r, pl, hz⟩ := I.tuple h1
    obtain ⟨its2, r2, pl2, hz2⟩ := I.tuple h2
    refine SeqAt.eq_tupleAt (e := fun j => eqV (xs.getD j .non) (ys.getD j .non)) pl pl2 hu (fun j k1 k2 => ?_) ⟨.bl _, H, I, rfl, ?_⟩
    · have k1 : j < its.length := by simpa using k1
      have k2 : j < its2.length := by simpa using k2
      have z := eqAt_V (A := X.A.in1) (s := s) (vals_getD r j k1) (vals_getD r2 j k2) (flat_getD fx j) (flat_getD fy j)
      simpa using z
    · have e1 : its.toArray.size = xs.length := by rw [List.size_toArray, r.length]
      have e2 : its2.toArray.size = ys.length := by rw [List.size_toArray, r2.length]
      rw [e1, e2]
      exact q
  · obtain ⟨its, r, pl, hz⟩ := I.list h1
    obtain ⟨its2, r2, pl2, hz2⟩ := I.list h2
    have e1 : its.toArray.size = xs.length := by rw [List.size_toArray, r.length]
    have e2 : its2.toArray.size = ys.length := by rw [List.size_toArray, r2.length]
    by_cases el : xs.length = ys.length
    · refine SeqAt.eq_listAt (e := fun j => eqV (xs.getD j .non) (ys.getD j .non)) pl.isList pl2.isList (by rw [e1, e2, el]) hu (fun j k1 k2 => ?_) ⟨.bl _, H, I, rfl, ?_⟩
      · have k1 : j < its.length := by simpa using k1
        have k2 : j < its2.length := by simpa using k2
        have z := eqAt_V (A := X.A.in1) (s := s) (vals_getD r j k1) (vals_getD r2 j k2) (flat_getD fx j) (flat_getD fy j)
        simpa using z
      · rw [e1]
        unfold eqVs at q
        rw [← el, Nat.min_self, beq_self_eq_true, Bool.and_true] at q
        exact q
    · refine SeqAt.eq_list_lengthsAt pl.isList pl2.isList (by rw [e1, e2]; simpa using el) hu ⟨.bl _, H, I, rfl, ?_⟩
      unfold eqVs at q
      rw [beq_eq_false_iff_ne.mpr el, Bool.and_false] at q
      exact q
/-- xs == [], xs != [] -/
def rEqNil (K : PySem.W.Frag) (g : Bool → Bool) : R2 := fun x y H Q => ∃ (a b : Addr) (xs : List V), x = .ref a ∧ y = .ref b ∧ SqL K H a xs ∧ SqL K H b [] ∧ Q (.bl (g xs.isEmpty)) H
theorem op_eqNil (hu : X.A.units < cLine) : OpR X (compareOp .Eq) (rEqNil X.K id) := by
  intro pins s σ H x y v u Q I rx ry h
  obtain ⟨a, b, xs, rfl, rfl, h1, h2, q⟩ := h
  cases rx
  cases ry
  obtain ⟨its, r, pl, hz⟩ := I.list h1
  obtain ⟨its2, r2, pl2, hz2⟩ := I.list h2
  cases r2
  cases r with
  | nil => exact SeqAt.eq_listAt (e := fun _ => true) pl.isList pl2.isList rfl hu (fun j k1 k2 => absurd k1 (Nat.not_lt_zero _)) ⟨.bl _, H, I, rfl, q⟩
  | cons r1 r2 => exact SeqAt.eq_list_lengthsAt pl.isList pl2.isList (by simp) hu ⟨.bl _, H, I, rfl, q⟩
/-- the pairs of the places -/
def prV (e : En) : List V := [.int (rankE e), secE e]
structure PrAt (K : PySem.W.Frag) (H : Hp) (as : List Addr) (es : List En) : Prop where
  l : as.length = es.length
  t : ∀ (i : Nat) (a : Addr) (e : En), as[i]? = some a → es[i]? = some e → SqT K H a (prV e)
theorem PrAt.same {K : PySem.W.Frag} {H H' : Hp} {as : List Addr} {es : List En} (p : PrAt K H as es) (s : Same H H') : PrAt K H' as es := ⟨p.l, fun i a e h1 h2 => sqT_same (p.t i a e h1 h2) s⟩
theorem n01 {p : Prop} (h : (0 : Int) = 1) : p := absurd h (by decide)
theorem n02 {p : Prop} (h : (0 : Int) = 2) : p := absurd h (by decide)
theorem n10 {p : Prop} (h : (1 : Int) = 0) : p := absurd h (by decide)
theorem n12 {p : Prop} (h : (1 : Int) = 2) : p := absurd h (by decide)
theorem n20 {p : Prop} (h : (2 : Int) = 0) : p := absurd h (by decide)
theorem n21 {p : Prop} (h : (2 : Int) = 1) : p := absurd h (by decide)
theorem eqV_sec (e f : En) (h : rankE e = rankE f) : eqV (secE e) (secE f) = decide (e = f) := by
  cases e <;> cases f <;> first | exact n01 h | exact n02 h | exact n10 h | exact n12 h | exact n20 h | exact n21 h | rfl | (show (_ == _) = _; rw [Bool.eq_iff_iff]; simp)
theorem pr_two {a : Addr} {e : En} (I : Inv X pins σ H s) (h : SqT X.K H a (prV e)) : ∃ (t : Tok) (u : Value), s.heap.IsTuple a #[.int (rankE e) t, u] ∧ RelV (secE e) u := by
  obtain ⟨its, r, pl, hz⟩ := I.tuple h
  cases r with
  | cons r1 r2 =>
    cases r2 with
    | cons r2 r3 =>
      cases r3
      obtain ⟨t, rfl⟩ := r1
      exact ⟨t, _, pl, r2⟩
theorem sec_flat (e : En) : flatV (secE e) = true := by cases e <;> rfl
theorem pr_eq {A : Around} {a b : Addr} {e f : En} (I : Inv X pins σ H s) (h1 : SqT X.K H a (prV e)) (h2 : SqT X.K H b (prV f)) (hu : A.units < cLine) : SeqAt.EqAt A s (.ref a) (.ref b) (decide (e = f)) := by
  obtain ⟨t1, u1, p1, r1⟩ := pr_two I h1
  obtain ⟨t2, u2, p2, r2⟩ := pr_two I h2
  by_cases ab : a = b
  · subst ab
    have e0 : (#[.int (rankE e) t1, u1] : Array Value) = #[.int (rankE f) t2, u2] := by
      obtain ⟨o1, q1, _, n1, d1⟩ := p1
      obtain ⟨o2, q2, _, n2, d2⟩ := p2
      rw [q1] at q2
      cases q2
      rw [d1] at d2
      injection d2
    have e1 : (.int (rankE e) t1 : Value) = .int (rankE f) t2 ∧ u1 = u2 := by
      have z := congrArg Array.toList e0
      injection z with z1 z2
      injection z2 with z2 _
      exact ⟨z1, z2⟩
    obtain ⟨e1, rfl⟩ := e1
    have hr : rankE e = rankE f := by injection e1
    have ef : e = f := by
      cases e <;> cases f <;> first | exact n01 hr | exact n02 hr | exact n10 hr | exact n12 hr | exact n20 hr | exact n21 hr | rfl | skip
      · obtain ⟨_, rfl⟩ := r1
        obtain ⟨_, z⟩ := r2
        injection z with z _
        rw [z]
      · obtain ⟨_, rfl⟩ := r1
        obtain ⟨_, z⟩ := r2
        cases z
      · obtain ⟨_, rfl⟩ := r1
        obtain ⟨_, z⟩ := r2
        cases z
      · obtain ⟨_, rfl⟩ := r1
        obtain ⟨_, z⟩ := r2
        injection z with z _
        rw [z]
    rw [decide_eq_true ef]
    exact SeqAt.EqAt.same _
  · refine SeqAt.EqAt.of_refs ab ?_
    have z := SeqAt.RcAt.tuples (A := A) (s := s) (e := fun j => if j = 0 then (rankE e == rankE f) else eqV (secE e) (secE f)) p1 p2 hu (fun j k1 k2 => ?_)
    · have e1 : ((List.range (min (#[.int (rankE e) t1, u1] : Array Value).size (#[.int (rankE f) t2, u2] : Array Value).size)).all (fun j => if j = 0 then (rankE e == rankE f) else eqV (secE e) (secE f)) && (#[.int (rankE e) t1, u1] : Array Value).size == (#[.int (rankE f) t2, u2] : Array Value).size) = decide (e = f) := by
        show ((rankE e == rankE f) && (eqV (secE e) (secE f) && true) && true) = _
        rw [Bool.and_true, Bool.and_true]
        by_cases hr : rankE e = rankE f
        · rw [beq_iff_eq.mpr hr, Bool.true_and]
          exact eqV_sec e f hr
        · rw [beq_eq_false_iff_ne.mpr hr, Bool.false_and, decide_eq_false (fun z => hr (by rw [z]))]
      rw [e1] at z
      exact z
    · have k1 : j < 2 := k1
      rcases (show j = 0 ∨ j = 1 by omega) with rfl | rfl
      · exact SeqAt.EqAt.int_int _ _ _ _
      · exact eqAt_V r1 r2 (sec_flat e) (sec_flat f)
theorem pr_lt {A : Around} {a b : Addr} {e f : En} (I : Inv X pins σ H s) (h1 : SqT X.K H a (prV e)) (h2 : SqT X.K H b (prV f)) (hu : A.units < cLine) (g : agr1 (e, f) = true) (ne : e ≠ f) : SeqAt.RcLt A s (.ref a) (.ref b) (ltE e f) := by
  obtain ⟨t1, u1, p1, r1⟩ := pr_two I h1
  obtain ⟨t2, u2, p2, r2⟩ := pr_two I h2
  have z := TupL.pair (A := A) (s := s) (e0 := rankE e == rankE f) (e1 := eqV (secE e) (secE f)) (r0 := decide (rankE e < rankE f)) (r1 := ltE e f) p1 p2 hu (SeqAt.EqAt.int_int _ _ _ _) (fun _ prog w E Q h => PyProof.Rows.lt_int h) (fun _ => eqAt_V r1 r2 (sec_flat e) (sec_flat f)) (fun h0 h1 prog w E Q h => ?_)
  · by_cases hr : rankE e = rankE f
    · have q := eqV_sec e f hr
      rw [decide_eq_false ne] at q
      rw [q, beq_iff_eq.mpr hr, if_pos rfl, if_neg Bool.false_ne_true] at z
      exact z
    · rw [beq_eq_false_iff_ne.mpr hr, if_neg Bool.false_ne_true] at z
      have q : ltE e f = decide (rankE e < rankE f) := by cases e <;> cases f <;> first | rfl | exact absurd rfl hr
      rw [q]
      exact z
  · have hr := beq_iff_eq.mp h0
    cases e <;> cases f <;> first | exact n01 hr | exact n02 hr | exact n10 hr | exact n12 hr | exact n20 hr | exact n21 hr | exact absurd rfl ne | exact Bool.noConfusion (show false = true from g) | skip
    · obtain ⟨_, rfl⟩ := r1
      obtain ⟨_, rfl⟩ := r2
      exact PyProof.Rows.lt_int h
    · obtain ⟨_, rfl⟩ := r1
      obtain ⟨_, rfl⟩ := r2
      exact lt_str h
/-- < of two lists of pairs -/
def rLtPr (K : PySem.W.Frag) : R2 := fun x y H Q => ∃ (a b : Addr) (as bs : List Addr) (es fs : List En), x = .ref a ∧ y = .ref b ∧ SqL K H a (as.map V.ref) ∧ SqL K H b (bs.map V.ref) ∧ PrAt K H as es ∧ PrAt K H bs fs ∧ agr es fs = true ∧ Q (.bl (ltEs es fs)) H
theorem op_ltPr (hu : X.A.units + 1 < cLine) : OpR X (compareOp .Lt) (rLtPr X.K) := by
  intro pins s σ H x y v u Q I rx ry h
  obtain ⟨a, b, as, bs, es, fs, rfl, rfl, h1, h2, p1, p2, g, q⟩ := h
  cases rx
  cases ry
  obtain ⟨its, r, pl, hz⟩ := I.list h1
  obtain ⟨its2, r2, pl2, hz2⟩ := I.list h2
  have l1 : its.length = es.length := by rw [← r.length, List.length_map, p1.l]
  have l2 : its2.length = fs.length := by rw [← r2.length, List.length_map, p2.l]
  have at1 : ∀ (j : Nat) (k : j < its.length), ∃ c, its[j] = Value.ref c ∧ SqT X.K H c (prV (es.getD j .lo)) := fun j k => by
    have z := vals_getD r j k
    have ka : j < as.length := by have := p1.l; omega
    have ke : j < es.length := by omega
    have e : (as.map V.ref).getD j .non = .ref as[j] := by rw [List.getD_eq_getElem?_getD, List.getElem?_map, List.getElem?_eq_getElem ka]; rfl
    rw [e] at z
    refine ⟨as[j], z, ?_⟩
    have e2 : es.getD j .lo = es[j] := by rw [List.getD_eq_getElem?_getD, List.getElem?_eq_getElem ke]; rfl
    rw [e2]
    exact p1.t j _ _ (List.getElem?_eq_getElem ka) (List.getElem?_eq_getElem ke)
  have at2 : ∀ (j : Nat) (k : j < its2.length), ∃ c, its2[j] = Value.ref c ∧ SqT X.K H c (prV (fs.getD j .lo)) := fun j k => by
    have z := vals_getD r2 j k
    have ka : j < bs.length := by have := p2.l; omega
    have ke : j < fs.length := by omega
    have e : (bs.map V.ref).getD j .non = .ref bs[j] := by rw [List.getD_eq_getElem?_getD, List.getElem?_map, List.getElem?_eq_getElem ka]; rfl
    rw [e] at z
    refine ⟨bs[j], z, ?_⟩
    have e2 : fs.getD j .lo = fs[j] := by rw [List.getD_eq_getElem?_getD, List.getElem?_eq_getElem ke]; rfl
    rw [e2]
    exact p2.t j _ _ (List.getElem?_eq_getElem ka) (List.getElem?_eq_getElem ke)
  have z := SeqAt.RcLt.lists (A := X.A) (s := s) (e := fun j => decide (es.getD j .lo = fs.getD j .lo)) (r := fun j => ltE (es.getD j .lo) (fs.getD j .lo)) pl.isList pl2.isList (by omega) (fun j k1 k2 => ?_) (fun j k1 k2 ne => ?_)
  · have e1 : its.toArray.size = es.length := by rw [List.size_toArray, l1]
    have e2 : its2.toArray.size = fs.length := by rw [List.size_toArray, l2]
    rw [e1, e2] at z
    exact z X.prog X.w X.xe _ ⟨.bl _, H, I, rfl, q⟩
  · have k1 : j < its.length := by simpa using k1
    have k2 : j < its2.length := by simpa using k2
    obtain ⟨c, z1, z2⟩ := at1 j k1
    obtain ⟨d, y1, y2⟩ := at2 j k2
    have e1 : its.toArray[j] = Value.ref c := by simpa using z1
    have e2 : its2.toArray[j] = Value.ref d := by simpa using y1
    rw [e1, e2]
    exact pr_eq I z2 y2 (by show X.A.units + 1 < cLine; exact hu)
  · have k1 : j < its.length := by simpa using k1
    have k2 : j < its2.length := by simpa using k2
    obtain ⟨c, z1, z2⟩ := at1 j k1
    obtain ⟨d, y1, y2⟩ := at2 j k2
    have e1 : its.toArray[j] = Value.ref c := by simpa using z1
    have e2 : its2.toArray[j] = Value.ref d := by simpa using y1
    rw [e1, e2]
    refine pr_lt I z2 y2 (by show X.A.units + 1 < cLine; exact hu) ?_ (of_decide_eq_false ne)
    have ka : j < es.length := by omega
    have kb : j < fs.length := by omega
    rw [List.getD_eq_getElem?_getD, List.getD_eq_getElem?_getD, List.getElem?_eq_getElem ka, List.getElem?_eq_getElem kb]
    exact List.all_eq_true.mp g _ (List.mem_iff_getElem.mpr ⟨j, by rw [List.length_zip]; omega, by rw [List.getElem_zip]; rfl⟩)
end
end K26
set_option Elab.async false
set_option linter.all false
set_option maxRecDepth 100000
set_option maxHeartbeats 4000000
/-! kind_of, is_modulus, is_remainder, _is_value, _entry_kind -/
namespace K26
open K34 PySem PySem.Spec PyProof.Rows L2
structure TxP (mg : Str → Option Value) : Prop extends TxW mg where
  tuple : mg "tuple" = none
  zip : mg "zip" = none
  set : mg "set" = none
  sorted : mg "sorted" = none
  first : ∃ t, mg "FIRST" = some (.str "-" t)
  last : ∃ t, mg "LAST" = some (.str "+" t)
  maxM : ∃ t, mg "MAX_MODULUS" = some (.int 60 t)
  maxV : ∃ t, mg "MAX_VALUES" = some (.int 8 t)
  maxR : ∃ t, mg "MAX_RANGE_COLUMNS" = some (.int 2 t)
/-- flat: nothing, a number, a text -/
def FlV : V → Bool
  | .non => true | .int _ => true | .str _ => true | _ => false
def isStV : V → Bool
  | .str _ => true | _ => false
theorem fl_ty {K : PySem.W.Frag} {H : Hp} : ∀ {v : V}, FlV v = true → ∃ n : String, TyX K H v (.type n) ∧ kitB n "str" = some (isStV v)
  | .non, _ => ⟨"NoneType", .base .non, (by decide +kernel : kitB "NoneType" "str" = some false)⟩
  | .int i, _ => ⟨"int", .base (.int i), (by decide +kernel : kitB "int" "str" = some false)⟩
  | .str x, _ => ⟨"str", .base (.str x), (by decide +kernel : kitB "str" "str" = some true)⟩
  | .bl _, h => absurd h Bool.false_ne_true
  | .byt _, h => absurd h Bool.false_ne_true
  | .flt _, h => absurd h Bool.false_ne_true
  | .ref _, h => absurd h Bool.false_ne_true
  | .ty _, h => absurd h Bool.false_ne_true
def kindV : V → V
  | .non => .non | .str _ => .str "word" | _ => .str "number"
def ekV : En → V
  | .num _ => .str "number" | .wrd _ => .str "word" | _ => .non
theorem kind_en {e : En} (h : isSg e = false) : kindV (enV e) = ekV e := by cases e <;> first | rfl | exact Bool.noConfusion h
def valD : PyData → Bool
  | .none => true | d => isN d || isW d
def spKind : Sp := fun vs H Q _ => ∃ v, vs = [v] ∧ FlV v = true ∧ Q (kindV v) H
def spEK : Sp := fun vs H Q _ => ∃ e, vs = [enV e] ∧ enOk e = true ∧ ∀ H', Same H H' → Q (ekV e) H'
def spIsV (K : PySem.W.Frag) : Sp := fun vs H Q _ => ∃ (v : V) (d : PyData), vs = [v] ∧ Th K H v d ∧ sOk d = true ∧ ∀ H', Same H H' → Q (.bl (valD d)) H'
def spMod : Sp := fun vs H Q _ => ∃ i : Int, vs = [.int i] ∧ i ≤ 10 ^ 30 ∧ Q (.bl (decide (1 < i) && decide (60 % i = 0))) H
def spRem : Sp := fun vs H Q _ => ∃ i j : Int, vs = [.int i, .int j] ∧ Q (.bl (decide (0 ≤ i) && decide (i < j))) H
theorem scKind : FnScope ["value"] ["value"] (defScope sKindOf) := ⟨rfl, rfl, rfl, by decide +kernel, rfl, by decide +kernel, by decide +kernel⟩
theorem scEK : FnScope ["entry"] ["entry"] (defScope sEntryKind) := ⟨rfl, rfl, rfl, by decide +kernel, rfl, by decide +kernel, by decide +kernel⟩
theorem scIsV : FnScope ["value"] ["value"] (defScope sIsValue) := ⟨rfl, rfl, rfl, by decide +kernel, rfl, by decide +kernel, by decide +kernel⟩
theorem scMod : FnScope ["number"] ["number"] (defScope sIsMod) := ⟨rfl, rfl, rfl, by decide +kernel, rfl, by decide +kernel, by decide +kernel⟩
theorem scRem : FnScope ["number", "modulus"] ["number", "modulus"] (defScope sIsRem) := ⟨rfl, rfl, rfl, by decide +kernel, rfl, by decide +kernel, by decide +kernel⟩
theorem en_th {K : PySem.W.Frag} {H : Hp} {e : En} : Th K H (enV e) (enD e) := by
  cases e with
  | lo => exact .dp (.str _) rfl
  | hi => exact .dp (.str _) rfl
  | num i => exact .dp (.int i) rfl
  | wrd s => exact .dp (.str s) rfl
theorem en_sok {e : En} (h : enOk e = true) : sOk (enD e) = true := by
  cases e with
  | lo => decide +kernel
  | hi => decide +kernel
  | num i => rfl
  | wrd s =>
    have h : wordS s = true := h
    unfold wordS at h
    obtain ⟨h1, h2⟩ := Bool.and_eq_true_iff.mp h
    obtain ⟨h2, h3⟩ := Bool.and_eq_true_iff.mp h2
    have h2 := of_decide_eq_true h2
    show (decide (s.length ≤ 1000) && PyData.strOk s) = true
    rw [decide_eq_true (by omega), Bool.true_and]
    unfold PyData.strOk
    rw [Array.all_eq_true_iff_forall_mem]
    intro c hc
    have z := List.all_eq_true.mp h3 c (Array.mem_toList_iff.mpr hc)
    unfold lowN at z
    obtain ⟨z1, z2⟩ := Bool.and_eq_true_iff.mp z
    have z2 := of_decide_eq_true z2
    exact decide_eq_true (by omega)
theorem isIn_sg (d : PyData) : isIn d ["-", "+"] = sgD d := by
  cases d with
  | str s =>
    show List.contains (["-", "+"] : List Str) s = (decide (s = "-") || decide (s = "+"))
    rw [Bool.eq_iff_iff]
    simp [List.contains_cons]
  | _ => rfl
section
variable {P : Program} {w : World} {K : PySem.W.Frag} {mg : Str → Option Value} {base : Heap} {f fN fW fK : Addr} {fd fdN fdW fdK : FuncData}
theorem ok_kind (F : FnP K "kind_of" sKindOf f fd) (T : TxP mg) : FnOk P w K mg base CX0 1 f fd ["value"] spKind := by
  refine F.ok scKind (fun vs H Q E h => ?_) (fun cdv A outer s H vs Q E hr h => ?_)
  · obtain ⟨v, rfl, _⟩ := h
    rfl
  · obtain ⟨v, rfl, hv, k⟩ := h
    refine ⟨_, PSs.nox (pss_cons (ps_if (pt_cmpR op_isN (pv 0) pe_non (nomark _)) (pss_one (ps_ret pe_non)) pss_nil)
      (pss_one (ps_ret (pe_ifExp (pt_val (pe_callB call_isi (by rfl) T.isi (by decide +kernel) (pa_cons (pv 0) (pa_cons (pe_bltn (v := .ty "str") (by rfl) T.str (by decide +kernel) rfl) pa_nil)))) pe_str pe_str)))), ?_⟩
    refine ⟨_, rfl, rfl, _, rfl, ?_⟩
    obtain ⟨n, ty, kt⟩ := fl_ty (K := K) (H := H) hv
    cases v with
    | non =>
      refine iteT ?_
      exact k
    | int i =>
      refine iteF ?_
      refine ⟨_, rfl, _, .ty "str", .type n, _, _, rfl, .ty _, ty, kit_ty kt, _, rfl, ?_⟩
      exact iteF k
    | str x =>
      refine iteF ?_
      refine ⟨_, rfl, _, .ty "str", .type n, _, _, rfl, .ty _, ty, kit_ty kt, _, rfl, ?_⟩
      exact iteT k
    | _ => exact absurd hv Bool.false_ne_true
theorem ok_ek (F : FnP K "_entry_kind" sEntryKind f fd) (T : TxP mg) (FK : FnP K "kind_of" sKindOf fK fdK) (gK : mg "kind_of" = some (.ref fK)) : FnOk P w K mg base CX0 2 f fd ["entry"] spEK := by
  have GK : FnOk P w K mg base CX0 1 fK fdK ["value"] spKind := ok_kind FK T
  have bK : Binds K fdK ["value"] [] := FK.bindsN fun _ _ _ _ _ _ us hl => match us, hl with | [_], _ => rfl
  have kK := FK.kp
  refine F.ok scEK (fun vs H Q E h => ?_) (fun cdv A outer s H vs Q E hr h => ?_)
  · obtain ⟨v, rfl, _⟩ := h
    rfl
  · obtain ⟨e, rfl, he, k⟩ := h
    have hu := hu_of hr
    have hu64 := hu64_of hr
    obtain ⟨t1, g1⟩ := T.first
    obtain ⟨t2, g2⟩ := T.last
    refine ⟨_, PSs.nox (pss_one (ps_ret (pe_ifExp (pt_cmpR (op_inS hu) (pv 0) (pe_tup (pa_cons (pe_glob (v := .str "-") rfl g1 ⟨_, rfl⟩) (pa_cons (pe_glob (v := .str "+") rfl g2 ⟨_, rfl⟩) pa_nil))) (by rfl)) pe_non (pe_call GK hr rfl gK kK bK .nil pass0 (pa_cons (pv 0) pa_nil))))), ?_⟩
    refine ⟨_, rfl, (by show 2 ≤ sizeLine; decide), fun p hp => ?_⟩
    refine ⟨p, ["-", "+"], enD e, rfl, SqT.of upd_same, en_th, _, rfl, ?_⟩
    rw [isIn_sg, (ent_of he).2]
    have kk := k _ (same_new (o := .tup [.str "-", .str "+"]) (Same.refl H) hp)
    cases hs : isSg e with
    | true =>
      refine iteT ?_
      cases e <;> first | exact kk | exact Bool.noConfusion hs
    | false =>
      refine iteF ?_
      refine ⟨_, rfl, _, rfl, ?_, ?_⟩
      · cases e <;> first | rfl | exact Bool.noConfusion hs
      · rw [kind_en hs]
        exact kk
theorem ok_isv (F : FnP K "_is_value" sIsValue f fd) (T : TxP mg) (FN : FnP K "is_number" sIsNumber fN fdN) (gN : mg "is_number" = some (.ref fN)) (FW : FnP K "is_word" sIsWord fW fdW) (gW : mg "is_word" = some (.ref fW)) : FnOk P w K mg base CX0 2 f fd ["value"] (spIsV K) := by
  have GN : FnOk P w K mg base CX0 1 fN fdN ["value"] (spNum K) := ok_num FN T.toTxW
  have bN : Binds K fdN ["value"] [] := FN.bindsN fun _ _ _ _ _ _ us hl => match us, hl with | [_], _ => rfl
  have GW : FnOk P w K mg base CX0 1 fW fdW ["value"] (spWord K) := ok_word FW T.toTxW
  have bW : Binds K fdW ["value"] [] := FW.bindsN fun _ _ _ _ _ _ us hl => match us, hl with | [_], _ => rfl
  have kN := FN.kp
  have kW := FW.kp
  refine F.ok scIsV (fun vs H Q E h => ?_) (fun cdv A outer s H vs Q E hr h => ?_)
  · obtain ⟨v, d, rfl, _⟩ := h
    rfl
  · obtain ⟨v, d, rfl, t, so, k⟩ := h
    refine ⟨_, PSs.nox (pss_one (ps_ret (pe_or (pe_cmpR op_isN (pv 0) pe_non (nomark _)) (pe_or (pe_call GN hr rfl gN kN bN .nil pass0 (pa_cons (pv 0) pa_nil)) (pe_one (pe_call GW hr rfl gW kW bW .nil pass0 (pa_cons (pv 0) pa_nil))))))), ?_⟩
    refine ⟨_, rfl, rfl, _, rfl, ?_⟩
    cases hn : decide (v = V.non) with
    | true =>
      refine iteT ?_
      have hn := of_decide_eq_true hn
      subst hn
      have e : valD d = true := by
        cases t with
        | dp h n => cases h; rfl
      have kk := k H (Same.refl H)
      rw [e] at kk
      exact kk
    | false =>
      refine iteF ?_
      have e : valD d = (isN d || isW d) := by
        cases d <;> first | rfl | exact absurd (th_none t) (of_decide_eq_false hn)
      rw [e] at k
      refine ⟨_, rfl, v, d, rfl, t, _, rfl, ?_⟩
      cases h1 : isN d with
      | true =>
        refine iteT ?_
        have kk := k H (Same.refl H)
        rw [h1] at kk
        exact kk
      | false =>
        refine iteF ?_
        rw [h1] at k
        exact ⟨_, rfl, v, d, rfl, t, so, k⟩
theorem ok_mod (F : FnP K "is_modulus" sIsMod f fd) (T : TxP mg) : FnOk P w K mg base CX0 1 f fd ["number"] spMod := by
  refine F.ok scMod (fun vs H Q E h => ?_) (fun cdv A outer s H vs Q E hr h => ?_)
  · obtain ⟨v, rfl, _⟩ := h
    rfl
  · obtain ⟨i, rfl, hi, k⟩ := h
    obtain ⟨t1, g1⟩ := T.maxM
    refine ⟨_, PSs.nox (pss_one (ps_ret (pe_and (pe_cmpR op_notN (pv 0) pe_non (nomark _)) (pe_and (pe_cmpR op_gt (pv 0) pe_int (nomark _)) (pe_one (pe_cmpR op_eq (pe_op op_mod (pe_glob (v := .int 60) rfl g1 ⟨_, rfl⟩) (pv 0)) pe_int (nomark _))))))), ?_⟩
    refine ⟨_, rfl, rfl, true, rfl, ?_⟩
    refine iteT ?_
    refine ⟨_, rfl, _, _, rfl, rfl, _, rfl, ?_⟩
    by_cases h1 : 1 < i
    · refine itT (decide_eq_true h1) ?_
      refine ⟨_, rfl, _, _, rfl, rfl, (by show 0 < i; omega), rfl, ?_⟩
      rw [decide_eq_true h1, Bool.true_and] at k
      have e : decide (V.int (60 % i) = V.int 0) = decide (60 % i = 0) := by rw [Bool.eq_iff_iff]; simp
      rw [e]
      exact k
    · refine itF (decide_eq_false h1) ?_
      rw [decide_eq_false h1, Bool.false_and] at k
      exact k
theorem ok_rem (F : FnP K "is_remainder" sIsRem f fd) (T : TxP mg) : FnOk P w K mg base CX0 1 f fd ["number", "modulus"] spRem := by
  refine F.ok scRem (fun vs H Q E h => ?_) (fun cdv A outer s H vs Q E hr h => ?_)
  · obtain ⟨i, j, rfl, _⟩ := h
    rfl
  · obtain ⟨i, j, rfl, k⟩ := h
    refine ⟨_, PSs.nox (pss_one (ps_ret (pe_and (pe_cmpR op_notN (pv 0) pe_non (nomark _)) (pe_one (pe_chain op_le op_lt pe_int (pv 0) (pv 1)))))), ?_⟩
    refine ⟨_, rfl, rfl, true, rfl, ?_⟩
    refine iteT ?_
    refine ⟨_, rfl, _, _, rfl, rfl, _, rfl, ?_⟩
    by_cases h1 : 0 ≤ i
    · refine itT (decide_eq_true h1) ?_
      rw [decide_eq_true h1, Bool.true_and] at k
      exact ⟨_, rfl, _, _, rfl, rfl, k⟩
    · refine itF (decide_eq_false h1) ?_
      rw [decide_eq_false h1, Bool.false_and] at k
      exact k
end
end K26
set_option Elab.async false
set_option linter.all false
set_option maxRecDepth 100000
set_option maxHeartbeats 4000000
/-! _is_end -/
namespace K26
open K34 PySem PySem.Spec PyProof.Rows L2
/-- one more item of a list that is made -/
theorem push_ok {H H4 : Hp} {D : Addr} {A : Nat → List V} {i : Nat} {y : V} (hD : H D = none) (h3 : H4 D = some (.lst (A i))) (h4 : Same H H4) (hA : A (i + 1) = A i ++ [y]) (hl : (A i).length ≤ 1000) :
    ∃ acc, H4 D = some (.lst acc) ∧ acc.length < sizeLine ∧ ((upd H4 D (.lst (acc ++ [y]))) D = some (.lst (A (i + 1))) ∧ Same H (upd H4 D (.lst (acc ++ [y])))) := by
  refine ⟨_, h3, by rw [sizeLine_eq]; omega, by rw [upd_same, hA], fun b o e => ?_⟩
  rw [upd_ne (ne_of_none e hD)]
  exact h4 b o e
theorem take_map {α : Type} {l : List α} {f : α → V} {i : Nat} {x : α} (h : l[i]? = some x) : (l.take (i + 1)).map f = (l.take i).map f ++ [f x] := by
  rw [List.take_add_one, h, List.map_append]
  rfl
theorem op_inSK {X : Cx} {K : PySem.W.Frag} (h : X.K = K) (hu : X.A.in1.units < cLine) : OpR X (compareOp .In) (rInS K) := by
  subst h
  exact op_inS hu
theorem op_notInSK {X : Cx} {K : PySem.W.Frag} (h : X.K = K) (hu : X.A.in1.units < cLine) : OpR X (compareOp .NotIn) (rNotInS K) := by
  subst h
  exact op_notInS hu
theorem walk_zipT {K : PySem.W.Frag} {a b : Addr} {xs ys : List V} {n : Nat} (hn : n = min xs.length ys.length) : Walk (RZ.ItzT K a b) n (fun H => SqT K H a xs ∧ SqT K H b ys) (YPair (fun i => xs[i]?) (fun i => ys[i]?)) := by
  subst hn
  refine ⟨fun i _ hi q => ?_, fun _ q => ⟨xs, ys, q.1, q.2, by omega⟩, fun i H v H' _ q y => ?_⟩
  · have h1 : i < xs.length := by omega
    have h2 : i < ys.length := by omega
    exact ⟨xs, ys, xs[i], ys[i], q.1, q.2, by simp [h1], by simp [h2]⟩
  · obtain ⟨T, x, z, h1, h2, h3, h4, h5⟩ := y
    exact ⟨T, x, z, h1, h2, h3, h4 xs q.1, h5 ys q.2⟩
/-- the items' texts are not long -/
def sOkT (d : PyData) : Prop := sOk d = true ∧ ∀ x ∈ itemsD d, sOk x = true
def spIsEnd (K : PySem.W.Frag) : Sp := fun vs H Q _ => ∃ (v : V) (d : PyData), vs = [v] ∧ Tg K H v d ∧ sOkT d ∧ (itemsD d).length ≤ 100 ∧ ∀ H', Same H H' → Q (.bl (endD d)) H'
theorem scIsEnd : FnScope ["value", "entry", "behind"] ["value"] (defScope sIsEnd) := ⟨rfl, rfl, rfl, by decide +kernel, rfl, by decide +kernel, by decide +kernel⟩
theorem kit_tup {K : PySem.W.Frag} : PySem.W.kitOne K (.type "tuple") (.type "tuple") = some true := by
  unfold PySem.W.kitOne
  rw [if_pos (beq_self_eq_true _)]
theorem sqT_ty {K : PySem.W.Frag} {H : Hp} {a : Addr} {xs : List V} (h : SqT K H a xs) : TyX K H (.ref a) (.type "tuple") := by
  rcases h with (h | ⟨o, h⟩) | ⟨o, its, n, e, c, _⟩
  · exact .base (.tup h)
  · exact .fTuple h
  · exact .kTuple e c
theorem kit_tupD : ∀ d : PyData, kitB (tyName d) "tuple" = some (isTup d)
  | .none => (by decide +kernel : kitB "NoneType" "tuple" = some false)
  | .bool _ => (by decide +kernel : kitB "bool" "tuple" = some false)
  | .int _ => (by decide +kernel : kitB "int" "tuple" = some false)
  | .str _ => (by decide +kernel : kitB "str" "tuple" = some false)
  | .list _ => (by decide +kernel : kitB "list" "tuple" = some false)
  | .tuple _ => (by decide +kernel : kitB "tuple" "tuple" = some true)
  | .dict _ => (by decide +kernel : kitB "dict" "tuple" = some false)
/-- the entries' values -/
theorem th_en {K : PySem.W.Frag} {H : Hp} {v : V} {d : PyData} (t : Th K H v d) (h : entD d = true) : v = enV (enOf d) := by
  obtain ⟨e, _, _⟩ := enOf_D h
  generalize enOf d = z at e
  subst e
  cases z with
  | lo => exact th_str t
  | hi => exact th_str t
  | num i => exact th_int t
  | wrd s => exact th_str t
theorem eqV_en (e f : En) (he : enOk e = true) (hf : enOk f = true) : eqV (enV e) (enV f) = decide (e = f) := by
  have w1 : ∀ {s : Str}, enOk (.wrd s) = true → s ≠ "-" ∧ s ≠ "+" := fun h => wordS_sg h
  cases e <;> cases f <;> first | rfl | (exact (by decide +kernel : (("-" : Str) == "+") = false)) | (exact (by decide +kernel : (("+" : Str) == "-") = false)) | skip
  · exact beq_eq_false_iff_ne.mpr fun z => (w1 hf).1 z.symm
  · exact beq_eq_false_iff_ne.mpr fun z => (w1 hf).2 z.symm
  · show (_ == _) = _
    rw [Bool.eq_iff_iff]
    simp
  · exact beq_eq_false_iff_ne.mpr fun z => (w1 he).1 z
  · exact beq_eq_false_iff_ne.mpr fun z => (w1 he).2 z
  · show (_ == _) = _
    rw [Bool.eq_iff_iff]
    simp
theorem flat_en (e : En) : flatV (enV e) = true := by cases e <;> rfl
theorem scal_en (e f : En) : scal (enV e) (enV f) = true := by cases e <;> cases f <;> rfl
theorem deq_en (e f : En) (he : enOk e = true) (hf : enOk f = true) : decide (enV e = enV f) = decide (e = f) := by
  rw [← eqV_en e f he hf]
  cases e <;> cases f <;> first | rfl | (show _ = (_ == _); rw [Bool.eq_iff_iff]; simp [enV])
section
variable {P : Program} {w : World} {K : PySem.W.Frag} {mg : Str → Option Value} {base : Heap} {f fN fW : Addr} {fd fdN fdW : FuncData}
theorem ok_isend (F : FnP K "_is_end" sIsEnd f fd) (T : TxP mg) (FN : FnP K "is_number" sIsNumber fN fdN) (gN : mg "is_number" = some (.ref fN)) (FW : FnP K "is_word" sIsWord fW fdW) (gW : mg "is_word" = some (.ref fW)) : FnOk P w K mg base CX0 2 f fd ["value"] (spIsEnd K) := by
  have GN : FnOk P w K mg base CX0 1 fN fdN ["value"] (spNum K) := ok_num FN T.toTxW
  have bN : Binds K fdN ["value"] [] := FN.bindsN fun _ _ _ _ _ _ us hl => match us, hl with | [_], _ => rfl
  have GW : FnOk P w K mg base CX0 1 fW fdW ["value"] (spWord K) := ok_word FW T.toTxW
  have bW : Binds K fdW ["value"] [] := FW.bindsN fun _ _ _ _ _ _ us hl => match us, hl with | [_], _ => rfl
  have kN := FN.kp
  have kW := FW.kp
  refine F.ok scIsEnd (fun vs H Q E h => ?_) (fun cdv A outer s H vs Q E hr h => ?_)
  · obtain ⟨v, d, rfl, _⟩ := h
    rfl
  · obtain ⟨v, d, rfl, tg, so, l100, k⟩ := h
    have nd := scIsEnd.nd
    have hu := hu_of hr
    obtain ⟨t1, g1⟩ := T.first
    obtain ⟨t2, g2⟩ := T.last
    obtain ⟨t3, g3⟩ := T.maxR
    refine ⟨_, PSs.nox (pss_cons (ps_if (PW.pt (pw_or (pt_not (pt_val (pe_callB call_isi (by rfl) T.isi (by decide +kernel) (pa_cons (pv 0) (pa_cons (pe_bltn (v := .ty "tuple") (by rfl) T.tuple (by decide +kernel) rfl) pa_nil))))) (pw_or1 (pt_not (pt_chain op_le op_le pe_int (pe_callB call_len_seq (by rfl) T.len PySem.boot_len (pa_cons (pv 0) pa_nil)) (pe_glob (v := .int 2) rfl g3 ⟨_, rfl⟩)))))) (pss_one (ps_ret pe_bl)) pss_nil)
      (pss_cons (ps_if (pt_not (pt_val (pe_callB (cr_all rfl) (by rfl) T.all (by decide +kernel) (pa_cons (pe_lc (own := [("entry", 1)]) (g := gName 1) (tt := tYes) rfl nd (pi_tup (pv 0)) (blkOk_by (N := ["value", "entry", "behind"]) (sc := defScope sIsEnd) (by decide +kernel)) (fun _ _ _ _ _ => pg_name (i := 1) nd rfl (Or.inl rfl)) (fun _ _ _ _ _ => pts_nil)
          (fun _ _ _ _ _ => pe_or (pe_cmpR (op_inSK (K := K) rfl hu) (pv 1) (pe_tup (pa_cons (pe_glob (v := .str "-") rfl g1 ⟨_, rfl⟩) (pa_cons (pe_glob (v := .str "+") rfl g2 ⟨_, rfl⟩) pa_nil))) (by rfl)) (pe_or (pe_call GN hr rfl gN kN bN .nil pass0 (pa_cons (pv 1) pa_nil)) (pe_one (pe_call GW hr rfl gW kW bW .nil pass0 (pa_cons (pv 1) pa_nil)))))) pa_nil)))) (pss_one (ps_ret pe_bl)) pss_nil)
      (pss_one (ps_ret (pe_callB (cr_all rfl) (by rfl) T.all (by decide +kernel) (pa_cons (pe_lc (own := [("entry", 1), ("behind", 2)]) (g := gTup K 2 (gCons (gName 1) (gCons (gName 2) gNil))) (tt := tYes) rfl nd (RZ.pi_zipA (by rfl) T.zip (pa_cons (pv 0) (pa_cons (pe_slice sl_tupA (pv 0) (po_some pe_int) po_none) pa_nil))) (blkOk_by (N := ["value", "entry", "behind"]) (sc := defScope sIsEnd) (by decide +kernel))
          (fun _ _ _ _ _ => pg_tup rfl (pgs_cons (pg_name (i := 1) nd rfl (Or.inl rfl)) (pgs_cons (pg_name (i := 2) nd rfl (Or.inl rfl)) pgs_nil))) (fun _ _ _ _ _ => pts_nil)
          (fun _ _ _ _ _ => pe_or (pe_cmpR (op_notInSK (K := K) rfl hu) (pv 1) (pe_tup (pa_cons (pe_glob (v := .str "-") rfl g1 ⟨_, rfl⟩) (pa_cons (pe_glob (v := .str "+") rfl g2 ⟨_, rfl⟩) pa_nil))) (by rfl)) (pe_one (pe_cmpR op_eq (pv 1) (pv 2) (nomark _))))) pa_nil)))))), ?_⟩
    have no : endD d = false → Q (.bl false) H := fun e => by
      have kk := k H (Same.refl H)
      rw [e] at kk
      exact kk
    cases tg with
    | oth t hn =>
      refine ⟨_, rfl, v, .ty "tuple", _, _, false, rfl, .ty _, th_ty t, kit_ty (by rw [kit_tupD, hn]), _, rfl, ?_⟩
      refine iteT ?_
      refine iteT ?_
      exact no (by cases d <;> first | rfl | exact Bool.noConfusion hn)
    | @tup a xs ds hs lx th =>
      refine ⟨_, rfl, _, .ty "tuple", _, _, true, rfl, .ty _, sqT_ty hs, kit_tup, _, rfl, ?_⟩
      refine iteF ?_
      have l100 : ds.length ≤ 100 := l100
      refine ⟨_, rfl, a, xs, rfl, .inr hs, _, _, rfl, rfl, _, rfl, ?_⟩
      by_cases h1 : 1 ≤ ds.length
      · refine itT (decide_eq_true (show (1 : Int) ≤ (xs.length : Int) by omega)) ?_
        refine ⟨_, _, rfl, rfl, _, rfl, ?_⟩
        by_cases h2 : ds.length ≤ 2
        · refine itF (by rw [decide_eq_true (show (xs.length : Int) ≤ 2 by omega)]; rfl) ?_
          -- the entries
          refine ⟨_, rfl, a, rfl, ⟨xs, hs⟩, fun D hD => ?_⟩
          have hD : H D = none := hD
          refine lc_it (walk_tup (K := K) (a := a) (xs := xs)) (fun i H6 => H6 D = some (.lst (((ds.take i).map entD).map V.bl)) ∧ Same H H6) ⟨upd_same, same_new (Same.refl H) hD⟩ (fun i H3 _ y => sqT_same hs y.2) ?_ ?_
          · rintro i x H6 H7 hi ⟨y1, y2⟩ ⟨rfl, hx⟩
            have hi : i < xs.length := hi
            have ld : i < ds.length := by omega
            have hd : ds[i]? = some ds[i] := List.getElem?_eq_getElem ld
            have t := (th i x _ hx hd).same y2
            have sk := so.2 ds[i] (List.getElem_mem ld)
            refine ⟨rfl, ?_⟩
            unfold tYes
            dsimp only
            refine iteT ?_
            have more : ∀ {H8 : Hp}, Same H7 H8 → ∃ acc, H8 D = some (.lst acc) ∧ acc.length < sizeLine ∧ ((upd H8 D (.lst (acc ++ [V.bl (entD ds[i])]))) D = some (.lst (((ds.take (i + 1)).map entD).map V.bl)) ∧ Same H (upd H8 D (.lst (acc ++ [V.bl (entD ds[i])])))) := fun {H8} s8 => by
              have z := push_ok (A := fun i => ((ds.take i).map entD).map V.bl) (i := i) (y := V.bl (entD ds[i])) hD (s8 _ _ y1) (y2.trans s8) (by rw [List.map_map, List.map_map]; exact take_map (f := V.bl ∘ entD) hd) (by simp only [List.length_map, List.length_take]; omega)
              exact z
            refine ⟨_, rfl, (by show 2 ≤ sizeLine; decide), fun p hp => ?_⟩
            have s7 := same_new (o := .tup [.str "-", .str "+"]) (Same.refl H7) hp
            refine ⟨p, ["-", "+"], ds[i], rfl, SqT.of upd_same, t.same s7, _, rfl, ?_⟩
            rw [isIn_sg]
            cases e1 : sgD ds[i] with
            | true =>
              refine iteT ?_
              have e : entD ds[i] = true := by unfold entD; rw [e1]; rfl
              have z := more s7
              rw [e] at z
              exact z
            | false =>
              refine iteF ?_
              refine ⟨_, rfl, x, ds[i], rfl, t.same s7, _, rfl, ?_⟩
              cases e2 : isN ds[i] with
              | true =>
                refine iteT ?_
                have e : entD ds[i] = true := by unfold entD; rw [e1, e2]; rfl
                have z := more s7
                rw [e] at z
                exact z
              | false =>
                refine iteF ?_
                have e : entD ds[i] = isW ds[i] := by unfold entD; rw [e1, e2]; rfl
                refine ⟨_, rfl, x, ds[i], rfl, t.same s7, sk, fun H8 s8 => ?_⟩
                have z := more (s7.trans s8)
                rw [e] at z
                exact z
          · rintro H6 ⟨y1, y2⟩
            rw [lx, List.take_length] at y1
            refine ⟨D, ds.map entD, rfl, SqL.of y1, _, rfl, ?_⟩
            rw [List.all_map]
            have eE : endD (.tuple ds) = (ds.all entD && endOk (ds.map enOf)) := by
              show ((decide _ && decide _) && _) = _
              rw [decide_eq_true h1, decide_eq_true h2]
              rfl
            have eall : (ds.all (id ∘ entD)) = ds.all entD := rfl
            cases ha : ds.all entD with
            | false =>
              refine itT (by show (!(ds.all (id ∘ entD))) = true; rw [eall, ha]; rfl) ?_
              have kk := k H6 y2
              rw [eE, ha] at kk
              exact kk
            | true =>
              refine itF (by show (!(ds.all (id ∘ entD))) = false; rw [eall, ha]; rfl) ?_
              have hs6 := sqT_same hs y2
              have al := List.all_eq_true.mp ha
              have xv : ∀ (i : Nat) (hi : i < ds.length), xs[i]? = some (enV (enOf ds[i])) := fun i hi => by
                have hx : xs[i]? = some xs[i] := List.getElem?_eq_getElem (by omega)
                rw [hx, th_en (th i _ _ hx (List.getElem?_eq_getElem hi)) (al _ (List.getElem_mem hi))]
              refine ⟨_, rfl, _, rfl, _, rfl, a, xs, rfl, hs6, (fun z => ?_), fun _ q hq => ?_⟩
              · exfalso
                have z2 := z.1
                have e0 : HT.sIx xs.length 0 (some 1) = 1 := by
                  unfold HT.sIx
                  simp
                  omega
                omega
              · have c1 : cutV xs (some 1) none = xs.drop 1 := by
                  unfold cutV
                  have e0 : HT.sIx xs.length 0 (some 1) = 1 := by
                    unfold HT.sIx
                    simp
                    omega
                  have e1 : HT.sIx xs.length xs.length none = xs.length := by
                    unfold HT.sIx
                    rfl
                  rw [e0, e1, List.take_of_length_le (Nat.le_of_eq (List.length_drop ..))]
                have sq := same_new (o := .tup (cutV xs (some 1) none)) (Same.refl H6) hq
                have hq2 : SqT K (upd H6 q (.tup (cutV xs (some 1) none))) q (xs.drop 1) := by
                  rw [← c1]
                  exact SqT.of upd_same
                generalize upd H6 q (.tup (cutV xs (some 1) none)) = Hq at sq hq2 ⊢
                refine ⟨a, q, xs, xs.drop 1, rfl, .inr ⟨sqT_same hs6 sq, hq2, fun D2 hD2 => ?_⟩⟩
                have hD2 : Hq D2 = none := hD2
                have sH := y2.trans sq
                have hn : ds.length - 1 = min xs.length (xs.drop 1).length := by rw [List.length_drop]; omega
                -- one turn at most
                refine lc_it (walk_zipT (K := K) (a := a) (b := q) hn) (fun i H6 => H6 D2 = some (.lst (((List.range i).map fun j => !isSg (enOf (ds.getD j .none)) || decide (enOf (ds.getD j .none) = enOf (ds.getD (j + 1) .none))).map V.bl)) ∧ Same Hq H6) ⟨upd_same, same_new (Same.refl Hq) hD2⟩ (fun i H3 _ y => ⟨sqT_same (sqT_same hs6 sq) y.2, sqT_same hq2 y.2⟩) ?_ ?_
                · rintro i z H8 H9 hi ⟨y3, y4⟩ ⟨t, x1, x2, rfl, nt, rfl, e1, e2⟩
                  have hi : i < ds.length - 1 := hi
                  have e1 : xs[i]? = some x1 := e1
                  have e2 : (xs.drop 1)[i]? = some x2 := e2
                  have i1 : i < ds.length := by omega
                  have i2 : i + 1 < ds.length := by omega
                  rw [xv i i1] at e1
                  rw [List.getElem?_drop, Nat.add_comm, xv (i + 1) i2] at e2
                  cases e1
                  cases e2
                  have d1 : ds.getD i .none = ds[i] := by rw [List.getD_eq_getElem?_getD, List.getElem?_eq_getElem i1]; rfl
                  have d2 : ds.getD (i + 1) .none = ds[i + 1] := by rw [List.getD_eq_getElem?_getD, List.getElem?_eq_getElem i2]; rfl
                  obtain ⟨_, ok1, sg1⟩ := enOf_D (al _ (List.getElem_mem i1))
                  obtain ⟨_, ok2, _⟩ := enOf_D (al _ (List.getElem_mem i2))
                  have s9 := same_new (o := .tup [enV (enOf ds[i]), enV (enOf ds[i + 1])]) (Same.refl H8) nt
                  generalize hH9 : upd H8 t (.tup [enV (enOf ds[i]), enV (enOf ds[i + 1])]) = H9 at s9 ⊢
                  have t9 : SqT K H9 t [enV (enOf ds[i]), enV (enOf ds[i + 1])] := by rw [← hH9]; exact SqT.of upd_same
                  refine ⟨t, _, rfl, t9, rfl, _, _, rfl, _, _, rfl, rfl, rfl, ?_⟩
                  unfold tYes
                  dsimp only
                  refine iteT ?_
                  have more : ∀ {H8' : Hp} (b : Bool), Same H9 H8' → b = (!isSg (enOf (ds.getD i .none)) || decide (enOf (ds.getD i .none) = enOf (ds.getD (i + 1) .none))) → ∃ acc, H8' D2 = some (.lst acc) ∧ acc.length < sizeLine ∧ ((upd H8' D2 (.lst (acc ++ [V.bl b]))) D2 = some (.lst (((List.range (i + 1)).map fun j => !isSg (enOf (ds.getD j .none)) || decide (enOf (ds.getD j .none) = enOf (ds.getD (j + 1) .none))).map V.bl)) ∧ Same Hq (upd H8' D2 (.lst (acc ++ [V.bl b])))) := fun {H8'} b s8 hb => by
                    have z := push_ok (A := fun i => ((List.range i).map fun j => !isSg (enOf (ds.getD j .none)) || decide (enOf (ds.getD j .none) = enOf (ds.getD (j + 1) .none))).map V.bl) (i := i) (y := V.bl b) hD2 (s8 _ _ (s9 _ _ y3)) ((y4.trans s9).trans s8) (by rw [hb, List.range_succ, List.map_append, List.map_append]; rfl) (by simp only [List.length_map, List.length_range]; omega)
                    exact z
                  refine ⟨_, rfl, (by show 2 ≤ sizeLine; decide), fun p hp => ?_⟩
                  have s10 := same_new (o := .tup [.str "-", .str "+"]) (Same.refl H9) hp
                  refine ⟨p, ["-", "+"], ds[i], rfl, SqT.of upd_same, ?_, _, rfl, ?_⟩
                  · obtain ⟨e, _, _⟩ := enOf_D (al _ (List.getElem_mem i1))
                    have z := en_th (K := K) (H := upd H9 p (.tup [.str "-", .str "+"])) (e := enOf ds[i])
                    rw [e] at z
                    exact z
                  · rw [isIn_sg, ← sg1]
                    cases hsg : isSg (enOf ds[i]) with
                    | false =>
                      refine iteT ?_
                      exact more true s10 (by rw [d1, hsg]; rfl)
                    | true =>
                      refine iteF ?_
                      refine ⟨_, rfl, _, rfl, scal_en _ _, ?_⟩
                      rw [deq_en _ _ ok1 ok2]
                      exact more _ s10 (by rw [d1, d2, hsg]; rfl)
                · rintro H8 ⟨y3, y4⟩
                  refine ⟨D2, _, rfl, SqL.of y3, ?_⟩
                  have kk := k H8 (sH.trans y4)
                  rw [eE, ha, Bool.true_and] at kk
                  have fin : (((List.range (ds.length - 1)).map fun j => !isSg (enOf (ds.getD j .none)) || decide (enOf (ds.getD j .none) = enOf (ds.getD (j + 1) .none))).all id) = endOk (ds.map enOf) := by
                    match ds, h1, h2 with
                    | [x], _, _ => rfl
                    | [x, y], _, _ =>
                      show ((!isSg (enOf x) || decide (enOf x = enOf y)) && true) = (!isSg (enOf x) || decide (enOf y = enOf x))
                      rw [Bool.and_true]
                      congr 1
                      rw [Bool.eq_iff_iff]
                      simp [eq_comm]
                    | _ :: _ :: _ :: r, _, h2 => exact absurd h2 (by simp only [List.length_cons]; omega)
                  rw [← fin] at kk
                  exact kk
        · refine itT (by rw [decide_eq_false (show ¬ (xs.length : Int) ≤ 2 by omega)]; rfl) ?_
          exact no (by show ((decide _ && decide _) && _) = false; rw [decide_eq_false h2, Bool.and_false, Bool.false_and])
      · refine itF (decide_eq_false (show ¬ (1 : Int) ≤ (xs.length : Int) by omega)) ?_
        refine ⟨false, rfl, ?_⟩
        dsimp only
        refine iteT ?_
        exact no (by show ((decide _ && decide _) && _) = false; rw [decide_eq_false h1, Bool.false_and, Bool.false_and])
end
end K26
set_option Elab.async false
set_option linter.all false
set_option maxRecDepth 100000
set_option maxHeartbeats 4000000
/-! _agree_in_kinds, _places, _are_ends -/
namespace K26
open K34 PySem PySem.Spec PyProof.Rows L2
theorem op_inK {X : Cx} {K : PySem.W.Frag} (h : X.K = K) : OpR X (compareOp .In) (rIn K false) := by
  subst h
  exact op_in_seq
theorem ix_tupK {X : Cx} {K : PySem.W.Frag} (h : X.K = K) : IxR X (rIxT K) := by
  subst h
  exact ix_tup
theorem op_eqSK {X : Cx} {K : PySem.W.Frag} (h : X.K = K) (hu : X.A.units < cLine) : OpR X (compareOp .Eq) (rEqS K) := by
  subst h
  exact op_eqS hu
def spAgr (K : PySem.W.Frag) : Sp := fun vs H Q _ => ∃ (a b : Addr) (es fs : List En), vs = [.ref a, .ref b] ∧ SqT K H a (es.map enV) ∧ SqT K H b (fs.map enV) ∧ es.all enOk = true ∧ fs.all enOk = true ∧ es.length ≤ 100 ∧ ∀ H', Same H H' → Q (.bl (agr es fs)) H'
def spPlaces (K : PySem.W.Frag) : Sp := fun vs H Q _ => ∃ (a : Addr) (es : List En), vs = [.ref a] ∧ SqT K H a (es.map enV) ∧ es.all enOk = true ∧ es.length ≤ 100 ∧ ∀ (p : Addr) (as : List Addr) (H' : Hp), Same H H' → H' p = some (.lst (as.map V.ref)) → PrAt K H' as es → Q (.ref p) H'
def spAreEnds (K : PySem.W.Frag) : Sp := fun vs H Q _ => ∃ (v1 v2 : V) (d1 d2 : PyData), vs = [v1, v2] ∧ Tg K H v1 d1 ∧ Tg K H v2 d2 ∧ sOkT d1 ∧ sOkT d2 ∧ (itemsD d1).length ≤ 100 ∧ (itemsD d2).length ≤ 100 ∧ ∀ H', Same H H' → Q (.bl (rngD d1 d2)) H'
theorem scAgr : FnScope ["one", "other", "kinds", "entry", "match", "pair"] ["one", "other"] (defScope sAgree) := ⟨rfl, rfl, rfl, by decide +kernel, rfl, by decide +kernel, by decide +kernel⟩
theorem scPlaces : FnScope ["entries", "places", "entry"] ["entries"] (defScope sPlaces) := ⟨rfl, rfl, rfl, by decide +kernel, rfl, by decide +kernel, by decide +kernel⟩
theorem scAreEnds : FnScope ["low", "high"] ["low", "high"] (defScope sAreEnds) := ⟨rfl, rfl, rfl, by decide +kernel, rfl, by decide +kernel, by decide +kernel⟩
theorem ek_flat (e : En) : flatV (ekV e) = true := by cases e <;> rfl
theorem none_in (e f : En) : inV .non [ekV e, ekV f] = ((enK e).isNone || (enK f).isNone) := by cases e <;> cases f <;> rfl
theorem agr1_eq (e f : En) (h : inV .non [ekV e, ekV f] = false) : scal (ekV e) (ekV f) = true ∧ decide (ekV e = ekV f) = agr1 (e, f) := by
  rw [none_in] at h
  cases e <;> cases f <;> first | exact Bool.noConfusion h | exact ⟨rfl, (by decide +kernel : decide (V.str "number" = V.str "word") = false)⟩ | exact ⟨rfl, (by decide +kernel : decide (V.str "word" = V.str "number") = false)⟩ | exact ⟨rfl, (by decide +kernel : decide (V.str "word" = V.str "word") = true)⟩ | exact ⟨rfl, (by decide +kernel : decide (V.str "number" = V.str "number") = true)⟩
theorem agr1_in (e f : En) (h : inV .non [ekV e, ekV f] = true) : agr1 (e, f) = true := by
  rw [none_in] at h
  cases e <;> cases f <;> first | rfl | exact Bool.noConfusion h
/-- the pairs of kinds -/
structure KdAt (K : PySem.W.Frag) (H : Hp) (as : List Addr) (ps : List (En × En)) : Prop where
  l : as.length = ps.length
  t : ∀ (i : Nat) (a : Addr) (p : En × En), as[i]? = some a → ps[i]? = some p → SqT K H a [ekV p.1, ekV p.2]
theorem KdAt.same {K : PySem.W.Frag} {H H' : Hp} {as : List Addr} {ps : List (En × En)} (p : KdAt K H as ps) (s : Same H H') : KdAt K H' as ps := ⟨p.l, fun i a e h1 h2 => sqT_same (p.t i a e h1 h2) s⟩
theorem KdAt.snoc {K : PySem.W.Frag} {H : Hp} {as : List Addr} {ps : List (En × En)} (p : KdAt K H as ps) {a : Addr} {q : En × En} (h : SqT K H a [ekV q.1, ekV q.2]) : KdAt K H (as ++ [a]) (ps ++ [q]) := by
  refine ⟨by rw [List.length_append, List.length_append, p.l]; rfl, fun i b r h1 h2 => ?_⟩
  by_cases hi : i < as.length
  · rw [List.getElem?_append_left hi] at h1
    rw [List.getElem?_append_left (by have := p.l; omega)] at h2
    exact p.t i b r h1 h2
  · have hp := p.l
    rw [List.getElem?_append_right (by omega)] at h1 h2
    rw [← hp] at h2
    cases hk : i - as.length with
    | zero =>
      rw [hk] at h1 h2
      cases h1
      cases h2
      exact h
    | succ n =>
      rw [hk] at h1
      exact absurd h1 (by simp)
theorem PrAt.snoc {K : PySem.W.Frag} {H : Hp} {as : List Addr} {ps : List En} (p : PrAt K H as ps) {a : Addr} {q : En} (h : SqT K H a (prV q)) : PrAt K H (as ++ [a]) (ps ++ [q]) := by
  refine ⟨by rw [List.length_append, List.length_append, p.l]; rfl, fun i b r h1 h2 => ?_⟩
  by_cases hi : i < as.length
  · rw [List.getElem?_append_left hi] at h1
    rw [List.getElem?_append_left (by have := p.l; omega)] at h2
    exact p.t i b r h1 h2
  · have hp := p.l
    rw [List.getElem?_append_right (by omega)] at h1 h2
    rw [← hp] at h2
    cases hk : i - as.length with
    | zero =>
      rw [hk] at h1 h2
      cases h1
      cases h2
      exact h
    | succ n =>
      rw [hk] at h1
      exact absurd h1 (by simp)
theorem en_not {e : En} (h : enOk e = true) : decide (enV e = V.str "-") = decide (e = .lo) ∧ decide (enV e = V.str "+") = decide (e = .hi) := ⟨deq_en e .lo h rfl, deq_en e .hi h rfl⟩
/-- an end's values are its entries' -/
theorem end_en {K : PySem.W.Frag} {H : Hp} {v : V} {d : PyData} (t : Tg K H v d) (h : endD d = true) : ∃ a, v = .ref a ∧ SqT K H a ((entsD d).map enV) ∧ (entsD d).all enOk = true ∧ 1 ≤ (entsD d).length ∧ (entsD d).length ≤ 2 ∧ (itemsD d).length = (entsD d).length ∧ (itemsD d) = (entsD d).map enD := by
  cases t with
  | oth t n => cases d <;> first | exact Bool.noConfusion h | exact Bool.noConfusion n
  | @tup a xs ds hs lx th =>
    obtain ⟨h1, h2⟩ := Bool.and_eq_true_iff.mp h
    obtain ⟨h1, h3⟩ := Bool.and_eq_true_iff.mp h1
    obtain ⟨h2, h4⟩ := Bool.and_eq_true_iff.mp h2
    have al := List.all_eq_true.mp h2
    have h1 := of_decide_eq_true h1
    have h3 := of_decide_eq_true h3
    have l : (entsD (.tuple ds)).length = ds.length := List.length_map ..
    have ex : xs = (entsD (.tuple ds)).map enV := by
      refine List.ext_getElem (by rw [List.length_map, l, lx]) fun i k1 k2 => ?_
      have ld : i < ds.length := by omega
      have z := th_en (th i _ _ (List.getElem?_eq_getElem k1) (List.getElem?_eq_getElem ld)) (al _ (List.getElem_mem ld))
      rw [z, List.getElem_map]
      congr 1
      exact (List.getElem_map ..).symm
    refine ⟨a, rfl, by rw [← ex]; exact hs, List.all_eq_true.mpr fun e he => ?_, by omega, by omega, l.symm, ?_⟩
    · obtain ⟨d, hd, rfl⟩ := List.mem_map.mp he
      exact (enOf_D (al d hd)).2.1
    · show ds = _
      refine List.ext_getElem (by rw [List.length_map, l]) fun i k1 k2 => ?_
      have e : ((entsD (.tuple ds)).map enD)[i] = enD (enOf ds[i]) := by
        rw [List.getElem_map]
        congr 1
        exact List.getElem_map ..
      rw [e, (enOf_D (al _ (List.getElem_mem k1))).1]
section
variable {P : Program} {w : World} {K : PySem.W.Frag} {mg : Str → Option Value} {base : Heap} {f fE fI fA fL : Addr} {fd fdE fdI fdA fdL : FuncData}
theorem ok_agr (F : FnP K "_agree_in_kinds" sAgree f fd) (T : TxP mg) (GE : FnOk P w K mg base CX0 2 fE fdE ["entry"] spEK) (gE : mg "_entry_kind" = some (.ref fE)) (kE : PySem.W.keepIn K (.ref fE) = true) (bE : Binds K fdE ["entry"] []) : FnOk P w K mg base CX0 3 f fd ["one", "other"] (spAgr K) := by
  refine F.ok scAgr (fun vs H Q E h => ?_) (fun cdv A outer s H vs Q E hr h => ?_)
  · obtain ⟨a, b, es, fs, rfl, _⟩ := h
    rfl
  · obtain ⟨a, b, es, fs, rfl, ha, hb, oke, okf, l100, k⟩ := h
    have nd := scAgr.nd
    refine ⟨_, PSs.nox (pss_cons (ps_setLc (i := 2) (own := [("entry", 3), ("match", 4)]) (g := gTup K 2 (gCons (gName 3) (gCons (gName 4) gNil))) (tt := tYes) rfl nd rfl rfl (sw_true rfl rfl rfl (by decide +kernel)) (RZ.pi_zipA (by rfl) T.zip (pa_cons (pv 0) (pa_cons (pv 1) pa_nil))) (blkOk_by (N := ["one", "other", "kinds", "entry", "match", "pair"]) (sc := defScope sAgree) (by decide +kernel))
          (fun _ _ _ _ _ => pg_tup rfl (pgs_cons (pg_name (i := 3) nd rfl (Or.inl rfl)) (pgs_cons (pg_name (i := 4) nd rfl (Or.inl rfl)) pgs_nil))) (fun _ _ _ _ _ => pts_nil)
          (fun _ _ _ _ _ => pe_tup (pa_cons (pe_call GE hr rfl gE kE bE .nil pass0 (pa_cons (pv 3) pa_nil)) (pa_cons (pe_call GE hr rfl gE kE bE .nil pass0 (pa_cons (pv 4) pa_nil)) pa_nil))))
      (pss_one (ps_ret (pe_callB (cr_all rfl) (by rfl) T.all (by decide +kernel) (pa_cons (pe_lc (own := [("pair", 5)]) (g := gName 5) (tt := tYes) rfl nd (pi_list (pv 2)) (blkOk_by (N := ["one", "other", "kinds", "entry", "match", "pair"]) (sc := defScope sAgree) (by decide +kernel)) (fun _ _ _ _ _ => pg_name (i := 5) nd rfl (Or.inl rfl)) (fun _ _ _ _ _ => pts_nil)
          (fun _ _ _ _ _ => pe_or (pe_cmpR (op_inK (K := K) rfl) pe_non (pv 5) (by rfl)) (pe_one (pe_cmpR op_eq (pe_ix (ix_tupK (K := K) rfl) (pv 5) pe_int (fun _ _ => rfl)) (pe_ix (ix_tupK (K := K) rfl) (pv 5) pe_int (fun _ _ => rfl)) (nomark _))))) pa_nil))))), ?_⟩
    have oe := List.all_eq_true.mp oke
    have of_ := List.all_eq_true.mp okf
    generalize hps : es.zip fs = ps
    have lps : ps.length ≤ 100 := by rw [← hps, List.length_zip]; omega
    refine ⟨_, rfl, _, rfl, a, b, es.map enV, fs.map enV, rfl, .inr ⟨ha, hb, fun D hD => ?_⟩⟩
    have hD : H D = none := hD
    have hn : ps.length = min (es.map enV).length (fs.map enV).length := by rw [← hps, List.length_zip, List.length_map, List.length_map]
    refine lc_it (walk_zipT (K := K) (a := a) (b := b) hn) (fun i H6 => ∃ ts : List Addr, H6 D = some (.lst (ts.map V.ref)) ∧ KdAt K H6 ts (ps.take i) ∧ Same H H6) ⟨[], upd_same, ⟨rfl, fun i a p h => by simp at h⟩, same_new (Same.refl H) hD⟩ (fun i H3 _ y => by obtain ⟨_, _, _, y⟩ := y; exact ⟨sqT_same ha y, sqT_same hb y⟩) ?_ ?_
    · rintro i z H6 H7 hi ⟨ts, y1, y2, y3⟩ ⟨t, x1, x2, rfl, nt, rfl, e1, e2⟩
      have e1 : (es.map enV)[i]? = some x1 := e1
      have e2 : (fs.map enV)[i]? = some x2 := e2
      rw [List.getElem?_map] at e1 e2
      obtain ⟨c1, hc1, rfl⟩ := Option.map_eq_some_iff.mp e1
      obtain ⟨c2, hc2, rfl⟩ := Option.map_eq_some_iff.mp e2
      have hpi : ps[i]? = some (c1, c2) := by
        rw [← hps, List.getElem?_zip_eq_some]
        exact ⟨hc1, hc2⟩
      have s7 := same_new (o := .tup [enV c1, enV c2]) (Same.refl H6) nt
      generalize hH7 : upd H6 t (.tup [enV c1, enV c2]) = H7 at s7 ⊢
      have t7 : SqT K H7 t [enV c1, enV c2] := by rw [← hH7]; exact SqT.of upd_same
      refine ⟨t, _, rfl, t7, rfl, _, _, rfl, _, _, rfl, rfl, rfl, ?_⟩
      unfold tYes
      dsimp only
      refine iteT ?_
      refine ⟨_, rfl, c1, rfl, oe _ (List.mem_of_getElem? hc1), fun H8 s8 => ?_⟩
      refine ⟨_, rfl, c2, rfl, of_ _ (List.mem_of_getElem? hc2), fun H9 s9 => ?_⟩
      refine ⟨(by show 2 ≤ sizeLine; decide), fun p hp => ?_⟩
      have s6 := (s7.trans s8).trans s9
      have s10 := same_new (o := .tup [ekV c1, ekV c2]) (Same.refl H9) hp
      have t10 : SqT K (upd H9 p (.tup [ekV c1, ekV c2])) p [ekV c1, ekV c2] := SqT.of upd_same
      generalize upd H9 p (.tup [ekV c1, ekV c2]) = H10 at s10 t10 ⊢
      have s11 := s6.trans s10
      have lts : ts.length ≤ 100 := by
        have := y2.l
        rw [List.length_take] at this
        omega
      have hsn : Same H (upd H10 D (.lst (ts.map V.ref ++ [V.ref p]))) := fun b o e => by
        rw [upd_ne (ne_of_none e hD)]
        exact s11 _ _ (y3 _ _ e)
      have kd := (y2.same s11).snoc (q := (c1, c2)) t10
      refine ⟨_, s11 _ _ y1, by rw [List.length_map, sizeLine_eq]; omega, ts ++ [p], by rw [upd_same, List.map_append]; rfl, ?_, hsn⟩
      rw [List.take_add_one, hpi]
      refine ⟨kd.l, fun j b r h1 h2 => ?_⟩
      have z := kd.t j b r h1 h2
      have nD : H10 b ≠ none ∨ True := .inr trivial
      rcases z with (z | ⟨o, z⟩) | z
      · exact .inl (.inl (by rw [upd_ne (ne_of z (s11 _ _ y1) (by intro q; cases q))]; exact z))
      · exact .inl (.inr ⟨o, by rw [upd_ne (ne_of z (s11 _ _ y1) (by intro q; cases q))]; exact z⟩)
      · exact .inr z
    · rintro H6 ⟨ts, y1, y2, y3⟩
      rw [List.take_length] at y2
      refine ⟨_, rfl, D, rfl, ⟨ts.map V.ref, SqL.of y1⟩, fun D2 hD2 => ?_⟩
      have hD2 : H6 D2 = none := hD2
      have lts : ts.length ≤ 100 := by have := y2.l; omega
      refine lc_it (walk_list (K := K) (a := D) (xs := ts.map V.ref)) (fun i H7 => H7 D2 = some (.lst (((ps.take i).map agr1).map V.bl)) ∧ Same H6 H7) ⟨upd_same, same_new (Same.refl H6) hD2⟩ (fun i H3 _ y => SqL.of (y.2 _ _ y1)) ?_ ?_
      · rintro i x H7 H8 hi ⟨y4, y5⟩ ⟨rfl, hx⟩
        have hi : i < (ts.map V.ref).length := hi
        rw [List.length_map] at hi
        have lp : i < ps.length := by have := y2.l; omega
        have hx : (ts.map V.ref)[i]? = some x := hx
        rw [List.getElem?_map, List.getElem?_eq_getElem hi] at hx
        cases hx
        have tt := sqT_same (y2.t i _ _ (List.getElem?_eq_getElem hi) (List.getElem?_eq_getElem lp)) y5
        refine ⟨rfl, ?_⟩
        unfold tYes
        dsimp only
        refine iteT ?_
        have more := push_ok (A := fun i => ((ps.take i).map agr1).map V.bl) (i := i) (y := V.bl (agr1 ps[i])) hD2 y4 y5 (by rw [List.map_map, List.map_map]; exact take_map (f := V.bl ∘ agr1) (List.getElem?_eq_getElem lp)) (by simp only [List.length_map, List.length_take]; omega)
        refine ⟨_, rfl, ts[i], [ekV ps[i].1, ekV ps[i].2], rfl, .inr tt, rfl, ?_, _, rfl, ?_⟩
        · show (flatV _ && (flatV _ && true)) = true
          rw [ek_flat, ek_flat]
          rfl
        show if inV V.non [ekV ps[i].1, ekV ps[i].2] = true then _ else _
        cases hin : inV V.non [ekV ps[i].1, ekV ps[i].2] with
        | true =>
          refine iteT ?_
          have e := agr1_in ps[i].1 ps[i].2 hin
          rw [show agr1 ps[i] = true from e] at more
          exact more
        | false =>
          refine iteF ?_
          obtain ⟨sc, e⟩ := agr1_eq ps[i].1 ps[i].2 hin
          refine ⟨_, rfl, ts[i], _, 0, _, rfl, rfl, tt, rfl, _, rfl, ts[i], _, 1, _, rfl, rfl, tt, rfl, sc, ?_⟩
          rw [e]
          exact more
      · rintro H7 ⟨y4, y5⟩
        have e : (ts.map V.ref).length = ps.length := by rw [List.length_map, y2.l]
        rw [e, List.take_length] at y4
        refine ⟨D2, ps.map agr1, rfl, SqL.of y4, ?_⟩
        have kk := k H7 (y3.trans y5)
        unfold agr at kk
        rw [hps] at kk
        rw [List.all_map]
        exact kk
theorem ok_places (F : FnP K "_places" sPlaces f fd) (T : TxP mg) : FnOk P w K mg base CX0 1 f fd ["entries"] (spPlaces K) := by
  refine F.ok scPlaces (fun vs H Q E h => ?_) (fun cdv A outer s H vs Q E hr h => ?_)
  · obtain ⟨a, es, rfl, _⟩ := h
    rfl
  · obtain ⟨a, es, rfl, ha, oke, l100, k⟩ := h
    have nd := scPlaces.nd
    obtain ⟨t1, g1⟩ := T.first
    obtain ⟨t2, g2⟩ := T.last
    have oe := List.all_eq_true.mp oke
    refine ⟨_, PSs.nox (pss_cons (ps_set (i := 1) nd rfl (Or.inl rfl) (pe_lst pa_nil))
      (pss_cons (ps_for PassesOwn.never rfl (pi_tup (pv 0)) (pg_name (i := 2) nd rfl (Or.inl rfl))
        (pss_one (ps_if (pt_cmpR op_eq (pv 2) (pe_glob (v := .str "-") rfl g1 ⟨_, rfl⟩) (nomark _)) (pss_one (ps_expr (pe_bm PySem.F.plainAttrs_list PySem.F.slot_list_append PySem.F.type_list_append mt_append (pv 1) (pa_cons (pe_tup (pa_cons pe_int (pa_cons pe_int pa_nil))) pa_nil))))
          (pss_one (ps_if (pt_cmpR op_eq (pv 2) (pe_glob (v := .str "+") rfl g2 ⟨_, rfl⟩) (nomark _)) (pss_one (ps_expr (pe_bm PySem.F.plainAttrs_list PySem.F.slot_list_append PySem.F.type_list_append mt_append (pv 1) (pa_cons (pe_tup (pa_cons pe_int (pa_cons pe_int pa_nil))) pa_nil))))
            (pss_one (ps_expr (pe_bm PySem.F.plainAttrs_list PySem.F.slot_list_append PySem.F.type_list_append mt_append (pv 1) (pa_cons (pe_tup (pa_cons pe_int (pa_cons (pv 2) pa_nil))) pa_nil))))))))
      ) (pss_one (ps_ret (pv 1))))), ?_⟩
    refine ⟨(by show 0 ≤ sizeLine; decide), fun p hp => ?_⟩
    have s1 := same_new (o := .lst []) (Same.refl H) hp
    refine ⟨_, rfl, a, rfl, ⟨_, sqT_same ha s1⟩, ?_⟩
    refine for_it (walk_tup (K := K) (a := a) (xs := es.map enV)) (fun i σ H' => (∃ v2 : Option V, σ = [some (.ref a), some (.ref p), v2]) ∧ ∃ ts : List Addr, H' p = some (.lst (ts.map V.ref)) ∧ PrAt K H' ts (es.take i) ∧ Same H H')
      ⟨⟨none, rfl⟩, [], upd_same, ⟨rfl, fun i a p h => by simp at h⟩, s1⟩ (fun i σ H' _ y => by obtain ⟨_, _, _, _, y⟩ := y; exact sqT_same ha y) ?_ ?_
    · rintro i x σ H1 H2 hi ⟨⟨v2, rfl⟩, ts, y1, y2, y3⟩ ⟨rfl, hx⟩
      have hx : (es.map enV)[i]? = some x := hx
      rw [List.getElem?_map] at hx
      obtain ⟨e, he, rfl⟩ := Option.map_eq_some_iff.mp hx
      have ok := oe e (List.mem_of_getElem? he)
      obtain ⟨n1, n2⟩ := en_not ok
      have lts : ts.length ≤ 100 := by
        have := y2.l
        rw [List.length_take] at this
        omega
      have fin : ∀ (q : Addr), H2 q = none → ∀ {R : Prop}, (((∃ v2 : Option V, ([some (.ref a), some (.ref p), some (enV e)] : L2.St) = [some (.ref a), some (.ref p), v2]) ∧ ∃ ts' : List Addr, (upd (upd H2 q (.tup (prV e))) p (.lst (ts.map V.ref ++ [V.ref q]))) p = some (.lst (ts'.map V.ref)) ∧ PrAt K (upd (upd H2 q (.tup (prV e))) p (.lst (ts.map V.ref ++ [V.ref q]))) ts' (es.take (i + 1)) ∧ Same H (upd (upd H2 q (.tup (prV e))) p (.lst (ts.map V.ref ++ [V.ref q])))) → R) → R := fun q hq R kk => by
        refine kk ⟨⟨_, rfl⟩, ts ++ [q], by rw [upd_same, List.map_append]; rfl, ?_, fun b o z => ?_⟩
        · have sq := same_new (o := .tup (prV e)) (Same.refl H2) hq
          have tq : SqT K (upd H2 q (.tup (prV e))) q (prV e) := SqT.of upd_same
          have yp : (upd H2 q (.tup (prV e))) p = some (.lst (ts.map V.ref)) := sq _ _ y1
          generalize upd H2 q (.tup (prV e)) = H3 at sq tq yp ⊢
          have pr := (y2.same sq).snoc (q := e) tq
          rw [List.take_add_one, he]
          refine ⟨pr.l, fun j b r h1 h2 => ?_⟩
          have z := pr.t j b r h1 h2
          rcases z with (z | ⟨o, z⟩) | z
          · exact .inl (.inl (by rw [upd_ne (ne_of z yp (by intro q; cases q))]; exact z))
          · exact .inl (.inr ⟨o, by rw [upd_ne (ne_of z yp (by intro q; cases q))]; exact z⟩)
          · exact .inr z
        · rw [upd_ne (ne_of_none z hp), upd_ne (ne_of_none (y3 _ _ z) hq)]
          exact y3 _ _ z
      have lz : (ts.map V.ref).length < sizeLine := by rw [List.length_map, sizeLine_eq]; omega
      refine ⟨_, rfl, scal_en e .lo, _, rfl, ?_⟩
      rw [n1]
      cases e with
      | lo =>
        refine itT (decide_eq_true rfl) ?_
        refine ⟨_, rfl, .inl ⟨rfl, _, SqL.of y1⟩, (by show 2 ≤ sizeLine; decide), fun q hq => ⟨p, _, _, rfl, rfl, up y1 hq, lz, ?_⟩⟩
        exact fin q hq fun z => z
      | hi =>
        refine itF (by decide) ?_
        refine ⟨_, rfl, scal_en .hi .hi, _, rfl, ?_⟩
        rw [n2]
        refine itT (decide_eq_true rfl) ?_
        refine ⟨_, rfl, .inl ⟨rfl, _, SqL.of y1⟩, (by show 2 ≤ sizeLine; decide), fun q hq => ⟨p, _, _, rfl, rfl, up y1 hq, lz, ?_⟩⟩
        exact fin q hq fun z => z
      | num j =>
        refine itF (decide_eq_false (by intro z; cases z)) ?_
        refine ⟨_, rfl, scal_en (.num j) .hi, _, rfl, ?_⟩
        rw [n2]
        refine itF (decide_eq_false (by intro z; cases z)) ?_
        refine ⟨_, rfl, .inl ⟨rfl, _, SqL.of y1⟩, _, rfl, (by show 2 ≤ sizeLine; decide), fun q hq => ⟨p, _, _, rfl, rfl, up y1 hq, lz, ?_⟩⟩
        exact fin q hq fun z => z
      | wrd j =>
        refine itF (decide_eq_false (by intro z; cases z)) ?_
        refine ⟨_, rfl, scal_en (.wrd j) .hi, _, rfl, ?_⟩
        rw [n2]
        refine itF (decide_eq_false (by intro z; cases z)) ?_
        refine ⟨_, rfl, .inl ⟨rfl, _, SqL.of y1⟩, _, rfl, (by show 2 ≤ sizeLine; decide), fun q hq => ⟨p, _, _, rfl, rfl, up y1 hq, lz, ?_⟩⟩
        exact fin q hq fun z => z
    · rintro σ H1 ⟨⟨v2, rfl⟩, ts, y1, y2, y3⟩
      have e : (es.map enV).length = es.length := List.length_map ..
      rw [e, List.take_length] at y2
      exact ⟨_, rfl, k p ts H1 y3 y1 y2⟩
theorem ok_areends (F : FnP K "_are_ends" sAreEnds f fd) (T : TxP mg) (GI : FnOk P w K mg base CX0 2 fI fdI ["value"] (spIsEnd K)) (gI : mg "_is_end" = some (.ref fI)) (kI : PySem.W.keepIn K (.ref fI) = true) (bI : Binds K fdI ["value"] [])
    (GA : FnOk P w K mg base CX0 3 fA fdA ["one", "other"] (spAgr K)) (gA : mg "_agree_in_kinds" = some (.ref fA)) (kA : PySem.W.keepIn K (.ref fA) = true) (bA : Binds K fdA ["one", "other"] [])
    (GL : FnOk P w K mg base CX0 1 fL fdL ["entries"] (spPlaces K)) (gL : mg "_places" = some (.ref fL)) (kL : PySem.W.keepIn K (.ref fL) = true) (bL : Binds K fdL ["entries"] []) : FnOk P w K mg base CX0 4 f fd ["low", "high"] (spAreEnds K) := by
  refine F.ok scAreEnds (fun vs H Q E h => ?_) (fun cdv A outer s H vs Q E hr h => ?_)
  · obtain ⟨a, b, es, fs, rfl, _⟩ := h
    rfl
  · obtain ⟨v1, v2, d1, d2, rfl, t1, t2, o1, o2, l1, l2, k⟩ := h
    have hu64 := hu64_of hr
    refine ⟨_, PSs.nox (pss_cons (ps_if (PW.pt (pw_or (pt_not (pt_val (pe_call GI (hr.mono (by decide)) rfl gI kI bI .nil pass0 (pa_cons (pv 0) pa_nil)))) (pw_or (pt_not (pt_val (pe_call GI (hr.mono (by decide)) rfl gI kI bI .nil pass0 (pa_cons (pv 1) pa_nil)))) (pw_or1 (pt_cmpR op_ne (pe_callB call_len_seq (by rfl) T.len PySem.boot_len (pa_cons (pv 0) pa_nil)) (pe_callB call_len_seq (by rfl) T.len PySem.boot_len (pa_cons (pv 1) pa_nil)) (nomark _)))))) (pss_one (ps_ret pe_bl)) pss_nil)
      (pss_one (ps_ret (pe_and (pe_call GA hr rfl gA kA bA .nil pass0 (pa_cons (pv 0) (pa_cons (pv 1) pa_nil))) (pe_one (pe_cmpR (op_ltPr (hu_of hr)) (pe_call GL (hr.mono (by decide)) rfl gL kL bL .nil pass0 (pa_cons (pv 0) pa_nil)) (pe_call GL (hr.mono (by decide)) rfl gL kL bL .nil pass0 (pa_cons (pv 1) pa_nil)) (nomark _))))))), ?_⟩
    refine ⟨_, rfl, v1, d1, rfl, t1, o1, l1, fun H1 s1 => ⟨_, rfl, ?_⟩⟩
    cases e1 : endD d1 with
    | false =>
      refine iteT ?_
      refine iteT ?_
      have kk := k H1 s1
      unfold rngD at kk
      rw [e1] at kk
      exact kk
    | true =>
      refine iteF ?_
      refine ⟨_, rfl, v2, d2, rfl, t2.same s1, o2, l2, fun H2 s2 => ⟨_, rfl, ?_⟩⟩
      have s12 := s1.trans s2
      cases e2 : endD d2 with
      | false =>
        refine iteT ?_
        refine iteT ?_
        have kk := k H2 s12
        unfold rngD at kk
        rw [e1, e2] at kk
        exact kk
      | true =>
        refine iteF ?_
        obtain ⟨a, rfl, ha, oa, a1, a2, la, _⟩ := end_en (t1.same s12) e1
        obtain ⟨b, rfl, hb, ob, b1, b2, lb, _⟩ := end_en (t2.same s12) e2
        refine ⟨_, rfl, a, _, rfl, .inr ha, _, rfl, b, _, rfl, .inr hb, rfl, _, rfl, ?_⟩
        have eR : rngD d1 d2 = (decide ((entsD d1).length = (entsD d2).length) && (agr (entsD d1) (entsD d2) && ltEs (entsD d1) (entsD d2))) := by
          unfold rngD
          rw [e1, e2, la, lb, Bool.true_and, Bool.true_and]
        rw [eR] at k
        by_cases el : (entsD d1).length = (entsD d2).length
        · refine itF (by rw [List.length_map, List.length_map, el, decide_eq_true rfl]; rfl) ?_
          rw [decide_eq_true el, Bool.true_and] at k
          refine ⟨_, rfl, _, rfl, a, b, _, _, rfl, ha, hb, oa, ob, by omega, fun H3 s3 => ⟨_, rfl, ?_⟩⟩
          have s13 := s12.trans s3
          cases hg : agr (entsD d1) (entsD d2) with
          | false =>
            refine iteF ?_
            have kk := k H3 s13
            rw [hg] at kk
            exact kk
          | true =>
            refine iteT ?_
            refine ⟨_, rfl, a, _, rfl, sqT_same ha s3, oa, by omega, fun p as H4 s4 hp pa => ?_⟩
            refine ⟨_, rfl, b, _, rfl, sqT_same hb (s3.trans s4), ob, by omega, fun q bs H5 s5 hq pb => ?_⟩
            refine ⟨p, q, as, bs, _, _, rfl, rfl, SqL.of (s5 _ _ hp), SqL.of hq, pa.same s5, pb, hg, ?_⟩
            have kk := k H5 ((s13.trans s4).trans s5)
            rw [hg, Bool.true_and] at kk
            exact kk
        · refine itT ?_ ?_
          · rw [List.length_map, List.length_map]
            have : decide (V.int ((entsD d1).length : Nat) = V.int ((entsD d2).length : Nat)) = false := decide_eq_false fun z => el (by have := V.int.inj z; omega)
            rw [this]
            rfl
          have kk := k H2 s12
          rw [decide_eq_false el] at kk
          exact kk
end
end K26
set_option Elab.async false
set_option linter.all false
set_option maxRecDepth 100000
set_option maxHeartbeats 4000000
/-! set(xs), xs a list or a tuple of keys of any kind: what it holds, how many -/
namespace SetG
open PySem PySem.Spec PyProof.Rows L2 PpSet
section
variable {K : Type} [DecidableEq K]
/-- the keys of a list -/
def has (ks : List K) : K → Bool := fun k => decide (k ∈ ks)
/-- whether the one at place i stood before -/
def dup (ks : List K) (i : Nat) : Bool := match ks[i]? with
  | some k => decide (k ∈ ks.take i)
  | none => true
theorem dup_at {ks : List K} {i : Nat} {k : K} (h : ks[i]? = some k) : dup ks i = decide (k ∈ ks.take i) := by
  unfold dup
  rw [h]
/-- how many different ones stand before place i -/
def cnt (ks : List K) : Nat → Nat
  | 0 => 0
  | i + 1 => if dup ks i = true then cnt ks i else cnt ks i + 1
theorem cnt_succ (ks : List K) (i : Nat) : cnt ks (i + 1) = if dup ks i = true then cnt ks i else cnt ks i + 1 := rfl
theorem cnt_le (ks : List K) : ∀ i, cnt ks i ≤ i
  | 0 => Nat.le_refl 0
  | i + 1 => by
    have h := cnt_le ks i
    unfold cnt
    split <;> omega
theorem cnt_nodup {ks : List K} (nd : ks.Nodup) : ∀ i, i ≤ ks.length → cnt ks i = i
  | 0, _ => rfl
  | i + 1, hi => by
    have h := cnt_nodup nd i (by omega)
    have lt : i < ks.length := hi
    have no : ¬ ks[i] ∈ ks.take i := fun z => by
      obtain ⟨j, hj, e2⟩ := List.getElem_of_mem z
      have hj2 : j < i := by
        rw [List.length_take] at hj
        omega
      rw [List.getElem_take] at e2
      exact absurd e2 (List.pairwise_iff_getElem.mp nd j i (by omega) lt hj2)
    unfold cnt
    rw [dup_at (List.getElem?_eq_getElem lt), decide_eq_false no, if_neg Bool.false_ne_true, h]
theorem nodup_cnt {ks : List K} : ∀ i, i ≤ ks.length → cnt ks i = i → (ks.take i).Nodup
  | 0, _, _ => by rw [List.take_zero]; exact List.nodup_nil
  | i + 1, hi, h => by
    have lt : i < ks.length := hi
    have e : ks[i]? = some ks[i] := List.getElem?_eq_getElem lt
    unfold cnt at h
    rw [dup_at e] at h
    have l := cnt_le ks i
    by_cases m : ks[i] ∈ ks.take i
    · rw [decide_eq_true m, if_pos rfl] at h
      omega
    · rw [decide_eq_false m, if_neg Bool.false_ne_true] at h
      have ih := nodup_cnt (ks := ks) i (by omega) (by omega)
      rw [List.take_add_one, e]
      refine List.nodup_append.mpr ⟨ih, List.nodup_cons.mpr ⟨List.not_mem_nil, List.nodup_nil⟩, fun a ha b hb ab => m ?_⟩
      rw [← List.mem_singleton.mp hb, ← ab]
      exact ha
theorem cnt_iff {ks : List K} : (cnt ks ks.length = ks.length) ↔ ks.Nodup := ⟨fun h => by
  have z := nodup_cnt ks.length (Nat.le_refl _) h
  rw [List.take_length] at z
  exact z, fun h => cnt_nodup h _ (Nat.le_refl _)⟩
end
section
variable {prog : Program} {w : World} {A : Around} {E : Value → Shared → Prop} {s : Shared}
/-- what is known of the set at S when so many items are in: it lasts, and one more item may be put in -/
structure Fill (prog : Program) (w : World) (A : Around) (S : Addr) (n : Nat) (Pv : Nat → Value → Prop) (D : Nat → Heap → Prop) : Prop where
  keep : ∀ (i : Nat) (h h' : Heap), D i h → (∀ o, h.get? S = some o → h'.get? S = some o) → D i h'
  add : ∀ (i : Nat) (v : Value) (z : Shared) (E : Value → Shared → Prop) (Q : Bool → Shared → Prop), i < n → Pv i v → D i z.heap → (∀ b h', Heap.SameBut S z.heap h' → D (i + 1) h' → Q b { z with heap := h', toks := z.toks + 1 }) → wpAny (model prog w) A (setAdd S v) Q E z
theorem loop {I : Addr} {fp wr : List Addr} {G : Array GenState → Array GenState → Prop} {n : Nat} {Pv : Nat → Value → Prop} {St : Nat → Shared → Prop} {R : Result → Shared → Prop} (W : WalksS prog w A.in1 I fp wr G n Pv St)
    (S : Addr) (off : S ∉ fp) {D : Nat → Heap → Prop} (F : Fill prog w A.in1 S n Pv D) :
    ∀ (m i : Nat) (z : Shared), n - i = m → i ≤ n → St i z → D i z.heap →
      (∀ z', Moved (S :: wr) G z z' → D n z'.heap → R (.ok (.ret .none)) z') → codeAny (model prog w) A (.builtin "set.update.loop" ⟨[.ref S, .ref I], []⟩) R z := by
  have nW : S ∉ wr := fun x => off (W.sub _ x)
  have more : ∀ b ∈ wr, b ∈ S :: wr := fun b x => List.mem_cons_of_mem _ x
  intro m
  induction m with
  | zero =>
    intro i z hm hi st hS fin
    obtain rfl : i = n := by omega
    refine codeAny_builtin PyProof.Rows.F.entry_set_update_loop ?_
    rw [Around.under_plainId PyProof.Rows.F.plain_set_update_loop _]
    show wpAny _ _ (pyNext (Value.ref I) >>= _) _ _ z
    refine wpAny_bind (W.done z _ _ st fun z' mv => ?_)
    show wpAny _ _ (ret Value.none) _ _ z'
    exact wpAny_pure (fin z' (mv.mono more) (F.keep _ _ _ hS fun o e => mv.heap S o nW e))
  | succ m ih =>
    intro i z hm hi st hS fin
    have lt : i < n := by omega
    refine codeAny_builtin PyProof.Rows.F.entry_set_update_loop ?_
    rw [Around.under_plainId PyProof.Rows.F.plain_set_update_loop _]
    show wpAny _ _ (pyNext (Value.ref I) >>= _) _ _ z
    refine wpAny_bind (W.item i z _ _ lt st fun v z' hP st' mv => ?_)
    show wpAny _ _ (holding [v] (setAdd S v) >>= _) _ _ z'
    refine wpAny_bind (wpAny_holding (F.add i v z' _ _ lt hP (F.keep _ _ _ hS fun o e => mv.heap S o nW e) fun b h' sb hS3 => ?_))
    have far : ∀ b ∈ fp, b ≠ S := fun b hb e => off (by rw [← e]; exact hb)
    refine wpAny_pure ⟨plainId_quiet PyProof.Rows.F.plain_set_update_loop _, ih (i + 1) _ (by omega) lt (W.frame _ z' _ _ st' (Nat.le_succ _) fun b hb o e => ?_) hS3 fun z2 mv2 hS4 => ?_⟩
    · rw [sb.2 b (far b hb)]
      exact e
    · refine fin z2 (Moved.trans W.gtrans ((mv.mono more).then_heap (Nat.le_succ _) fun b o hb e => ?_) mv2) hS4
      rw [sb.2 b fun q => hb (by rw [q]; exact List.mem_cons_self)]
      exact e
abbrev nuS (w : World) : Obj := { cls := .type "set", dict := none, data := .set #[] 0 (.fresh 0 0 (!w.params.followText "set-order")) }
set_option maxRecDepth 100000 in
theorem of_list {l : Addr} {items : Array Value} {n : Nat} {D : Nat → Heap → Prop} {Q : Value → Shared → Prop} (hd : A.handled = none) (hl : s.heap.IsList l items) (len : items.size = n) (Fi : ∀ A : Around, Fill prog w A s.heap.objs.size n (fun i v => items[i]? = some v) D)
    (new : ∀ h : Heap, h.get? s.heap.objs.size = some (nuS w) → D 0 h) (h : ∀ (h' : Heap) (tk : Nat), D n h' → (∀ b o, s.heap.get? b = some o → h'.get? b = some o) → Q (.ref s.heap.objs.size) { s with heap := h', toks := tk }) : wpAny (model prog w) A (call (.type "set") [.ref l]) Q E s := by
  obtain ⟨c0, t0, mro⟩ := F.called_set.mro
  have m1 := F.called_set.made
  have m2 := F.called_set.sub
  refine wpAny_call (codeAny_of_tree ?_)
  show wpAny _ _ (callAny (Value.type "set") _) _ _ s
  refine wpAny_pure ⟨Code.quiet_builtin _ (by decide +kernel), codeAny_builtin F.entry_type_call ?_⟩
  rw [Around.under_plain (weight_type_call_type "set" [Value.ref l] []) rfl]
  have m3 := F.called_set.notType
  have m4 := F.called_set.canCreate
  have m5 := F.typeCall_set_1 (Value.ref l)
  repeat (any_goals (first | assumption | wp_step))
  refine codeAny_mono (code_set_led1 (Value.ref l) (E := E) (Q₁ := fun v z => v = .ref s.heap.objs.size ∧ z = { s with heap := s.heap.push (nuS w) }) ⟨rfl, rfl⟩) fun r z hr => ?_
  cases r with
  | error e => exact hr
  | ok fl =>
    cases fl with
    | ret v =>
      obtain ⟨rfl, rfl⟩ := hr
      have g0 : (s.heap.push (nuS w)).get? s.heap.objs.size = some (nuS w) := Heap.get?_push_size _ rfl
      have ty : Shared.TypeIs { s with heap := s.heap.push (nuS w) } (.ref s.heap.objs.size) "set" := ⟨_, g0, rfl⟩
      have m6 := F.called_set.init.lookup
      have m7 := F.called_set.init.bind (.ref s.heap.objs.size)
      repeat (any_goals (first | assumption | wp_step))
      refine codeAny_mono (codeAny_call_builtin (R := wants (fun r z => r = .none ∧ ∃ h' tk, z = { s with heap := h', toks := tk } ∧ D n h' ∧ (∀ b o, s.heap.get? b = some o → h'.get? b = some o)) E) F.called_set.init.plain F.entry_set_init (check_set_init_1 ty ?_)) fun r2 z2 hr2 => ?_
      · obtain ⟨ol, gl, kl, nl, dl⟩ := hl
        obtain ⟨q1, q2, q3, q4⟩ := ol
        simp only at kl dl
        subst kl dl
        have gl2 : (s.heap.push (nuS w)).get? l = some { cls := .type "list", dict := q2, data := .seq items nl, slots := q4 } := Heap.get?_push_of_some _ gl
        have n1 := F.sub_list_set
        have n2 := F.sub_list_frozenset
        have n3 : (Value.type "list" == Value.type "dict") = false := by decide
        have is2 : (s.heap.push (nuS w)).IsList l items := ⟨_, gl2, rfl, nl, rfl⟩
        unfold Builtin.«set.__init__» noKeywords Builtin.Frozenset.updateFrom
        generalize hp : pyIter = PI
        wp_walk
        subst hp
        refine wpAny_pyIter_list is2 ?_
        refine wpAny_bind (wpAny_runValue ?_)
        have ls := Heap.lt_size gl
        have hd3 : A.in1.in1.in1.handled = none := by simp [hd]
        have sz : (s.heap.push (nuS w)).objs.size = s.heap.objs.size + 1 := Heap.size_push ..
        have ne1 : l ≠ (s.heap.push (nuS w)).objs.size := by
          rw [sz]
          exact Nat.ne_of_lt (Nat.lt_succ_of_lt ls)
        subst len
        refine loop ((Walks.list hd3 _ l ne1 items).toS) s.heap.objs.size ?_ (Fi _) (items.size - 0) 0 _ (by omega) (Nat.zero_le _) ⟨⟨_, Heap.get?_push_size _ rfl, rfl, rfl⟩, (is2.push _)⟩ ?_ ?_
        · rw [sz]
          intro z
          rcases List.mem_cons.mp z with z | z
          · exact Nat.ne_of_lt (Nat.lt_succ_self _) z
          · exact Nat.ne_of_gt ls (List.mem_singleton.mp z)
        · exact new _ (Heap.get?_push_of_some _ g0)
        · intro z' mv hS'
          obtain ⟨h', g', d', tk', os'⟩ := z'
          obtain rfl : g' = s.gens := mv.gens
          obtain rfl : d' = s.drawn := mv.drawn
          obtain rfl : os' = s.os := mv.os
          show wpAny _ _ _ _ _ _
          refine wpAny_pure ?_
          show wpAny _ _ (ret Value.none) _ _ _
          refine wpAny_pure ⟨rfl, h', tk', rfl, hS', fun b o e => ?_⟩
          have lb := Heap.lt_size e
          refine mv.heap b o (fun z => ?_) (Heap.get?_push_of_some _ (Heap.get?_push_of_some _ e))
          rcases List.mem_cons.mp z with z | z
          · exact Nat.ne_of_lt lb z
          · have q := List.mem_singleton.mp z
            rw [sz] at q
            exact Nat.ne_of_lt (Nat.lt_succ_of_lt lb) q
      · cases r2 with
        | error e => exact hr2
        | ok f2 =>
          cases f2 with
          | ret r =>
            obtain ⟨rfl, h', tk, rfl, hS', kp⟩ := hr2
            repeat (any_goals (first | assumption | wp_step))
            exact h _ _ hS' kp
          | _ => exact hr2.elim
    | _ => exact hr.elim
set_option maxRecDepth 100000 in
theorem of_tuple {l : Addr} {items : Array Value} {n : Nat} {D : Nat → Heap → Prop} {Q : Value → Shared → Prop} (hd : A.handled = none) (hl : s.heap.IsTuple l items) (len : items.size = n) (Fi : ∀ A : Around, Fill prog w A s.heap.objs.size n (fun i v => items[i]? = some v) D)
    (new : ∀ h : Heap, h.get? s.heap.objs.size = some (nuS w) → D 0 h) (h : ∀ (h' : Heap) (tk : Nat), D n h' → (∀ b o, s.heap.get? b = some o → h'.get? b = some o) → Q (.ref s.heap.objs.size) { s with heap := h', toks := tk }) : wpAny (model prog w) A (call (.type "set") [.ref l]) Q E s := by
  obtain ⟨c0, t0, mro⟩ := F.called_set.mro
  have m1 := F.called_set.made
  have m2 := F.called_set.sub
  refine wpAny_call (codeAny_of_tree ?_)
  show wpAny _ _ (callAny (Value.type "set") _) _ _ s
  refine wpAny_pure ⟨Code.quiet_builtin _ (by decide +kernel), codeAny_builtin F.entry_type_call ?_⟩
  rw [Around.under_plain (weight_type_call_type "set" [Value.ref l] []) rfl]
  have m3 := F.called_set.notType
  have m4 := F.called_set.canCreate
  have m5 := F.typeCall_set_1 (Value.ref l)
  repeat (any_goals (first | assumption | wp_step))
  refine codeAny_mono (code_set_led1 (Value.ref l) (E := E) (Q₁ := fun v z => v = .ref s.heap.objs.size ∧ z = { s with heap := s.heap.push (nuS w) }) ⟨rfl, rfl⟩) fun r z hr => ?_
  cases r with
  | error e => exact hr
  | ok fl =>
    cases fl with
    | ret v =>
      obtain ⟨rfl, rfl⟩ := hr
      have g0 : (s.heap.push (nuS w)).get? s.heap.objs.size = some (nuS w) := Heap.get?_push_size _ rfl
      have ty : Shared.TypeIs { s with heap := s.heap.push (nuS w) } (.ref s.heap.objs.size) "set" := ⟨_, g0, rfl⟩
      have m6 := F.called_set.init.lookup
      have m7 := F.called_set.init.bind (.ref s.heap.objs.size)
      repeat (any_goals (first | assumption | wp_step))
      refine codeAny_mono (codeAny_call_builtin (R := wants (fun r z => r = .none ∧ ∃ h' tk, z = { s with heap := h', toks := tk } ∧ D n h' ∧ (∀ b o, s.heap.get? b = some o → h'.get? b = some o)) E) F.called_set.init.plain F.entry_set_init (check_set_init_1 ty ?_)) fun r2 z2 hr2 => ?_
      · obtain ⟨ol, gl, kl, nl, dl⟩ := hl
        obtain ⟨q1, q2, q3, q4⟩ := ol
        simp only at kl dl
        subst kl dl
        have gl2 : (s.heap.push (nuS w)).get? l = some { cls := .type "tuple", dict := q2, data := .seq items nl, slots := q4 } := Heap.get?_push_of_some _ gl
        have n1 := F.sub_tuple_set
        have n2 := F.sub_tuple_frozenset
        have n3 : (Value.type "tuple" == Value.type "dict") = false := by decide
        have is2 : (s.heap.push (nuS w)).IsTuple l items := ⟨_, gl2, rfl, nl, rfl⟩
        unfold Builtin.«set.__init__» noKeywords Builtin.Frozenset.updateFrom
        generalize hp : pyIter = PI
        wp_walk
        subst hp
        refine wpAny_pyIter_tuple is2 ?_
        refine wpAny_bind (wpAny_runValue ?_)
        have ls := Heap.lt_size gl
        have hd3 : A.in1.in1.in1.handled = none := by simp [hd]
        have sz : (s.heap.push (nuS w)).objs.size = s.heap.objs.size + 1 := Heap.size_push ..
        have ne1 : l ≠ (s.heap.push (nuS w)).objs.size := by
          rw [sz]
          exact Nat.ne_of_lt (Nat.lt_succ_of_lt ls)
        subst len
        refine loop ((Walks.tuple hd3 _ l ne1 items).toS) s.heap.objs.size ?_ (Fi _) (items.size - 0) 0 _ (by omega) (Nat.zero_le _) ⟨⟨_, Heap.get?_push_size _ rfl, rfl, rfl⟩, (is2.push _)⟩ ?_ ?_
        · rw [sz]
          intro z
          rcases List.mem_cons.mp z with z | z
          · exact Nat.ne_of_lt (Nat.lt_succ_self _) z
          · exact Nat.ne_of_gt ls (List.mem_singleton.mp z)
        · exact new _ (Heap.get?_push_of_some _ g0)
        · intro z' mv hS'
          obtain ⟨h', g', d', tk', os'⟩ := z'
          obtain rfl : g' = s.gens := mv.gens
          obtain rfl : d' = s.drawn := mv.drawn
          obtain rfl : os' = s.os := mv.os
          show wpAny _ _ _ _ _ _
          refine wpAny_pure ?_
          show wpAny _ _ (ret Value.none) _ _ _
          refine wpAny_pure ⟨rfl, h', tk', rfl, hS', fun b o e => ?_⟩
          have lb := Heap.lt_size e
          refine mv.heap b o (fun z => ?_) (Heap.get?_push_of_some _ (Heap.get?_push_of_some _ e))
          rcases List.mem_cons.mp z with z | z
          · exact Nat.ne_of_lt lb z
          · have q := List.mem_singleton.mp z
            rw [sz] at q
            exact Nat.ne_of_lt (Nat.lt_succ_of_lt lb) q
      · cases r2 with
        | error e => exact hr2
        | ok f2 =>
          cases f2 with
          | ret r =>
            obtain ⟨rfl, h', tk, rfl, hS', kp⟩ := hr2
            repeat (any_goals (first | assumption | wp_step))
            exact h _ _ hS' kp
          | _ => exact hr2.elim
    | _ => exact hr.elim
end
/-! sets of keys -/
section
variable {prog : Program} {w : World} {K : Type} [DecidableEq K] {knd : KeyKind prog w K} {A : Around}
theorem same_set {h : Heap} {a : Addr} {S S' : K → Bool} {n n' : Nat} (x : h.SetOf knd a S n) (e1 : S = S') (e2 : n = n') : h.SetOf knd a S' n' := by
  rw [← e1, ← e2]
  exact x
theorem fillK {S : Addr} {Pv : Nat → Value → Prop} (ks : List K) (room : ks.length + 1 < scanBound) (val : ∀ (i : Nat) (v : Value), Pv i v → ∃ k : K, ks[i]? = some k ∧ knd.is k v = true ∧ v.scannable = true) :
    Fill prog w A S ks.length Pv (fun i h => h.SetOf knd S (has (ks.take i)) (cnt ks i)) := by
  refine ⟨fun i h h' ⟨o, es, ep, t, ho, r⟩ k => ⟨o, es, ep, t, k o ho, r⟩, fun i v z E Q lt hP hS q => ?_⟩
  obtain ⟨k, hk, is, sc⟩ := val i v hP
  unfold setAdd
  refine wpAny_holding ?_
  refine wpAny_bind (knd.pyHash is ?_)
  have lc := cnt_le ks i
  refine wpAny_setAddHashed_of (s := { z with toks := z.toks + 1 }) is sc hS (by omega) fun h' sb hS2 => q _ h' sb (same_set hS2 (funext fun j => ?_) ?_)
  · show (decide _ || decide _) = decide _
    rw [List.take_add_one, hk, Bool.eq_iff_iff]
    simp [List.mem_append]
  · rw [cnt_succ, dup_at hk]
    rfl
theorem newK {h : Heap} {a : Addr} (ks : List K) (e : h.get? a = some (nuS w)) : h.SetOf knd a (has (ks.take 0)) (cnt ks 0) := by
  refine same_set ((setObjOf_fresh (knd := knd) (!w.params.followText "set-order")).setOf e (by unfold scanBound; omega)) (funext fun k => ?_) rfl
  rw [List.take_zero]
  rfl
end
/-! sets of truth values -/
section
variable {prog : Program} {w : World} {A : Around}
theorem fillB {S : Addr} {Pv : Nat → Value → Prop} (ks : List Bool) (room : ks.length + 1 < scanBound) (val : ∀ (i : Nat) (v : Value), Pv i v → ∃ k : Bool, ks[i]? = some k ∧ v = .bool k) :
    Fill prog w A S ks.length Pv (fun i h => SetB w h S (fun k => decide (k ∈ ks.take i)) (cnt ks i)) := by
  refine ⟨fun i h h' R k => R.at k, fun i v z E Q lt hP hS q => ?_⟩
  obtain ⟨k, hk, rfl⟩ := val i v hP
  unfold setAdd
  refine wpAny_holding ?_
  refine wpAny_bind ((boolK prog w).pyHash (boolK_is prog w k) ?_)
  have lc := cnt_le ks i
  refine setB_add_hashed (s := { z with toks := z.toks + 1 }) hS (by omega) fun h' sb hS2 => q _ h' sb ?_
  have e : (if decide (k ∈ ks.take i) = true then cnt ks i else cnt ks i + 1) = cnt ks (i + 1) := by rw [cnt_succ, dup_at hk]
  rw [← e]
  refine hS2.congr fun j => ?_
  rw [List.take_add_one, hk, Bool.eq_iff_iff]
  simp [List.mem_append]
theorem newB {h : Heap} {a : Addr} (ks : List Bool) (e : h.get? a = some (nuS w)) : SetB w h a (fun k => decide (k ∈ ks.take 0)) (cnt ks 0) := by
  refine ⟨_, #[], 0, _, e, ⟨rfl, rfl, rfl⟩, rfl, (fun e he => by simp at he), (by simp), (fun k => by simp), (by decide), (by rfl), rfl, List.Pairwise.nil, ?_⟩
  show _ ∨ (!w.params.followText "set-order") = true
  cases w.params.followText "set-order"
  · exact .inr rfl
  · exact .inl rfl
end
end SetG
set_option Elab.async false
set_option linter.all false
set_option maxRecDepth 100000
set_option maxHeartbeats 4000000
/-! set(..) of flat values, its length; sorted(set(..)) of truth values -/
namespace SrtB
open PySem PyProof.Rows
/-- truth values as keys of a sort -/
def kd : PyProof.Rows.KeyKind where
  α := Bool
  blt a b := !a && b
  irrefl a := by cases a <;> rfl
  trans a b c h1 h2 := by cases a <;> cases b <;> cases c <;> first | rfl | exact Bool.noConfusion h1 | exact Bool.noConfusion h2
  negTrans a b c h := by cases a <;> cases b <;> cases c <;> first | exact .inl rfl | exact .inr rfl | exact Bool.noConfusion h
  total a b h1 h2 := by cases a <;> cases b <;> first | rfl | exact Bool.noConfusion h1 | exact Bool.noConfusion h2
  keyOf v := match v with
    | .bool b => some b
    | _ => none
  dflt := false
theorem one_lt : kd.OneLt := by
  intro prog w A E s x y a b Q ha hb h
  obtain ⟨p, rfl⟩ : ∃ p, x = .bool p := by cases x <;> first | exact ⟨_, rfl⟩ | cases ha
  obtain ⟨q, rfl⟩ : ∃ q, y = .bool q := by cases y <;> first | exact ⟨_, rfl⟩ | cases hb
  obtain rfl : p = a := Option.some.inj ha
  obtain rfl : q = b := Option.some.inj hb
  rw [oneLt'_eq]
  simp only [if_true]
  refine wpAny_bind (wpAny_cRoomFor_byValue rfl ?_)
  refine wpAny_bind (wpAny_callSpecialIfBound?_slot (typeIs_bool' s p) F.slot_bool_lt (call_gives F.slot_bool_lt (typeIs_bool' s p) F.entry_int_lt (F.args_int_lt_2 _ _) (gives_int_lt_bools p q) ?_))
  refine wpAny_truthy_bool ?_
  have e : decide ((if p = true then (1 : Int) else 0) < (if q = true then (1 : Int) else 0)) = kd.blt p q := by cases p <;> cases q <;> decide
  have h : Q (kd.blt p q) s := h
  rw [← e] at h
  exact h
def AllB (vs : List Value) : Prop := ∀ v ∈ vs, ∃ b, v = Value.bool b
theorem kinds {v1 v2 : Value} {vs : List Value} (h : AllB (v1 :: v2 :: vs)) : keyKind' (v1 :: v2 :: vs).toArray = pure oneType' := by
  have m1 : ∀ {l : List Value}, AllB l → l.mapM firstOfTuple' = pure (l.map fun _ => none) := by
    intro l
    induction l with
    | nil => intro _; simp
    | cons v l ih =>
      intro h
      obtain ⟨b, rfl⟩ := h v List.mem_cons_self
      rw [List.mapM_cons, show firstOfTuple' (.bool b) = pure none from rfl, ih fun u hu => h u (List.mem_cons_of_mem _ hu)]
      simp
  have m2 : ∀ {l : List Value}, AllB l → l.mapM typeOf = pure (l.map fun _ => Value.type "bool") := by
    intro l
    induction l with
    | nil => intro _; simp
    | cons v l ih =>
      intro h
      obtain ⟨b, rfl⟩ := h v List.mem_cons_self
      rw [List.mapM_cons, ih fun u hu => h u (List.mem_cons_of_mem _ hu)]
      show (pure (Value.type "bool") >>= fun b => pure _ >>= fun bs => pure (b :: bs)) = _
      simp
  rw [keyKind'_eq, List.mapM_toArray, m1 h]
  simp only [map_pure, pure_bind]
  rw [if_neg (by simp), if_neg (by simp)]
  rw [oneTypeOnly'_eq, List.mapM_toArray, m2 h]
  simp only [map_pure, pure_bind]
  have q1 : ((List.map (fun _ => Value.type "bool") (v1 :: v2 :: vs)).toArray.all fun x => x == Value.type "bool") = true := by
    simp only [List.all_toArray, List.all_map, List.all_eq_true]
    intro _ _
    rfl
  have q0 : (List.map (fun _ => Value.type "bool") (v1 :: v2 :: vs)).toArray[0]? = some (Value.type "bool") := by simp
  rw [q0]
  simp only [q1, if_true, pure_bind, Option.isSome_some]
end SrtB
namespace K26
open K34 PySem PySem.Spec PyProof.Rows L2 PpSet
def keyF : V → Option Key
  | .int i => some (.inl i) | .str x => some (.inr x) | _ => none
/-- the set of these keys -/
def SetN (P : Program) (w : World) (p : Addr) (ks : List (Option Key)) : HO := .ext fun h => h.SetOf (noneKind P w) p (SetG.has ks) (SetG.cnt ks ks.length)
theorem setN_new {P : Program} {w : World} {H : Hp} {h : Heap} {a : Addr} {ks : List (Option Key)} (R : h.SetOf (noneKind P w) a (SetG.has ks) (SetG.cnt ks ks.length)) : ObjOk P w H h a (SetN P w a ks) := by
  have ⟨o, _, _, _, ho, _⟩ := R
  refine ⟨R, ⟨o, ho⟩, fun h1 h2 p k => ?_⟩
  obtain ⟨o, es, ep, t, ho, r⟩ := p
  exact ⟨o, es, ep, t, k o ho, r⟩
section
variable {X : Cx}
theorem key_is {v : V} {u : Value} (r : RelV v u) (f : FlV v = true) : nkIs (keyF v) u = true ∧ u.scannable = true := by
  cases v with
  | non => cases r; exact ⟨rfl, rfl⟩
  | int i => obtain ⟨t, rfl⟩ := r; exact ⟨beq_self_eq_true i, key_scan (k := Sum.inl i) ⟨t, rfl⟩⟩
  | str x => obtain ⟨t, rfl⟩ := r; exact ⟨beq_self_eq_true x, key_scan (k := Sum.inr x) ⟨t, rfl⟩⟩
  | _ => exact absurd f Bool.false_ne_true
def rSetF (K : PySem.W.Frag) (P : Program) (w : World) : List V → Hp → VK → Prop := fun xs H Q => ∃ (l : Addr) (vs : List V), xs = [.ref l] ∧ (SqL K H l vs ∨ SqT K H l vs) ∧ (∀ v ∈ vs, FlV v = true) ∧ vs.length ≤ 100 ∧ ∀ p, H p = none → Q (.ref p) (upd H p (SetN P w p (vs.map keyF)))
theorem cr_setF (hc : X.calm = true) : CallR X (.type "set") (rSetF X.K X.prog X.w) := by
  intro pins s σ H xs us Q I r h
  obtain ⟨l, vs, rfl, hq, hf, hl, q⟩ := h
  rw [Vals.ref1 r]
  have hn : H s.heap.objs.size = none := I.hok.fresh (Nat.le_refl _)
  have go : ∀ {its : List Value}, Vals vs its → its.length = vs.length ∧ ∀ (i : Nat) (v : Value), its.toArray[i]? = some v → ∃ k : Option Key, (vs.map keyF)[i]? = some k ∧ (noneKind X.prog X.w).is k v = true ∧ v.scannable = true := fun {its} rv => by
    refine ⟨rv.length.symm, fun i v e => ?_⟩
    have e : its[i]? = some v := by simpa using e
    obtain ⟨lt, e⟩ := List.getElem?_eq_some_iff.mp e
    have lt2 : i < vs.length := by rw [rv.length]; exact lt
    have z := vals_getD rv i lt
    have ev : vs.getD i .non = vs[i] := by rw [List.getD_eq_getElem?_getD, List.getElem?_eq_getElem lt2]; rfl
    rw [ev, e] at z
    obtain ⟨z1, z2⟩ := key_is z (hf _ (List.getElem_mem lt2))
    exact ⟨keyF vs[i], by rw [List.getElem?_map, List.getElem?_eq_getElem lt2]; rfl, z1, z2⟩
  have room : (vs.map keyF).length + 1 < scanBound := by rw [List.length_map]; unfold scanBound; omega
  have fin : ∀ (h' : Heap) (tk : Nat), h'.SetOf (noneKind X.prog X.w) s.heap.objs.size (SetG.has ((vs.map keyF).take (vs.map keyF).length)) (SetG.cnt (vs.map keyF) (vs.map keyF).length) → (∀ b o, s.heap.get? b = some o → h'.get? b = some o) →
      EP X pins σ Q (.ref s.heap.objs.size) { s with heap := h', toks := tk } := fun h' tk R kp => by
    rw [List.take_length] at R
    exact ⟨.ref s.heap.objs.size, upd H s.heap.objs.size (SetN X.prog X.w s.heap.objs.size (vs.map keyF)), I.laid (t' := tk) kp (Nat.le_refl _) (setN_new R), rfl, q _ hn⟩
  rcases hq with hq | hq
  · obtain ⟨its, rv, pl, hz⟩ := I.list hq
    obtain ⟨g1, g2⟩ := go rv
    exact SetG.of_list (n := (vs.map keyF).length) (I.ok.hd hc) pl.isList (by rw [List.size_toArray, List.length_map]; exact g1) (fun A => SetG.fillK (vs.map keyF) room g2) (fun h e => SetG.newK _ e) fin
  · obtain ⟨its, rv, pl, hz⟩ := I.tuple hq
    obtain ⟨g1, g2⟩ := go rv
    exact SetG.of_tuple (n := (vs.map keyF).length) (I.ok.hd hc) pl (by rw [List.size_toArray, List.length_map]; exact g1) (fun A => SetG.fillK (vs.map keyF) room g2) (fun h e => SetG.newK _ e) fin
def rLenN (P : Program) (w : World) : List V → Hp → VK → Prop := fun xs H Q => ∃ (a : Addr) (ks : List (Option Key)), xs = [.ref a] ∧ H a = some (SetN P w a ks) ∧ ks.length ≤ 100 ∧ Q (.int (SetG.cnt ks ks.length : Nat)) H
theorem cr_lenN : CallR X (.builtin "len") (rLenN X.prog X.w) := by
  intro pins s σ H xs us Q I r h
  obtain ⟨a, ks, rfl, ha, hl, q⟩ := h
  rw [Vals.ref1 r]
  have R : s.heap.SetOf (noneKind X.prog X.w) a (SetG.has ks) (SetG.cnt ks ks.length) := (I.hok a _ ha).1
  obtain ⟨o, es, ep, t, ho, hex, hd, _, _, _, hf, hz⟩ := R
  have lc := SetG.cnt_le ks ks.length
  have b62 : (100 : Int) < 2 ^ 63 := by decide
  refine call_len_set ho hex hd hf (by rw [hz]; omega) ⟨.int (SetG.cnt ks ks.length : Nat), H, I.tok _, ⟨_, by rw [hz]⟩, q⟩
/-- set(xs), xs a list of truth values -/
def rSetBl (K : PySem.W.Frag) (w : World) : List V → Hp → VK → Prop := fun xs H Q => ∃ (l : Addr) (bs : List Bool), xs = [.ref l] ∧ SqL K H l (bs.map V.bl) ∧ bs.length ≤ 100 ∧ ∀ p, H p = none → Q (.ref p) (upd H p (SetBO w p (fun k => decide (k ∈ bs)) (SetG.cnt bs bs.length)))
theorem cr_setBl (hc : X.calm = true) : CallR X (.type "set") (rSetBl X.K X.w) := by
  intro pins s σ H xs us Q I r h
  obtain ⟨l, bs, rfl, hq, hl, q⟩ := h
  rw [Vals.ref1 r]
  have hn : H s.heap.objs.size = none := I.hok.fresh (Nat.le_refl _)
  obtain ⟨its, rv, pl, hz⟩ := I.list hq
  have g1 : its.length = bs.length := by rw [← rv.length, List.length_map]
  have g2 : ∀ (i : Nat) (v : Value), its.toArray[i]? = some v → ∃ k : Bool, bs[i]? = some k ∧ v = .bool k := fun i v e => by
    have e : its[i]? = some v := by simpa using e
    obtain ⟨lt, e⟩ := List.getElem?_eq_some_iff.mp e
    have lt2 : i < bs.length := by omega
    have z := vals_getD rv i lt
    have ev : (bs.map V.bl).getD i .non = .bl bs[i] := by rw [List.getD_eq_getElem?_getD, List.getElem?_map, List.getElem?_eq_getElem lt2]; rfl
    rw [ev, e] at z
    exact ⟨bs[i], List.getElem?_eq_getElem lt2, z⟩
  have room : bs.length + 1 < scanBound := by unfold scanBound; omega
  refine SetG.of_list (n := bs.length) (I.ok.hd hc) pl.isList (by rw [List.size_toArray]; exact g1) (fun A => SetG.fillB (prog := X.prog) (w := X.w) bs room g2) (fun h e => SetG.newB _ e) fun h' tk R kp => ?_
  rw [List.take_length] at R
  exact ⟨.ref s.heap.objs.size, upd H s.heap.objs.size (SetBO X.w s.heap.objs.size (fun k => decide (k ∈ bs)) (SetG.cnt bs bs.length)), I.laid (t' := tk) kp (Nat.le_refl _) (setBO_new R), rfl, q _ hn⟩
/-- sorted(s), s a set of truth values -/
def rSortBO (w : World) : List V → Hp → VK → Prop := fun xs H Q => ∃ (a : Addr) (S : Bool → Bool) (n : Nat), xs = [.ref a] ∧ H a = some (SetBO w a S n) ∧ ∀ (bs : List Bool) (p : Addr), bs.length = n → n ≤ 2 → H p = none → Q (.ref p) (upd H p (.lst (bs.map V.bl)))
theorem nodup_bool : ∀ {l : List Bool}, l.Nodup → l.length ≤ 2
  | [], _ => by decide
  | [_], _ => by simp
  | [_, _], _ => by simp
  | a :: b :: c :: l, h => by
    exfalso
    have h1 := List.nodup_cons.mp h
    have h2 := List.nodup_cons.mp h1.2
    have n1 : a ≠ b := fun z => h1.1 (by rw [z]; exact List.mem_cons_self)
    have n2 : a ≠ c := fun z => h1.1 (by rw [z]; exact List.mem_cons_of_mem _ List.mem_cons_self)
    have n3 : b ≠ c := fun z => h2.1 (by rw [z]; exact List.mem_cons_self)
    cases a <;> cases b <;> cases c <;> first | exact n1 rfl | exact n2 rfl | exact n3 rfl
theorem cr_sortBO (hc : X.calm = true) : CallR X (.builtin "sorted") (rSortBO X.w) := by
  intro pins s σ H xs us Q I r h
  obtain ⟨a, S, n, rfl, ha, q⟩ := h
  rw [Vals.ref1 r]
  obtain ⟨o, es, ep, t, ho, hex, hd, g, nd, hm, hb, hf, hn, hr, hl⟩ := setBO_get I ha
  have n2 : n ≤ 2 := by
    have z := nodup_bool nd
    rw [List.length_map, Array.length_toList] at z
    omega
  refine Calls.call_function_entry kind_sorted plain_sorted entry_sorted (args_sorted1 _) ?_
  unfold Builtin.«sorted»
  refine wpAny_bind (m := checkCount "sorted" 1 1 _) (wpAny_pure ?_)
  refine wpAny_bind (collect_set (A := X.A.in1) (I.ok.hd hc) ⟨o, ho, hex.1, hd⟩ hf hb hr hl fun s1 vs k1 hz g1 o1 pm => ?_)
  have hvl : vs.length = n := by rw [pm.length_eq, List.length_map, Array.length_toList]; exact hn
  have al : SrtB.AllB vs := fun v hv => by
    obtain ⟨e, he, z⟩ := List.mem_map.mp (pm.mem_iff.mp hv)
    obtain ⟨k, h1, _⟩ := g e he
    exact ⟨k, by rw [← z]; exact h1⟩
  refine wpAny_bind (wpAny_newList ?_ (by rw [hvl, sizeLine_eq]; omega))
  have hoL : (s1.heap.push (seqObj "list" vs.toArray 0)).get? s1.heap.objs.size = some (seqObj "list" vs.toArray 0) := Heap.get?_push_size _ rfl
  refine wpAny_bind (wpAny_holding (wpAny_call_entry slot_list_sort ⟨_, hoL, rfl⟩ entry_list_sort (list_sort_treeK SrtB.one_lt hoL ?_ (fun v1 v2 rest e => SrtB.kinds (by rw [← e]; exact al)) (by rw [hvl]; omega) fun st pm2 _ => ⟨_, rfl, ?_⟩) (args_list_sort _)))
  · intro p hp
    have hp : p ∈ (vs.toArray.zip vs.toArray).toList := hp
    have e : (vs.toArray.zip vs.toArray).toList = vs.zip vs := by simp
    rw [e] at hp
    obtain ⟨b, hb⟩ := al p.1 (List.of_mem_zip hp).1
    exact ⟨b, by rw [hb]; rfl⟩
  obtain ⟨c, hcc⟩ := sortedHeap_at (vs := vs) (out := (arrOf st).map (·.2)) hoL
  have e3 : ((arrOf st).map (·.2)).toList.Perm vs := by
    have z : (arrOf st).toList.Perm (vs.toArray.zip vs.toArray).toList := Array.perm_iff_toList_perm.mp pm2
    have e : (vs.toArray.zip vs.toArray).toList = vs.zip vs := by simp
    rw [e] at z
    have z2 := z.map (·.2)
    rw [List.map_snd_zip (Nat.le_refl _)] at z2
    rw [Array.toList_map]
    exact z2
  have al2 : SrtB.AllB ((arrOf st).map (·.2)).toList := fun v hv => al v (e3.mem_iff.mp hv)
  obtain ⟨bs, hbs⟩ : ∃ bs : List Bool, ((arrOf st).map (·.2)).toList = bs.map Value.bool := by
    generalize ((arrOf st).map (·.2)).toList = l at al2
    induction l with
    | nil => exact ⟨[], rfl⟩
    | cons v l ih =>
      obtain ⟨b, rfl⟩ := al2 v List.mem_cons_self
      obtain ⟨bs, rfl⟩ := ih fun u hu => al2 u (List.mem_cons_of_mem _ hu)
      exact ⟨b :: bs, rfl⟩
  have lbs : bs.length = n := by
    have z := e3.length_eq
    rw [hbs, List.length_map] at z
    omega
  have rel : ∀ l : List Bool, Vals (l.map V.bl) (l.map Value.bool) := fun l => by
    induction l with
    | nil => exact .nil
    | cons b l ih => exact .cons rfl ih
  have hn1 : H s1.heap.objs.size = none := I.hok.fresh hz
  have k2 : ∀ b o, s.heap.get? b = some o → (sortedHeap (s1.heap.push (seqObj "list" vs.toArray 0)) s1.heap.objs.size vs ((arrOf st).map (·.2))).get? b = some o := fun b u e => by
    have z := k1 b u e
    have lt := Heap.lt_size z
    rw [sortedHeap_old (Nat.ne_of_lt lt) (by rw [size_push']; exact Nat.lt_succ_of_lt lt)]
    exact Heap.get?_push_of_some _ z
  refine wpAny_pure ⟨_, rfl, ?_⟩
  have hlen : (bs.map V.bl).length ≤ sizeLine := by rw [List.length_map, lbs, sizeLine_eq]; omega
  generalize hS : sortedHeap (s1.heap.push (seqObj "list" vs.toArray 0)) s1.heap.objs.size vs ((arrOf st).map (·.2)) = hh at hcc k2
  have J : Inv X pins σ (upd H s1.heap.objs.size (.lst (bs.map V.bl))) { s with heap := hh, gens := s1.gens, drawn := s1.drawn, toks := s1.toks } :=
    I.call (ch := []) (Un.laid k2 hz hn1) (I.hok.laid k2 hz ⟨hlen, bs.map Value.bool, c, rel bs, by rw [← hbs]; exact hcc⟩) (by rw [g1]; exact I.bare) (fun _ z => nomatch z)
  have e : ({ s1 with heap := hh } : Shared) = { s with heap := hh, gens := s1.gens, drawn := s1.drawn, toks := s1.toks } := by
    cases s1
    cases s
    cases o1
    rfl
  show EP X pins σ Q (.ref s1.heap.objs.size) { s1 with heap := hh }
  rw [e]
  exact ⟨.ref _, _, J, rfl, q bs _ lbs n2 hn1⟩
end
end K26
set_option Elab.async false
set_option linter.all false
set_option maxRecDepth 100000
set_option maxHeartbeats 4000000
/-! _are_values -/
namespace K26
open K34 PySem PySem.Spec PyProof.Rows L2
def vD : PyData → V
  | .int i => .int i | .str s => .str s | _ => .non
def numD : PyData → Bool
  | .int _ => true | _ => false
def wrdD : PyData → Bool
  | .str _ => true | _ => false
def keysD (ds : List PyData) : List (Option Key) := (ds.map vD).map keyF
def cntD (ds : List PyData) : Bool := decide (SetG.cnt (keysD ds) (keysD ds).length = ds.length)
def valsD (ds : List PyData) : Bool := (decide (1 ≤ ds.length) && decide (ds.length ≤ 8)) && (ds.all valD && (cntD ds && !(ds.any numD && ds.any wrdD)))
/-- values with what they are -/
structure ThL (K : PySem.W.Frag) (H : Hp) (xs : List V) (ds : List PyData) : Prop where
  l : xs.length = ds.length
  t : ∀ (i : Nat) (x : V) (d : PyData), xs[i]? = some x → ds[i]? = some d → Th K H x d ∧ sOk d = true
theorem ThL.same {K : PySem.W.Frag} {H H' : Hp} {xs : List V} {ds : List PyData} (h : ThL K H xs ds) (s : Same H H') : ThL K H' xs ds := ⟨h.l, fun i x d e1 e2 => ⟨(h.t i x d e1 e2).1.same s, (h.t i x d e1 e2).2⟩⟩
theorem th_val {K : PySem.W.Frag} {H : Hp} {v : V} {d : PyData} (t : Th K H v d) (h : valD d = true) : v = vD d ∧ FlV v = true := by
  cases d with
  | none => cases th_none t; exact ⟨rfl, rfl⟩
  | int i => cases th_int t; exact ⟨rfl, rfl⟩
  | str s => cases th_str t; exact ⟨rfl, rfl⟩
  | bool b => exact Bool.noConfusion (show false = true from h)
  | list b => exact Bool.noConfusion (show false = true from h)
  | tuple b => exact Bool.noConfusion (show false = true from h)
  | dict b => exact Bool.noConfusion (show false = true from h)
theorem ThL.vals {K : PySem.W.Frag} {H : Hp} {xs : List V} {ds : List PyData} (h : ThL K H xs ds) (a : ds.all valD = true) : xs = ds.map vD ∧ ∀ v ∈ xs, FlV v = true := by
  have al := List.all_eq_true.mp a
  have ex : xs = ds.map vD := by
    refine List.ext_getElem (by rw [List.length_map, h.l]) fun i k1 k2 => ?_
    have ld : i < ds.length := by have := h.l; omega
    rw [List.getElem_map]
    exact (th_val (h.t i _ _ (List.getElem?_eq_getElem k1) (List.getElem?_eq_getElem ld)).1 (al _ (List.getElem_mem ld))).1
  refine ⟨ex, fun v hv => ?_⟩
  rw [ex] at hv
  obtain ⟨d, hd, rfl⟩ := List.mem_map.mp hv
  cases d <;> rfl
def spAreVals (K : PySem.W.Frag) : Sp := fun vs H Q _ => ∃ (a : Addr) (xs : List V) (ds : List PyData), vs = [.ref a] ∧ SqT K H a xs ∧ ThL K H xs ds ∧ ds.length ≤ 100 ∧ ∀ H', Same H H' → Q (.bl (valsD ds)) H'
theorem scAreVals : FnScope ["values", "kinds", "value"] ["values"] (defScope sAreValues) := ⟨rfl, rfl, rfl, by decide +kernel, rfl, by decide +kernel, by decide +kernel⟩
theorem kinds_in (ds : List PyData) (h : ds.all valD = true) : inV (.str "number") ((ds.map vD).map kindV) = ds.any numD ∧ inV (.str "word") ((ds.map vD).map kindV) = ds.any wrdD := by
  have e1 : (("word" : Str) == "number") = false := by decide +kernel
  have e2 : (("number" : Str) == "word") = false := by decide +kernel
  induction ds with
  | nil => exact ⟨rfl, rfl⟩
  | cons d ds ih =>
    rw [List.all_cons, Bool.and_eq_true] at h
    obtain ⟨i1, i2⟩ := ih h.2
    unfold inV at *
    rw [List.map_cons, List.map_cons, List.any_cons, List.any_cons, List.any_cons, List.any_cons, i1, i2]
    cases d with
    | none => exact ⟨rfl, rfl⟩
    | int i => exact ⟨by show ((("number" : Str) == "number") || _) = _; rw [beq_self_eq_true]; rfl, by show ((("number" : Str) == "word") || _) = _; rw [e2]; rfl⟩
    | str i => exact ⟨by show ((("word" : Str) == "number") || _) = _; rw [e1]; rfl, by show ((("word" : Str) == "word") || _) = _; rw [beq_self_eq_true]; rfl⟩
    | bool b => exact Bool.noConfusion (show false = true from h.1)
    | list b => exact Bool.noConfusion (show false = true from h.1)
    | tuple b => exact Bool.noConfusion (show false = true from h.1)
    | dict b => exact Bool.noConfusion (show false = true from h.1)
section
variable {P : Program} {w : World} {K : PySem.W.Frag} {mg : Str → Option Value} {base : Heap} {f fV fK : Addr} {fd fdV fdK : FuncData}
theorem ok_arevals (F : FnP K "_are_values" sAreValues f fd) (T : TxP mg) (GV : FnOk P w K mg base CX0 2 fV fdV ["value"] (spIsV K)) (gV : mg "_is_value" = some (.ref fV)) (kV : PySem.W.keepIn K (.ref fV) = true) (bV : Binds K fdV ["value"] [])
    (FK : FnP K "kind_of" sKindOf fK fdK) (gK : mg "kind_of" = some (.ref fK)) : FnOk P w K mg base CX0 3 f fd ["values"] (spAreVals K) := by
  have GK : FnOk P w K mg base CX0 1 fK fdK ["value"] spKind := ok_kind FK T
  have bK : Binds K fdK ["value"] [] := FK.bindsN fun _ _ _ _ _ _ us hl => match us, hl with | [_], _ => rfl
  have kK := FK.kp
  refine F.ok scAreVals (fun vs H Q E h => ?_) (fun cdv A outer s H vs Q E hr h => ?_)
  · obtain ⟨a, xs, ds, rfl, _⟩ := h
    rfl
  · obtain ⟨a, xs, ds, rfl, hs, tl, l100, k⟩ := h
    have nd := scAreVals.nd
    obtain ⟨t3, g3⟩ := T.maxV
    refine ⟨_, PSs.nox (pss_cons (ps_if (PW.pt (pw_or (pt_not (pt_chain op_le op_le pe_int (pe_callB call_len_seq (by rfl) T.len PySem.boot_len (pa_cons (pv 0) pa_nil)) (pe_glob (v := .int 8) rfl g3 ⟨_, rfl⟩))) (pw_or1 (pt_not (pt_val (pe_callB (cr_all rfl) (by rfl) T.all (by decide +kernel) (pa_cons (pe_lc (own := [("value", 2)]) (g := gName 2) (tt := tYes) rfl nd (pi_tup (pv 0)) (blkOk_by (N := ["values", "kinds", "value"]) (sc := defScope sAreValues) (by decide +kernel)) (fun _ _ _ _ _ => pg_name (i := 2) nd rfl (Or.inl rfl)) (fun _ _ _ _ _ => pts_nil)
          (fun _ _ _ _ _ => pe_call GV hr rfl gV kV bV .nil pass0 (pa_cons (pv 2) pa_nil))) pa_nil))))))) (pss_one (ps_ret pe_bl)) pss_nil)
      (pss_cons (ps_setLc (i := 1) (own := [("value", 2)]) (g := gName 2) (tt := tYes) rfl nd rfl rfl (sw_true rfl rfl rfl (by decide +kernel)) (pi_tup (pv 0)) (blkOk_by (N := ["values", "kinds", "value"]) (sc := defScope sAreValues) (by decide +kernel)) (fun _ _ _ _ _ => pg_name (i := 2) nd rfl (Or.inl rfl)) (fun _ _ _ _ _ => pts_nil)
          (fun _ _ _ _ _ => pe_call GK (hr.mono (by decide)) rfl gK kK bK .nil pass0 (pa_cons (pv 2) pa_nil)))
      (pss_one (ps_ret (pe_and (pe_cmpR op_eq (pe_callB cr_lenN (by rfl) T.len PySem.boot_len (pa_cons (pe_callTy (cr_setF rfl) (by rfl) T.set (by decide +kernel) (pa_cons (pv 0) pa_nil)) pa_nil)) (pe_callB call_len_seq (by rfl) T.len PySem.boot_len (pa_cons (pv 0) pa_nil)) (nomark _)) (pe_one (pe_not (pe_and (pe_cmpR (op_inK rfl) pe_str (pv 1) (by rfl)) (pe_one (pe_cmpR (op_inK rfl) pe_str (pv 1) (by rfl))))))))))), ?_⟩
    have lx := tl.l
    have no : valsD ds = false → ∀ {H'}, Same H H' → Q (.bl false) H' := fun e {H'} s' => by
      have kk := k H' s'
      rw [e] at kk
      exact kk
    refine ⟨_, rfl, a, xs, rfl, .inr hs, _, _, rfl, rfl, _, rfl, ?_⟩
    by_cases h1 : 1 ≤ ds.length
    · refine itT (decide_eq_true (show (1 : Int) ≤ (xs.length : Int) by omega)) ?_
      refine ⟨_, _, rfl, rfl, _, rfl, ?_⟩
      by_cases h2 : ds.length ≤ 8
      · refine itF (by rw [decide_eq_true (show (xs.length : Int) ≤ 8 by omega)]; rfl) ?_
        refine ⟨_, rfl, a, rfl, ⟨xs, hs⟩, fun D hD => ?_⟩
        have hD : H D = none := hD
        have e0 : valsD ds = (ds.all valD && (cntD ds && !(ds.any numD && ds.any wrdD))) := by
          unfold valsD
          rw [decide_eq_true h1, decide_eq_true h2]
          rfl
        refine lc_it (walk_tup (K := K) (a := a) (xs := xs)) (fun i H6 => H6 D = some (.lst (((ds.take i).map valD).map V.bl)) ∧ Same H H6) ⟨upd_same, same_new (Same.refl H) hD⟩ (fun i H3 _ y => sqT_same hs y.2) ?_ ?_
        · rintro i x H6 H7 hi ⟨y1, y2⟩ ⟨rfl, hx⟩
          have hi : i < xs.length := hi
          have ld : i < ds.length := by omega
          have hd : ds[i]? = some ds[i] := List.getElem?_eq_getElem ld
          obtain ⟨t, sk⟩ := tl.t i x _ hx hd
          refine ⟨rfl, ?_⟩
          unfold tYes
          dsimp only
          refine iteT ?_
          refine ⟨_, rfl, x, ds[i], rfl, t.same y2, sk, fun H8 s8 => ?_⟩
          have z := push_ok (A := fun i => ((ds.take i).map valD).map V.bl) (i := i) (y := V.bl (valD ds[i])) hD (s8 _ _ y1) (y2.trans s8) (by rw [List.map_map, List.map_map]; exact take_map (f := V.bl ∘ valD) hd) (by simp only [List.length_map, List.length_take]; omega)
          exact z
        · rintro H6 ⟨y1, y2⟩
          rw [lx, List.take_length] at y1
          refine ⟨D, ds.map valD, rfl, SqL.of y1, _, rfl, ?_⟩
          rw [List.all_map]
          have eall : (ds.all (id ∘ valD)) = ds.all valD := rfl
          cases ha : ds.all valD with
          | false =>
            refine itT (by show (!(ds.all (id ∘ valD))) = true; rw [eall, ha]; rfl) ?_
            exact no (by rw [e0, ha]; rfl) y2
          | true =>
            refine itF (by show (!(ds.all (id ∘ valD))) = false; rw [eall, ha]; rfl) ?_
            obtain ⟨ex, fl⟩ := tl.vals ha
            have hs6 := sqT_same hs y2
            refine ⟨_, rfl, a, rfl, ⟨xs, hs6⟩, fun D2 hD2 => ?_⟩
            have hD2 : H6 D2 = none := hD2
            refine lc_it (walk_tup (K := K) (a := a) (xs := xs)) (fun i H7 => H7 D2 = some (.lst ((xs.take i).map kindV)) ∧ Same H6 H7) ⟨upd_same, same_new (Same.refl H6) hD2⟩ (fun i H3 _ y => sqT_same hs6 y.2) ?_ ?_
            · rintro i x H7 H8 hi ⟨y3, y4⟩ ⟨rfl, hx⟩
              have hi : i < xs.length := hi
              have hx : xs[i]? = some x := hx
              refine ⟨rfl, ?_⟩
              unfold tYes
              dsimp only
              refine iteT ?_
              refine ⟨_, rfl, x, rfl, fl x (List.mem_of_getElem? hx), ?_⟩
              have z := push_ok (A := fun i => (xs.take i).map kindV) (i := i) (y := kindV x) hD2 y3 y4 (take_map hx) (by simp only [List.length_map, List.length_take]; omega)
              exact z
            · rintro H7 ⟨y3, y4⟩
              rw [List.take_length] at y3
              have hs7 := sqT_same hs6 y4
              have s07 := y2.trans y4
              refine ⟨_, rfl, a, xs, rfl, .inr hs7, fl, by omega, fun p hp => ?_⟩
              have s8 := same_new (o := SetN P w p (xs.map keyF)) s07 hp
              refine ⟨p, xs.map keyF, rfl, upd_same, by rw [List.length_map]; omega, ?_⟩
              refine ⟨_, rfl, a, xs, rfl, .inr (sqT_same hs7 (same_new (Same.refl H7) hp)), rfl, _, rfl, ?_⟩
              have eK : xs.map keyF = keysD ds := by rw [ex]; rfl
              have ec : decide (V.int (SetG.cnt (xs.map keyF) (xs.map keyF).length : Nat) = V.int (xs.length : Nat)) = cntD ds := by
                rw [eK, lx]
                unfold cntD
                rw [Bool.eq_iff_iff]
                simp only [decide_eq_true_eq]
                exact ⟨fun z => by have := V.int.inj z; omega, fun z => by rw [z]⟩
              rw [ec]
              obtain ⟨kn, kw⟩ := kinds_in ds ha
              have yk : (upd H7 p (SetN P w p (xs.map keyF))) D2 = some (.lst ((ds.map vD).map kindV)) := by
                rw [← ex, upd_ne (ne_of_none y3 hp)]
                exact y3
              have fk : ((ds.map vD).map kindV).all flatV = true := by
                refine List.all_eq_true.mpr fun v hv => ?_
                obtain ⟨u, hu, rfl⟩ := List.mem_map.mp hv
                cases u <;> rfl
              cases hc : cntD ds with
              | false =>
                refine iteF ?_
                exact no (by rw [e0, ha, hc]; rfl) s8
              | true =>
                refine iteT ?_
                refine ⟨_, rfl, D2, _, rfl, .inl (SqL.of yk), rfl, fk, _, rfl, ?_⟩
                show if inV (.str "number") ((ds.map vD).map kindV) = true then _ else _
                rw [kn]
                have kk := k _ s8
                rw [e0, ha, hc] at kk
                cases h3 : ds.any numD with
                | false =>
                  refine iteF ?_
                  refine ⟨_, rfl, ?_⟩
                  rw [h3] at kk
                  exact kk
                | true =>
                  refine iteT ?_
                  refine ⟨_, rfl, D2, _, rfl, .inl (SqL.of yk), rfl, fk, ?_⟩
                  show ∃ c, V.bl (inV (.str "word") ((ds.map vD).map kindV)) = .bl c ∧ _
                  rw [kw]
                  refine ⟨_, rfl, ?_⟩
                  rw [h3] at kk
                  exact kk
      · refine itT (by rw [decide_eq_false (show ¬ (xs.length : Int) ≤ 8 by omega)]; rfl) ?_
        refine iteT ?_
        exact no (by unfold valsD; rw [decide_eq_false h2, Bool.and_false, Bool.false_and]) (Same.refl H)
    · refine itF (decide_eq_false (show ¬ (1 : Int) ≤ (xs.length : Int) by omega)) ?_
      refine ⟨false, rfl, ?_⟩
      dsimp only
      refine iteT ?_
      refine iteT ?_
      exact no (by unfold valsD; rw [decide_eq_false h1, Bool.false_and, Bool.false_and]) (Same.refl H)
end
end K26
set_option Elab.async false
set_option linter.all false
set_option maxRecDepth 100000
set_option maxHeartbeats 4000000
/-! == and != by an own __eq__: both answers -/
namespace K26S
open PySem PySem.Spec PySem.Calls PyProof.Rows PySem.W
section
variable {prog : Program} {w : World} {A : Around} {E : Value → Shared → Prop} {s : Shared} {K : Frag} {x C f : Addr} {ox : Obj} {od : Option Obj} {name : Str} {b tb : Value}
theorem ifBound_B {M : Model} {id : String} {args : List Value} {Q : Option Value → Shared → Prop} (X : K.In s.heap) (I : InstAt s.heap x ox C od) (hs : findIn K (.ref C) name = some (some (.builtin id))) (S : Slot "object" name id)
    (h : wpAny M A (call (.builtin id) (.ref x :: args)) (fun v => Q (some v)) E s) : wpAny M A (callSpecialIfBound? (.ref x) name args) Q E s := by
  simp only [callSpecialIfBound?, bindSpecialIfBound?]
  refine wpAny_holding (wpAny_bind (wpAny_bind (wpAny_bind (I.type.here ((looks_findIn X hs).here ?_)))))
  simp only [S.bind]
  refine wpAny_bind (wpAny_askSetting (wpAny_ite ?_))
  have fin : wpAny M A (call (.builtin id) ([.ref x] ++ args) >>= fun v => pure (some v)) Q E s := wpAny_bind (wpAny_mono h (fun v s' h' => wpAny_pure h') fun _ _ h' => h')
  split
  · exact wpAny_bind (wpAny_pure (wpAny_pure (by exact fin)))
  · exact wpAny_tryCatch (wpAny_bind (wpAny_pure (wpAny_pure (by exact fin))))
theorem objNe_K (X : K.In s.heap) (I : InstAt s.heap x ox C od) (hs : findIn K (.ref C) "__eq__" = some (some (.ref f))) (hf : isFn K (.ref f) = true) (hu : A.units < cLine) {Q : Fin → Shared → Prop}
    (hcall : wpAny (model prog w) A (call (.ref f) [.ref x, b]) (fun v s' => ∃ r, v = .bool r ∧ Q (.done (.ret (.bool (!r)))) s') E s) :
    wpAny (model prog w) A (Builtin.«object.__ne__» ⟨[.ref x, b], []⟩) Q E s := by
  obtain ⟨hp, g, d, t, os⟩ := s
  unfold Builtin.«object.__ne__»
  repeat (first
    | with_reducible refine wpAny_cRoomFor hu ?_
    | (refine wpAny_bind (m := callSpecialIfBound? (.ref x) (Str.ofString "__eq__") [b])
        (ifBound_K X I hs hf (wpAny_mono hcall (fun r s' hr => by
          obtain ⟨b, rfl, hq⟩ := hr
          repeat (first | exact hq | exact wpAny_pure hq | exact wpAny_truthy_bool hq | (refine wpAny_bind (m := truthy (.bool _)) (wpAny_truthy_bool ?_)) | wp_step)) fun _ _ e => e)))
    | wp_step)
theorem ne_K {Q : Value → Shared → Prop} (X : K.In s.heap) (I : InstAt s.heap x ox C od) (hb : Looks (model prog w) s.heap (typeOf b) tb) (hn : notFirst K C tb = true)
    (hne : findIn K (.ref C) "__ne__" = some (some (.builtin "object.__ne__"))) (hm : mroIn K C (.type "object") = some true) (hs : findIn K (.ref C) "__eq__" = some (some (.ref f))) (hf : isFn K (.ref f) = true)
    (hu : A.units < cLine) (hu1 : A.in1.units < cLine) (h : wpAny (model prog w) A.in1 (call (.ref f) [.ref x, b]) (fun v s' => ∃ r, v = .bool r ∧ Q (.bool (!r)) s') E s) : wpAny (model prog w) A (richCompare .NotEq (.ref x) b) Q E s := by
  have one : wpAny (model prog w) A (tryCompare (.ref x) (cmpInfo .NotEq).2.1 b) (fun r s' => ∃ v, r = some v ∧ Q v s') E s := by
    unfold tryCompare
    refine wpAny_bind (ifBound_B (id := "object.__ne__") X I hne F.cmp_object.ne (wpAny_call (codeAny_call_builtin F.cmp_object.ne.plain F.cmpEntry_ne
      (check_slot (owner := "object") (n := "__ne__") (rest := [b]) (kw := []) F.cmpKind_ne F.cmpSplit_ne (I.type.andThen (looks_subIn X hm)) (F.cmpArgs_ne _ _) (objNe_K X I hs hf hu1 (wpAny_mono h (fun v s' hv => ?_) fun _ _ e => e))))))
    obtain ⟨r, rfl, hq⟩ := hv
    first
      | exact ⟨r, rfl, wpAny_pure ⟨_, rfl, hq⟩⟩
      | exact ⟨r, rfl, wpAny_pure (wpAny_pure ⟨_, rfl, hq⟩)⟩
      | exact ⟨r, rfl, ⟨_, rfl, hq⟩⟩
  unfold richCompare
  simp only [oneThing_ref]
  refine wpAny_holding (wpAny_bind (wpAny_cRoomFor hu ?_))
  refine wpAny_bind (I.type.here (wpAny_bind (hb.here ?_)))
  split
  · rename_i q
    have e : subIn K tb (.ref C) = some false := by
      rcases Bool.or_eq_true_iff.mp hn with e | e
      · rw [beq_iff_eq.mp e] at q; simp at q
      · exact beq_iff_eq.mp e
    refine wpAny_bind ((looks_subIn X e).here ?_)
    simp only [Bool.false_eq_true, if_false]
    refine wpAny_bind (wpAny_mono one (fun r s' z => ?_) fun _ _ e => e)
    obtain ⟨v, rfl, hq⟩ := z
    exact wpAny_pure hq
  · refine wpAny_bind (wpAny_pure ?_)
    simp only [Bool.false_eq_true, if_false]
    refine wpAny_bind (wpAny_mono one (fun r s' z => ?_) fun _ _ e => e)
    obtain ⟨v, rfl, hq⟩ := z
    exact wpAny_pure hq
end
end K26S
namespace K26
open K34 PySem PySem.Spec PyProof.Rows L2
theorem cx_new {P : Program} {w : World} : CXNew (L2.CX P w) := by
  rintro outer s H h2 p rest E e s' kp hp hn ⟨a, B, H', cls, d, rfl, fl, ok, u, na, os, ag, q⟩
  have np : ∀ {b : Addr} {o : Obj}, s.heap.get? b = some o → b ≠ p := fun {b o} z => Nat.ne_of_lt (Nat.lt_of_lt_of_le (Heap.lt_size z) hp)
  have up : ∀ {b : Addr}, b ≠ p → upd H p (.tup rest) b = H b := fun z => upd_ne z
  have nn : ∀ {b : Addr} {o : HO}, H b = some o → b ≠ p := fun z => ne_of_none z hn
  exact ⟨a, B, H', cls, d, rfl, fl, ok,
    { keep := fun b o z n f => u.keep b o (kp b o z) ((up (np z)).trans n) f
      slot := fun b o z f => u.slot b o (kp b o z) f
      free := fun b o z n => u.free b o (kp b o z) ((up (np z)).trans n)
      there := fun b o z f => u.there b o (kp b o z) f
      tups := fun b l z => u.tups b l ((up (nn z)).trans z)
      frzs := fun b o v z => u.frzs b o v ((up (nn z)).trans z)
      tbls := fun b l z => u.tbls b l ((up (nn z)).trans z) }, na, os, ag, q⟩
def Rz0 (C : Addr) (H : Hp) (E : XK) : Prop := ∀ H', Same H H' → E (.ref C) none H'
def spNo : Sp := fun vs H Q _ => ∃ a : Addr, vs = [.ref a] ∧ Q .non H
section
variable {X : Cx} {CX : CXT} {C f : Addr} {fd : FuncData} {k : Nat} {ps : List Str} {sp : Sp} {pins : List (Addr × Obj)} {σ : L2.St} {H : Hp} {s : Shared}
theorem env_in1 {A : Around} (I : Inv X pins σ H s) (hf : A.frames = X.A.frames) : Env0 X.prog X.w X.K X.mg X.base A X.stack s H := by
  have e := I.env0
  exact ⟨by rw [hf]; exact e.frames, e.mod, e.bs, e.bsz, e.funs, e.frf, e.hok, e.bare⟩
/-- the method at f, called somewhere below -/
theorem own_call {E : XK} (F : FnOk X.prog X.w X.K X.mg X.base CX k f fd ps sp) (hb : Binds X.K fd ps []) (hx : Passes CX X E) {A : Around} (hr : Room k A) (hf : A.frames = X.A.frames) (I : Inv X pins σ H s) {us : List Value} {vs : List V} (r : Vals vs us) {Q : VK} (h : sp vs H Q E)
    {R : Value → Shared → Prop} (q : ∀ z u H' s', Inv X pins σ H' s' → RelV z u → Q z H' → R u s') : wpAny (model X.prog X.w) A (call (.ref f) us) R X.xe s := by
  have hl := F.len _ _ _ _ h
  refine wpAny_call (codeAny_mono (F.run A X.stack s H ⟨us, []⟩ us vs Q E hr (env_in1 I hf) (by
    have z := hb s us I.kIn (by rw [List.append_nil, ← r.length]; exact hl)
    rw [List.append_nil] at z
    exact z) r h) fun r' s' hq => ?_)
  cases r' with
  | error e => exact hx pins σ H s e s' I hq
  | ok fl =>
    cases fl with
    | ret u =>
      obtain ⟨z, H', I', rz, ez⟩ := I.after hq
      exact q z u H' s' I' rz ez
    | next => exact False.elim hq
    | brk => exact False.elim hq
    | cont => exact False.elim hq
/-- o == x, o != x: the answer of the own __eq__, turned by g -/
def rEqO (K : PySem.W.Frag) (C : Addr) (sp : Sp) (g : Bool → Bool) : R2 := fun x y H Q => ∃ (a dx : Addr) (fs : List (Str × V)) (t : Value), x = .ref a ∧ H a = some (.ins C dx fs) ∧ TyX K H y t ∧ PySem.W.notFirst K C t = true ∧ sp [.ref a, y] H (fun z H' => ∃ r, z = .bl r ∧ Q (.bl (g r)) H') E0
theorem op_eqO (F : FnOk X.prog X.w X.K X.mg X.base CX0 k f fd ps sp) (hb : Binds X.K fd ps []) (hr : Room k X.A) (hs : PySem.W.findIn X.K (.ref C) "__eq__" = some (some (.ref f))) (hf : PySem.W.isFn X.K (.ref f) = true) : OpR X (compareOp .Eq) (rEqO X.K C sp id) := by
  intro pins s σ H x y v u Q I rx ry hq
  obtain ⟨a, dx, fs, t, rfl, ha, ty, nf, h⟩ := hq
  cases rx
  show wpAny (model X.prog X.w) X.A (richCompare .Eq (.ref a) u) (EP X pins σ Q) X.xe s
  obtain ⟨mA, J, _⟩ := ins_get I.hok ha
  obtain ⟨od, J, _⟩ := J.look
  obtain ⟨m, hF⟩ := I.fr
  obtain ⟨P, Z, p, _⟩ := kit_of I ry ty
  refine PySem.W.cmp_K (op := .Eq) (tb := t) hr.units0 hF I.ok.mod.kin J (Z.ty _ _ I.kIn p) nf hs hf (own_call F hb pass0 hr rfl I (vs := [.ref a, y]) (.cons rfl (.cons ry .nil)) h fun z u H' s' I' rz q => ?_)
  obtain ⟨r, rfl, q⟩ := q
  cases rz
  exact ⟨.bl r, H', I', rfl, q⟩
theorem op_neO (F : FnOk X.prog X.w X.K X.mg X.base CX0 k f fd ps sp) (hb : Binds X.K fd ps []) (hr : Room (k + 1) X.A) (hs : PySem.W.findIn X.K (.ref C) "__eq__" = some (some (.ref f))) (hf : PySem.W.isFn X.K (.ref f) = true)
    (hne : PySem.W.findIn X.K (.ref C) "__ne__" = some (some (.builtin "object.__ne__"))) (hm : PySem.W.mroIn X.K C (.type "object") = some true) : OpR X (compareOp .NotEq) (rEqO X.K C sp not) := by
  intro pins s σ H x y v u Q I rx ry hq
  obtain ⟨a, dx, fs, t, rfl, ha, ty, nf, h⟩ := hq
  cases rx
  show wpAny (model X.prog X.w) X.A (richCompare .NotEq (.ref a) u) (EP X pins σ Q) X.xe s
  obtain ⟨mA, J, _⟩ := ins_get I.hok ha
  obtain ⟨od, J, _⟩ := J.look
  obtain ⟨P, Z, p, _⟩ := kit_of I ry ty
  refine K26S.ne_K I.kIn J (Z.ty _ _ I.kIn p) nf hne hm hs hf hr.units0 hr.in1.units0 (own_call F hb pass0 hr.in1 rfl I (vs := [.ref a, y]) (.cons rfl (.cons ry .nil)) h fun z u H' s' I' rz q => ?_)
  obtain ⟨r, rfl, q⟩ := q
  cases rz
  exact ⟨r, rfl, .bl (!r), H', I', rfl, q⟩
end
theorem sub_ref {K : PySem.W.Frag} {C : Addr} (d : PyData) : PySem.W.subIn K (.type (tyName d)) (.ref C) = some false := by
  have go : ∀ (t : String) (l : List String), fastBuiltinMro t = some (l.map Value.type) → PySem.W.subIn K (.type t) (.ref C) = some false := fun t l e => by
    show (fastBuiltinMro t).map (·.contains (.ref C)) = some false
    rw [e]
    show some ((l.map Value.type).contains (.ref C)) = some false
    refine congrArg some ?_
    clear e
    induction l with
    | nil => rfl
    | cons y r ih =>
      rw [List.map_cons, List.contains_cons, ih]
      rfl
  cases d with
  | none => exact go "NoneType" ["NoneType", "object"] (by decide +kernel)
  | bool _ => exact go "bool" ["bool", "int", "object"] (by decide +kernel)
  | int _ => exact go "int" ["int", "object"] (by decide +kernel)
  | str _ => exact go "str" ["str", "object"] (by decide +kernel)
  | list _ => exact go "list" ["list", "object"] (by decide +kernel)
  | tuple _ => exact go "tuple" ["tuple", "object"] (by decide +kernel)
  | dict _ => exact go "dict" ["dict", "object"] (by decide +kernel)
/-- the facts of an own class -/
structure KC (K : PySem.W.Frag) (mg : Str → Option Value) (c : Str) : Prop where
  g : mg c = some (.ref (He.ga K c))
  cl : Cls K (He.ga K c)
  cC : (PySem.W.clsIn K (He.ga K c)).isSome = true
  tC : PySem.W.typeIn K (.ref (He.ga K c)) = some (.type "type")
  ha : PySem.W.findIn K (.ref (He.ga K c)) "__class__" = some (some (.builtin "object.__class__"))
  hn : PySem.W.specialIn K (.builtin "object.__class__") "__get__" = some (some (.builtin "getset_descriptor.__get__"))
  ht : PySem.W.takesIn K (.builtin "object.__class__") = some true
  hm : PySem.W.mroIn K (He.ga K c) (.type "object") = some true
  ne : PySem.W.findIn K (.ref (He.ga K c)) "__ne__" = some (some (.builtin "object.__ne__"))
section
variable {K : PySem.W.Frag} {mg : Str → Option Value} {c c' : Str}
theorem KC.ty (T : KC K mg c) {H : Hp} {a dx : Addr} {fs : List (Str × V)} (h : H a = some (.ins (He.ga K c) dx fs)) : TyX K H (.ref a) (.ref (He.ga K c)) := .base (.ins h T.cl T.ha T.hn T.ht T.hm)
theorem KC.self (T : KC K mg c) : PySem.W.kitOne K (.ref (He.ga K c)) (.ref (He.ga K c)) = some true := by
  unfold PySem.W.kitOne
  rw [if_pos (beq_self_eq_true _)]
theorem KC.sub (T' : KC K mg c') {C : Addr} {b : Bool} (h : PySem.W.mroIn K C (.ref (He.ga K c')) = some b) : PySem.W.kitOne K (.ref C) (.ref (He.ga K c')) = some b ∨ C = He.ga K c' := by
  by_cases e : C = He.ga K c'
  · exact .inr e
  · refine .inl ?_
    unfold PySem.W.kitOne
    rw [if_neg (by intro z; exact e (Value.ref.inj (beq_iff_eq.mp z)))]
    show (if ((PySem.W.clsIn K (He.ga K c')).isSome && PySem.W.typeIn K (.ref (He.ga K c')) == some (.type "type")) = true then PySem.W.subIn K (.ref C) (.ref (He.ga K c')) else none) = some b
    rw [if_pos (by rw [T'.cC, T'.tC]; rfl)]
    exact h
theorem KC.other (T : KC K mg c) (d : PyData) : PySem.W.kitOne K (.type (tyName d)) (.ref (He.ga K c)) = some false := by
  unfold PySem.W.kitOne
  rw [if_neg (by intro z; exact nomatch (beq_iff_eq.mp z))]
  show (if ((PySem.W.clsIn K (He.ga K c)).isSome && PySem.W.typeIn K (.ref (He.ga K c)) == some (.type "type")) = true then PySem.W.subIn K (.type (tyName d)) (.ref (He.ga K c)) else none) = some false
  rw [if_pos (by rw [T.cC, T.tC]; rfl)]
  exact sub_ref d
theorem first_self (C : Addr) : PySem.W.notFirst K C (.ref C) = true := by
  unfold PySem.W.notFirst
  rw [beq_self_eq_true, Bool.true_or]
theorem first_data (C : Addr) (d : PyData) : PySem.W.notFirst K C (.type (tyName d)) = true := by
  unfold PySem.W.notFirst
  rw [sub_ref d, Bool.or_eq_true]
  exact .inr rfl
theorem first_off {C C' : Addr} (h : PySem.W.mroIn K C' (.ref C) = some false) : PySem.W.notFirst K C (.ref C') = true := by
  unfold PySem.W.notFirst
  have e : PySem.W.subIn K (.ref C') (.ref C) = some false := h
  rw [e, Bool.or_eq_true]
  exact .inr rfl
end
end K26
set_option Elab.async false
set_option linter.all false
set_option maxRecDepth 100000
set_option maxHeartbeats 4000000
/-! InvalidBound, Range, Rest, Default: made, compared -/
namespace K26
open K34 PySem PySem.Spec PyProof.Rows L2
theorem scEB : FnScope ["self"] ["self"] (defScope sEB) := ⟨rfl, rfl, rfl, by decide +kernel, rfl, by decide +kernel, by decide +kernel⟩
theorem scRInit : FnScope ["self", "low", "high"] ["self", "low", "high"] (defScope sRInit) := ⟨rfl, rfl, rfl, by decide +kernel, rfl, by decide +kernel, by decide +kernel⟩
theorem scREq : FnScope ["self", "other"] ["self", "other"] (defScope sREq) := ⟨rfl, rfl, rfl, by decide +kernel, rfl, by decide +kernel, by decide +kernel⟩
theorem scTInit : FnScope ["self", "modulus", "remainder"] ["self", "modulus", "remainder"] (defScope sTInit) := ⟨rfl, rfl, rfl, by decide +kernel, rfl, by decide +kernel, by decide +kernel⟩
theorem scTEq : FnScope ["self", "other"] ["self", "other"] (defScope sTEq) := ⟨rfl, rfl, rfl, by decide +kernel, rfl, by decide +kernel, by decide +kernel⟩
theorem scVEq : FnScope ["self", "other"] ["self", "other"] (defScope sVEq) := ⟨rfl, rfl, rfl, by decide +kernel, rfl, by decide +kernel, by decide +kernel⟩
theorem scDEq : FnScope ["self", "other"] ["self", "other"] (defScope sDEq) := ⟨rfl, rfl, rfl, by decide +kernel, rfl, by decide +kernel, by decide +kernel⟩
/-- a Range at a -/
structure RgAt (K : PySem.W.Frag) (H : Hp) (a : Addr) (es fs : List En) : Prop where
  h : ∃ dx p q, H a = some (.ins (He.ga K "Range") dx [("_low", .ref p), ("_high", .ref q)]) ∧ SqT K H p (es.map enV) ∧ SqT K H q (fs.map enV)
  oe : es.all enOk = true
  of : fs.all enOk = true
/-- a Values at a -/
structure VlAt (K : PySem.W.Frag) (H : Hp) (a : Addr) (es : List V) : Prop where
  h : ∃ dx p, H a = some (.ins (He.ga K "Values") dx [("_entries", .ref p)]) ∧ SqL K H p es
  f : es.all flatV = true
/-- a Rest at a -/
def RsAt (K : PySem.W.Frag) (H : Hp) (a : Addr) (m r : Int) : Prop := ∃ dx, H a = some (.ins (He.ga K "Rest") dx [("_modulus", .int m), ("_remainder", .int r)])
def DfAt (K : PySem.W.Frag) (H : Hp) (a : Addr) : Prop := ∃ dx, H a = some (.ins (He.ga K "Default") dx [])
section
variable {K : PySem.W.Frag} {H H' : Hp} {a p c : Addr} {es fs : List En} {vs : List V} {m r t l : Int}
theorem sqL_same {o : Addr} {xs : List V} (h : SqL K H o xs) (s : Same H H') : SqL K H' o xs := Same.seq s h
theorem RgAt.same (h : RgAt K H a es fs) (s : Same H H') : RgAt K H' a es fs := by
  obtain ⟨⟨dx, p, q, h1, h2, h3⟩, h4, h5⟩ := h
  exact ⟨⟨dx, p, q, s _ _ h1, sqT_same h2 s, sqT_same h3 s⟩, h4, h5⟩
theorem RgAt.but (h : RgAt K H a es fs) (hp : H p = some (.dK (penK c t l))) (s : But p H H') : RgAt K H' a es fs := by
  obtain ⟨⟨dx, p, q, h1, h2, h3⟩, h4, h5⟩ := h
  exact ⟨⟨dx, p, q, s _ _ (ne_of h1 hp (by intro z; cases z)) h1, sqT_but hp s h2, sqT_but hp s h3⟩, h4, h5⟩
theorem VlAt.same (h : VlAt K H a vs) (s : Same H H') : VlAt K H' a vs := by
  obtain ⟨⟨dx, p, h1, h2⟩, h4⟩ := h
  exact ⟨⟨dx, p, s _ _ h1, sqL_same h2 s⟩, h4⟩
theorem RsAt.same (h : RsAt K H a m r) (s : Same H H') : RsAt K H' a m r := by
  obtain ⟨dx, h⟩ := h
  exact ⟨dx, s _ _ h⟩
end
/-- what == says of a Range and another thing -/
def spREq (K : PySem.W.Frag) : Sp := fun vs H Q _ => ∃ (a : Addr) (es fs : List En) (v : V), vs = [.ref a, v] ∧ RgAt K H a es fs ∧
  ((∃ t, TyX K H v t ∧ PySem.W.kitOne K t (.ref (He.ga K "Range")) = some false ∧ Q (.bl false) H) ∨ ∃ (b : Addr) (gs hs : List En), v = .ref b ∧ RgAt K H b gs hs ∧ Q (.bl (eqVs (es.map enV) (gs.map enV) && eqVs (fs.map enV) (hs.map enV))) H)
def spVEq (K : PySem.W.Frag) : Sp := fun vs H Q _ => ∃ (a : Addr) (es : List V) (v : V), vs = [.ref a, v] ∧ VlAt K H a es ∧
  ((∃ t, TyX K H v t ∧ PySem.W.kitOne K t (.ref (He.ga K "Values")) = some false ∧ Q (.bl false) H) ∨ ∃ (b : Addr) (gs : List V), v = .ref b ∧ VlAt K H b gs ∧ Q (.bl (eqVs es gs)) H)
def spTEq (K : PySem.W.Frag) : Sp := fun vs H Q _ => ∃ (a : Addr) (m r : Int) (v : V), vs = [.ref a, v] ∧ RsAt K H a m r ∧
  ((∃ t, TyX K H v t ∧ PySem.W.kitOne K t (.ref (He.ga K "Rest")) = some false ∧ Q (.bl false) H) ∨ ∃ (b : Addr) (n u : Int), v = .ref b ∧ RsAt K H b n u ∧ Q (.bl (decide (m = n) && decide (r = u))) H)
def spDEq (K : PySem.W.Frag) : Sp := fun vs H Q _ => ∃ (a : Addr) (v : V) (t : Value) (b : Bool), vs = [.ref a, v] ∧ DfAt K H a ∧ TyX K H v t ∧ PySem.W.kitOne K t (.ref (He.ga K "Default")) = some b ∧ Q (.bl b) H
def spRInit (K : PySem.W.Frag) : Sp := fun vs H Q E => ∃ (a dx : Addr) (v1 v2 : V) (d1 d2 : PyData), vs = [.ref a, v1, v2] ∧ H a = some (.ins (He.ga K "Range") dx []) ∧ Tg K H v1 d1 ∧ Tg K H v2 d2 ∧ sOkT d1 ∧ sOkT d2 ∧ (itemsD d1).length ≤ 100 ∧ (itemsD d2).length ≤ 100 ∧
  (rngD d1 d2 = false → Rz0 (He.ga K "InvalidBound") H E) ∧ (rngD d1 d2 = true → ∀ H', But a H H' → H' a = some (.ins (He.ga K "Range") dx [("_low", v1), ("_high", v2)]) → Q .non H')
def restD (d1 d2 : PyData) : Bool := match d1, d2 with
  | .int i, .int j => (isN (.int i) && isN (.int j)) && ((decide (1 < i) && decide (60 % i = 0)) && (decide (0 ≤ j) && decide (j < i)))
  | _, _ => false
def spTInit (K : PySem.W.Frag) : Sp := fun vs H Q E => ∃ (a dx : Addr) (v1 v2 : V) (d1 d2 : PyData), vs = [.ref a, v1, v2] ∧ H a = some (.ins (He.ga K "Rest") dx []) ∧ Th K H v1 d1 ∧ Th K H v2 d2 ∧
  (restD d1 d2 = false → Rz0 (He.ga K "InvalidBound") H E) ∧ (restD d1 d2 = true → ∀ H', But a H H' → H' a = some (.ins (He.ga K "Rest") dx [("_modulus", v1), ("_remainder", v2)]) → Q .non H')
section
variable {P : Program} {w : World} {K : PySem.W.Frag} {mg : Str → Option Value} {base : Heap} {f fA fN fM fR eB : Addr} {fd fdA fdN fdM fdR fdB : FuncData}
theorem ok_eB (F : FunD K "__init__" "InvalidBound.__init__" (defArgs sEB) (defBody sEB) (defScope sEB) [] [] f fd) : FnOk P w K mg base CX0 1 f fd ["self"] spNo ∧ Binds K fd ["self"] [] := by
  refine ⟨F.ok scEB (fun vs H Q E h => ?_) (fun cdv A outer s H vs Q E hr h => ⟨_, PSs.nox (pss_one ps_pass), ?_⟩), F.bindsN fun _ _ _ _ _ _ us hl => match us, hl with | [_], _ => rfl⟩
  · obtain ⟨a, rfl, _⟩ := h
    rfl
  · obtain ⟨a, rfl, q⟩ := h
    exact q
theorem raised {C b : Addr} {H H1 : Hp} {E : XK} (e : Rz0 C H E) (s1 : Same H H1) (nb : H1 b = none) : E (.ref C) none (del (upd H1 b (exo b C none)) b) := by
  refine e _ fun c o z => ?_
  have nc : c ≠ b := ne_of_none (s1 _ _ z) nb
  rw [del_ne nc, upd_ne nc]
  exact s1 _ _ z
theorem ok_rinit (F : FunD K "__init__" "Range.__init__" (defArgs sRInit) (defBody sRInit) (defScope sRInit) [] [] f fd) (T : KC K mg "Range") (nL : NoAttr K (He.ga K "Range") "_low") (nH : NoAttr K (He.ga K "Range") "_high")
    (GA : FnOk P w K mg base CX0 4 fA fdA ["low", "high"] (spAreEnds K)) (gA : mg "_are_ends" = some (.ref fA)) (kA : PySem.W.keepIn K (.ref fA) = true) (bA : Binds K fdA ["low", "high"] [])
    (MB : EM P w K mg base "InvalidBound" (He.ga K "InvalidBound") .ve eB fdB ["self"] spNo) (bB : Binds K fdB ["self"] []) : FnOk P w K mg base (L2.CX P w) 5 f fd ["self", "low", "high"] (spRInit K) := by
  refine F.ok scRInit (fun vs H Q E h => ?_) (fun cdv A outer s H vs Q E hr h => ?_)
  · obtain ⟨a, dx, v1, v2, d1, d2, rfl, _⟩ := h
    rfl
  · obtain ⟨a, dx, v1, v2, d1, d2, rfl, ha, t1, t2, o1, o2, l1, l2, e1, e2⟩ := h
    have nd := scRInit.nd
    refine ⟨_, (pss_cons (ps_if (pt_not (pt_val (pe_call GA hr rfl gA kA bA .nil pass0 (pa_cons (pv 1) (pa_cons (pv 2) pa_nil))))) (pss_one (ps_raise rfl (takes_of rfl rfl rfl rfl) (pmk_E0 MB (hr.mono (by decide)) bB rfl))) pss_nil)
      (pss_cons (ps_fld (pv 0) (pv 1) rfl) (pss_one (ps_fld (pv 0) (pv 2) rfl)))), ?_⟩
    refine ⟨_, rfl, _, rfl, v1, v2, d1, d2, rfl, t1, t2, o1, o2, l1, l2, fun H1 s1 => ⟨_, rfl, ?_⟩⟩
    cases r : rngD d1 d2 with
    | false =>
      refine iteT ?_
      exact ⟨Nat.zero_le _, fun b nb => ⟨b, rfl, rfl, .inl ⟨upd_same, raised (e1 r) s1 nb⟩⟩⟩
    | true =>
      refine iteF ?_
      refine ⟨_, rfl, _, rfl, a, _, dx, [], rfl, s1 _ _ ha, T.cl, nL, (by decide), ?_⟩
      refine ⟨_, rfl, _, rfl, a, _, dx, _, rfl, upd_same, T.cl, nH, (by show 1 < 1000; decide), ?_⟩
      refine e2 r _ (fun b o nb e => ?_) ?_
      · rw [upd_ne nb, upd_ne nb]
        exact s1 _ _ e
      · rw [upd_same]
        rfl
theorem ok_req (F : FunD K "__eq__" "Range.__eq__" (defArgs sREq) (defBody sREq) (defScope sREq) [] [] f fd) (T : KC K mg "Range") (isi : mg "isinstance" = none) (nL : NoAttr K (He.ga K "Range") "_low") (nH : NoAttr K (He.ga K "Range") "_high") : FnOk P w K mg base CX0 1 f fd ["self", "other"] (spREq K) := by
  refine F.ok scREq (fun vs H Q E h => ?_) (fun cdv A outer s H vs Q E hr h => ?_)
  · obtain ⟨a, es, fs, v, rfl, _⟩ := h
    rfl
  · obtain ⟨a, es, fs, v, rfl, sa, h⟩ := h
    refine ⟨_, PSs.nox (pss_one (ps_ret (pe_and (pe_callB call_isi (by rfl) isi (by decide +kernel) (pa_cons (pv 1) (pa_cons (pe_glob (v := .ref (He.ga K "Range")) rfl T.g rfl) pa_nil))) (pe_and (pe_cmpR (op_eqS hr.units0) (pe_fld (pv 0) rfl) (pe_fld (pv 1) rfl) (nomark _)) (pe_one (pe_cmpR (op_eqS hr.units0) (pe_fld (pv 0) rfl) (pe_fld (pv 1) rfl) (nomark _))))))), ?_⟩
    rcases h with ⟨t, ty, hk, k⟩ | ⟨b, gs, hs, rfl, sb, k⟩
    · refine ⟨_, rfl, v, .ref (He.ga K "Range"), t, _, false, rfl, .own _, ty, hk, _, rfl, ?_⟩
      exact iteF k
    · obtain ⟨⟨dy, p2, q2, hb, hb1, hb2⟩, og, oh⟩ := sb
      obtain ⟨⟨dx, p, q, ha, h1, h2⟩, oe, of_⟩ := sa
      refine ⟨_, rfl, _, .ref (He.ga K "Range"), .ref (He.ga K "Range"), _, true, rfl, .own _, T.ty hb, T.self, _, rfl, ?_⟩
      refine iteT ?_
      have fl : ∀ l : List En, (l.map enV).all flatV = true := fun l => by
        rw [List.all_map]
        exact List.all_eq_true.mpr fun e _ => flat_en e
      refine ⟨_, rfl, a, _, dx, _, _, rfl, ha, T.cl, nL, rfl, _, rfl, b, _, dy, _, _, rfl, hb, T.cl, nL, rfl, p, p2, _, _, rfl, rfl, .inl ⟨h1, hb1⟩, fl _, fl _, _, rfl, ?_⟩
      cases e : eqVs (es.map enV) (gs.map enV) with
      | false =>
        refine iteF ?_
        rw [e] at k
        exact k
      | true =>
        refine iteT ?_
        rw [e, Bool.true_and] at k
        exact ⟨_, rfl, a, _, dx, _, _, rfl, ha, T.cl, nH, rfl, _, rfl, b, _, dy, _, _, rfl, hb, T.cl, nH, rfl, q, q2, _, _, rfl, rfl, .inl ⟨h2, hb2⟩, fl _, fl _, k⟩
theorem ok_veq (F : FunD K "__eq__" "Values.__eq__" (defArgs sVEq) (defBody sVEq) (defScope sVEq) [] [] f fd) (T : KC K mg "Values") (isi : mg "isinstance" = none) (nE : NoAttr K (He.ga K "Values") "_entries") : FnOk P w K mg base CX0 1 f fd ["self", "other"] (spVEq K) := by
  refine F.ok scVEq (fun vs H Q E h => ?_) (fun cdv A outer s H vs Q E hr h => ?_)
  · obtain ⟨a, es, v, rfl, _⟩ := h
    rfl
  · obtain ⟨a, es, v, rfl, sa, h⟩ := h
    refine ⟨_, PSs.nox (pss_one (ps_ret (pe_and (pe_callB call_isi (by rfl) isi (by decide +kernel) (pa_cons (pv 1) (pa_cons (pe_glob (v := .ref (He.ga K "Values")) rfl T.g rfl) pa_nil))) (pe_one (pe_cmpR (op_eqS hr.units0) (pe_fld (pv 0) rfl) (pe_fld (pv 1) rfl) (nomark _)))))), ?_⟩
    rcases h with ⟨t, ty, hk, k⟩ | ⟨b, gs, rfl, sb, k⟩
    · refine ⟨_, rfl, v, .ref (He.ga K "Values"), t, _, false, rfl, .own _, ty, hk, _, rfl, ?_⟩
      exact iteF k
    · obtain ⟨⟨dy, p2, hb, hb1⟩, fg⟩ := sb
      obtain ⟨⟨dx, p, ha, h1⟩, fe⟩ := sa
      refine ⟨_, rfl, _, .ref (He.ga K "Values"), .ref (He.ga K "Values"), _, true, rfl, .own _, T.ty hb, T.self, _, rfl, ?_⟩
      refine iteT ?_
      exact ⟨_, rfl, a, _, dx, _, _, rfl, ha, T.cl, nE, rfl, _, rfl, b, _, dy, _, _, rfl, hb, T.cl, nE, rfl, p, p2, _, _, rfl, rfl, .inr ⟨h1, hb1⟩, fe, fg, k⟩
theorem ok_teq (F : FunD K "__eq__" "Rest.__eq__" (defArgs sTEq) (defBody sTEq) (defScope sTEq) [] [] f fd) (T : KC K mg "Rest") (isi : mg "isinstance" = none) (nM : NoAttr K (He.ga K "Rest") "_modulus") (nR : NoAttr K (He.ga K "Rest") "_remainder") : FnOk P w K mg base CX0 1 f fd ["self", "other"] (spTEq K) := by
  refine F.ok scTEq (fun vs H Q E h => ?_) (fun cdv A outer s H vs Q E hr h => ?_)
  · obtain ⟨a, es, fs, v, rfl, _⟩ := h
    rfl
  · obtain ⟨a, m, r, v, rfl, sa, h⟩ := h
    refine ⟨_, PSs.nox (pss_one (ps_ret (pe_and (pe_callB call_isi (by rfl) isi (by decide +kernel) (pa_cons (pv 1) (pa_cons (pe_glob (v := .ref (He.ga K "Rest")) rfl T.g rfl) pa_nil))) (pe_and (pe_cmpR op_eq (pe_fld (pv 0) rfl) (pe_fld (pv 1) rfl) (nomark _)) (pe_one (pe_cmpR op_eq (pe_fld (pv 0) rfl) (pe_fld (pv 1) rfl) (nomark _))))))), ?_⟩
    rcases h with ⟨t, ty, hk, k⟩ | ⟨b, n, u, rfl, sb, k⟩
    · refine ⟨_, rfl, v, .ref (He.ga K "Rest"), t, _, false, rfl, .own _, ty, hk, _, rfl, ?_⟩
      exact iteF k
    · obtain ⟨dy, hb⟩ := sb
      obtain ⟨dx, ha⟩ := sa
      refine ⟨_, rfl, _, .ref (He.ga K "Rest"), .ref (He.ga K "Rest"), _, true, rfl, .own _, T.ty hb, T.self, _, rfl, ?_⟩
      refine iteT ?_
      have ei : ∀ x y : Int, decide (V.int x = V.int y) = decide (x = y) := fun x y => by rw [Bool.eq_iff_iff]; simp
      refine ⟨_, rfl, a, _, dx, _, _, rfl, ha, T.cl, nM, rfl, _, rfl, b, _, dy, _, _, rfl, hb, T.cl, nM, rfl, rfl, _, rfl, ?_⟩
      rw [ei]
      cases e : decide (m = n) with
      | false =>
        refine iteF ?_
        rw [e] at k
        exact k
      | true =>
        refine iteT ?_
        rw [e, Bool.true_and] at k
        refine ⟨_, rfl, a, _, dx, _, _, rfl, ha, T.cl, nR, rfl, _, rfl, b, _, dy, _, _, rfl, hb, T.cl, nR, rfl, rfl, ?_⟩
        rw [ei]
        exact k
theorem ok_deq (F : FunD K "__eq__" "Default.__eq__" (defArgs sDEq) (defBody sDEq) (defScope sDEq) [] [] f fd) (T : KC K mg "Default") (isi : mg "isinstance" = none) : FnOk P w K mg base CX0 1 f fd ["self", "other"] (spDEq K) := by
  refine F.ok scDEq (fun vs H Q E h => ?_) (fun cdv A outer s H vs Q E hr h => ?_)
  · obtain ⟨a, v, t, b, rfl, _⟩ := h
    rfl
  · obtain ⟨a, v, t, b, rfl, sa, ty, hk, k⟩ := h
    refine ⟨_, PSs.nox (pss_one (ps_ret (pe_callB call_isi (by rfl) isi (by decide +kernel) (pa_cons (pv 1) (pa_cons (pe_glob (v := .ref (He.ga K "Default")) rfl T.g rfl) pa_nil))))), ?_⟩
    exact ⟨_, rfl, v, .ref (He.ga K "Default"), t, _, b, rfl, .own _, ty, hk, k⟩
theorem ok_tinit (F : FunD K "__init__" "Rest.__init__" (defArgs sTInit) (defBody sTInit) (defScope sTInit) [] [] f fd) (T : KC K mg "Rest") (TP : TxP mg) (nM : NoAttr K (He.ga K "Rest") "_modulus") (nR : NoAttr K (He.ga K "Rest") "_remainder")
    (FN : FnP K "is_number" sIsNumber fN fdN) (gN : mg "is_number" = some (.ref fN)) (FM : FnP K "is_modulus" sIsMod fM fdM) (gM : mg "is_modulus" = some (.ref fM)) (FR : FnP K "is_remainder" sIsRem fR fdR) (gR : mg "is_remainder" = some (.ref fR))
    (MB : EM P w K mg base "InvalidBound" (He.ga K "InvalidBound") .ve eB fdB ["self"] spNo) (bB : Binds K fdB ["self"] []) : FnOk P w K mg base (L2.CX P w) 3 f fd ["self", "modulus", "remainder"] (spTInit K) := by
  have GN : FnOk P w K mg base CX0 1 fN fdN ["value"] (spNum K) := ok_num FN TP.toTxW
  have bN : Binds K fdN ["value"] [] := FN.bindsN fun _ _ _ _ _ _ us hl => match us, hl with | [_], _ => rfl
  have GM : FnOk P w K mg base CX0 1 fM fdM ["number"] spMod := ok_mod FM TP
  have bM : Binds K fdM ["number"] [] := FM.bindsN fun _ _ _ _ _ _ us hl => match us, hl with | [_], _ => rfl
  have GR : FnOk P w K mg base CX0 1 fR fdR ["number", "modulus"] spRem := ok_rem FR TP
  have bR : Binds K fdR ["number", "modulus"] [] := FR.bindsN fun _ _ _ _ _ _ us hl => match us, hl with | [_, _], _ => rfl
  have kN := FN.kp
  have kM := FM.kp
  have kR := FR.kp
  refine F.ok scTInit (fun vs H Q E h => ?_) (fun cdv A outer s H vs Q E hr h => ?_)
  · obtain ⟨a, dx, v1, v2, d1, d2, rfl, _⟩ := h
    rfl
  · obtain ⟨a, dx, v1, v2, d1, d2, rfl, ha, t1, t2, e1, e2⟩ := h
    have nd := scTInit.nd
    have hr1 : Room 1 _ := hr.mono (by decide)
    refine ⟨_, (pss_cons (ps_if (PW.pt (pw_or (pt_not (pt_val (pe_call GN hr1 rfl gN kN bN .nil pass0 (pa_cons (pv 1) pa_nil)))) (pw_or1 (pt_not (pt_val (pe_call GN hr1 rfl gN kN bN .nil pass0 (pa_cons (pv 2) pa_nil))))))) (pss_one (ps_raise rfl (takes_of rfl rfl rfl rfl) (pmk_E0 MB hr bB rfl))) pss_nil)
      (pss_cons (ps_if (PW.pt (pw_or (pt_not (pt_val (pe_call GM hr1 rfl gM kM bM .nil pass0 (pa_cons (pv 1) pa_nil)))) (pw_or1 (pt_not (pt_val (pe_call GR hr1 rfl gR kR bR .nil pass0 (pa_cons (pv 2) (pa_cons (pv 1) pa_nil)))))))) (pss_one (ps_raise rfl (takes_of rfl rfl rfl rfl) (pmk_E0 MB hr bB rfl))) pss_nil)
      (pss_cons (ps_fld (pv 0) (pv 1) rfl) (pss_one (ps_fld (pv 0) (pv 2) rfl))))), ?_⟩
    have mkr : restD d1 d2 = false → ∀ b, H b = none → E (.ref (He.ga K "InvalidBound")) none (del (upd H b (exo b (He.ga K "InvalidBound") none)) b) := fun r b nb => raised (e1 r) (Same.refl H) nb
    refine ⟨_, rfl, v1, d1, rfl, t1, _, rfl, ?_⟩
    cases n1 : isN d1 with
    | false =>
      refine iteT ?_
      refine iteT ?_
      have r : restD d1 d2 = false := by
        cases d1 <;> cases d2 <;> first | rfl | (show ((isN _ && _) && _) = false; rw [n1]; rfl)
      exact ⟨Nat.zero_le _, fun b nb => ⟨b, rfl, rfl, .inl ⟨upd_same, mkr r b nb⟩⟩⟩
    | true =>
      refine iteF ?_
      refine ⟨_, rfl, v2, d2, rfl, t2, _, rfl, ?_⟩
      obtain ⟨i, rfl⟩ : ∃ i, d1 = .int i := by cases d1 <;> first | exact ⟨_, rfl⟩ | exact Bool.noConfusion n1
      cases th_int t1
      cases n2 : isN d2 with
      | false =>
        refine iteT ?_
        have r : restD (.int i) d2 = false := by
          cases d2 <;> first | rfl | (show ((_ && isN _) && _) = false; rw [n2, Bool.and_false]; rfl)
        exact ⟨Nat.zero_le _, fun b nb => ⟨b, rfl, rfl, .inl ⟨upd_same, mkr r b nb⟩⟩⟩
      | true =>
        refine iteF ?_
        obtain ⟨j, rfl⟩ : ∃ j, d2 = .int j := by cases d2 <;> first | exact ⟨_, rfl⟩ | exact Bool.noConfusion n2
        cases th_int t2
        have li : i ≤ 10 ^ 30 := by
          obtain ⟨_, z⟩ := Bool.and_eq_true_iff.mp (show (decide (-(10 ^ 30) ≤ i) && decide (i ≤ 10 ^ 30)) = true from n1)
          exact of_decide_eq_true z
        have eR : restD (.int i) (.int j) = ((decide (1 < i) && decide (60 % i = 0)) && (decide (0 ≤ j) && decide (j < i))) := by
          show ((isN _ && isN _) && _) = _
          rw [n1, n2]
          rfl
        refine ⟨_, rfl, i, rfl, li, _, rfl, ?_⟩
        cases m1 : (decide (1 < i) && decide (60 % i = 0)) with
        | false =>
          refine iteT ?_
          refine iteT ?_
          exact ⟨Nat.zero_le _, fun b nb => ⟨b, rfl, rfl, .inl ⟨upd_same, mkr (by rw [eR, m1]; rfl) b nb⟩⟩⟩
        | true =>
          refine iteF ?_
          refine ⟨_, rfl, _, rfl, j, i, rfl, _, rfl, ?_⟩
          cases m2 : (decide (0 ≤ j) && decide (j < i)) with
          | false =>
            refine iteT ?_
            exact ⟨Nat.zero_le _, fun b nb => ⟨b, rfl, rfl, .inl ⟨upd_same, mkr (by rw [eR, m1, m2]; rfl) b nb⟩⟩⟩
          | true =>
            refine iteF ?_
            refine ⟨_, rfl, _, rfl, a, _, dx, [], rfl, ha, T.cl, nM, (by decide), ?_⟩
            refine ⟨_, rfl, _, rfl, a, _, dx, _, rfl, upd_same, T.cl, nR, (by show 1 < 1000; decide), ?_⟩
            refine e2 (by rw [eR, m1, m2]; rfl) _ (fun b o nb e => ?_) ?_
            · rw [upd_ne nb, upd_ne nb]
              exact e
            · rw [upd_same]
              rfl
end
end K26
set_option Elab.async false
set_option linter.all false
set_option maxRecDepth 100000
set_option maxHeartbeats 4000000
/-! Values.__init__ -/
namespace K26
open K34 PySem PySem.Spec PyProof.Rows L2
theorem cr_sortF {X : Cx} : CallR X (.builtin "sorted") (fun xs H Q => rSorted X.K xs H Q ∨ rSortedS X.K xs H Q) := by
  intro pins s σ H xs us Q I r h
  rcases h with h | h
  · exact cr_sorted pins s σ H xs us Q I r h
  · exact cr_sortedS pins s σ H xs us Q I r h
theorem scVInit : FnScope ["self", "values", "nones", "value"] ["self", "values"] (defScope sVInit) := ⟨rfl, rfl, rfl, by decide +kernel, rfl, by decide +kernel, by decide +kernel⟩
def isNonB (v : V) : Bool := decide (v = V.non)
/-- the entries of these values -/
def VEnt (vs es : List V) : Prop := ∃ rest, es = vs.filter isNonB ++ rest ∧ rest.Perm (vs.filter fun v => !isNonB v) ∧
  ((∃ ns : List Int, rest = ns.map V.int ∧ ns.Pairwise (· ≤ ·)) ∨ ∃ ss : List Str, rest = ss.map V.str ∧ sortedS ss = true)
theorem VEnt.len {vs es : List V} (h : VEnt vs es) : es.length = vs.length := by
  obtain ⟨rest, rfl, p, _⟩ := h
  rw [List.length_append, p.length_eq]
  clear p
  induction vs with
  | nil => rfl
  | cons v vs ih =>
    rw [List.filter_cons, List.filter_cons]
    cases h : isNonB v <;> simp <;> omega
theorem VEnt.flat {vs es : List V} (h : VEnt vs es) : es.all flatV = true := by
  obtain ⟨rest, rfl, p, k⟩ := h
  rw [List.all_append, Bool.and_eq_true]
  refine ⟨List.all_eq_true.mpr fun v hv => ?_, List.all_eq_true.mpr fun v hv => ?_⟩
  · have z := (List.mem_filter.mp hv).2
    have z : v = V.non := of_decide_eq_true z
    rw [z]
    rfl
  · rcases k with ⟨ns, rfl, _⟩ | ⟨ss, rfl, _⟩
    · obtain ⟨i, _, rfl⟩ := List.mem_map.mp hv
      rfl
    · obtain ⟨i, _, rfl⟩ := List.mem_map.mp hv
      rfl
/-- what is left is of one kind -/
theorem one_kind {ds : List PyData} (a : ds.all valD = true) (h : (ds.any numD && ds.any wrdD) = false) : (∃ ns : List Int, ((ds.map vD).filter fun v => !isNonB v) = ns.map V.int) ∨ ∃ ss : List Str, ((ds.map vD).filter fun v => !isNonB v) = ss.map V.str := by
  have al := List.all_eq_true.mp a
  rcases Bool.and_eq_false_iff.mp h with h | h
  · refine .inr ?_
    clear a
    induction ds with
    | nil => exact ⟨[], rfl⟩
    | cons d ds ih =>
      rw [List.any_cons, Bool.or_eq_false_iff] at h
      obtain ⟨ss, e⟩ := ih (by rw [Bool.and_eq_false_iff]; exact .inl h.2) (fun x hx => al x (List.mem_cons_of_mem _ hx)) h.2
      have z := al d List.mem_cons_self
      cases d with
      | none => exact ⟨ss, by rw [← e]; rfl⟩
      | str x =>
        refine ⟨x :: ss, ?_⟩
        show List.filter (fun v => !isNonB v) (V.str x :: ds.map vD) = _
        rw [List.filter_cons_of_pos rfl, e]
        rfl
      | int i => exact Bool.noConfusion (show true = false from h.1)
      | bool b => exact Bool.noConfusion (show false = true from z)
      | list b => exact Bool.noConfusion (show false = true from z)
      | tuple b => exact Bool.noConfusion (show false = true from z)
      | dict b => exact Bool.noConfusion (show false = true from z)
  · refine .inl ?_
    clear a
    induction ds with
    | nil => exact ⟨[], rfl⟩
    | cons d ds ih =>
      rw [List.any_cons, Bool.or_eq_false_iff] at h
      obtain ⟨ss, e⟩ := ih (by rw [Bool.and_eq_false_iff]; exact .inr h.2) (fun x hx => al x (List.mem_cons_of_mem _ hx)) h.2
      have z := al d List.mem_cons_self
      cases d with
      | none => exact ⟨ss, by rw [← e]; rfl⟩
      | int x =>
        refine ⟨x :: ss, ?_⟩
        show List.filter (fun v => !isNonB v) (V.int x :: ds.map vD) = _
        rw [List.filter_cons_of_pos rfl, e]
        rfl
      | str i => exact Bool.noConfusion (show true = false from h.1)
      | bool b => exact Bool.noConfusion (show false = true from z)
      | list b => exact Bool.noConfusion (show false = true from z)
      | tuple b => exact Bool.noConfusion (show false = true from z)
      | dict b => exact Bool.noConfusion (show false = true from z)
theorem take_filter {l : List V} {p : V → Bool} {i : Nat} {x : V} (h : l[i]? = some x) : (l.take (i + 1)).filter p = (l.take i).filter p ++ (if p x = true then [x] else []) := by
  rw [List.take_add_one, h, List.filter_append]
  congr 1
  show List.filter p [x] = _
  cases e : p x with
  | true => rw [List.filter_cons_of_pos e, if_pos rfl]; rfl
  | false => rw [List.filter_cons_of_neg (by rw [e]; exact Bool.false_ne_true), if_neg Bool.false_ne_true]; rfl
def spVInit (K : PySem.W.Frag) : Sp := fun vs H Q E => ∃ (a dx T : Addr) (xs : List V) (ds : List PyData), vs = [.ref a, .ref T] ∧ H a = some (.ins (He.ga K "Values") dx []) ∧ SqT K H T xs ∧ ThL K H xs ds ∧ ds.length ≤ 9 ∧
  (valsD ds = false → Rz0 (He.ga K "InvalidBound") H E) ∧ (valsD ds = true → ∀ es l H', VEnt (ds.map vD) es → But a H H' → H' a = some (.ins (He.ga K "Values") dx [("_entries", .ref l)]) → SqL K H' l es → Q .non H')
section
variable {P : Program} {w : World} {K : PySem.W.Frag} {mg : Str → Option Value} {base : Heap} {f fA eB : Addr} {fd fdA fdB : FuncData}
theorem ok_vinit (F : FunD K "__init__" "Values.__init__" (defArgs sVInit) (defBody sVInit) (defScope sVInit) [] [] f fd) (T : KC K mg "Values") (TP : TxP mg) (nE : NoAttr K (He.ga K "Values") "_entries")
    (GA : FnOk P w K mg base CX0 3 fA fdA ["values"] (spAreVals K)) (gA : mg "_are_values" = some (.ref fA)) (kA : PySem.W.keepIn K (.ref fA) = true) (bA : Binds K fdA ["values"] [])
    (MB : EM P w K mg base "InvalidBound" (He.ga K "InvalidBound") .ve eB fdB ["self"] spNo) (bB : Binds K fdB ["self"] []) :
    FnR P w K mg base (L2.CX P w) 4 f (fun vs H Q E => ∃ v rest, vs = v :: rest ∧ rest.length ≤ 9 ∧ ∀ p, H p = none → spVInit K [v, .ref p] (upd H p (.tup rest)) Q E) := by
  obtain ⟨oc, od, dV, kV, doc, pm, an, cdv, ct, osl, rfl, lk, hcd, hD, hK⟩ := F.ex
  have hd : dV = .none := by
    rcases hD with ⟨_, e⟩ | ⟨e, _⟩
    · exact e
    · exact absurd rfl e
  subst hd
  refine FnR.imp (fn_ofV (CX := L2.CX P w) (pa := "self") (pv := "values") (nmax := 9) (sp := spVInit K) (N := ["self", "values", "nones", "value"]) lk hcd scVInit (by decide) ?_ cx_new fun A outer s H vs Q E hr h => ?_) fun vs H Q E h => h
  · intro u rest hl
    match rest, hl with
    | [], _ => rfl
    | [_], _ => rfl
    | [_, _], _ => rfl
    | [_, _, _], _ => rfl
    | [_, _, _, _], _ => rfl
    | [_, _, _, _, _], _ => rfl
    | [_, _, _, _, _, _], _ => rfl
    | [_, _, _, _, _, _, _], _ => rfl
    | [_, _, _, _, _, _, _, _], _ => rfl
    | [_, _, _, _, _, _, _, _, _], _ => rfl
    | _ :: _ :: _ :: _ :: _ :: _ :: _ :: _ :: _ :: _ :: r, h => exact absurd h (by simp only [List.length_cons]; omega)
  · obtain ⟨a, dx, q, xs, ds, rfl, ha, hs, tl, l9, e1, e2⟩ := h
    have nd := scVInit.nd
    refine ⟨_, (pss_cons (ps_if (pt_not (pt_val (pe_call GA hr rfl gA kA bA .nil pass0 (pa_cons (pv 1) pa_nil)))) (pss_one (ps_raise rfl (takes_of rfl rfl rfl rfl) (pmk_E0 MB (hr.mono (by decide)) bB rfl))) pss_nil)
      (pss_cons (ps_setLc (i := 2) (own := [("value", 3)]) (g := gName 3) rfl nd rfl rfl (sw_true rfl rfl rfl (by decide +kernel)) (pi_tup (pv 1)) (blkOk_by (N := ["self", "values", "nones", "value"]) (sc := defScope sVInit) (by decide +kernel)) (fun _ _ _ _ _ => pg_name (i := 3) nd rfl (Or.inl rfl)) (fun _ _ _ _ _ => pts_one (pt_cmpR op_isN (pv 3) pe_non (nomark _))) (fun _ _ _ _ _ => pv 3))
      (pss_one (ps_fld (pv 0) (pe_op op_cat (pv 2) (pe_callB cr_sortF (by rfl) TP.sorted (by decide +kernel) (pa_cons (pe_lc (own := [("value", 3)]) (g := gName 3) rfl nd (pi_tup (pv 1)) (blkOk_by (N := ["self", "values", "nones", "value"]) (sc := defScope sVInit) (by decide +kernel)) (fun _ _ _ _ _ => pg_name (i := 3) nd rfl (Or.inl rfl)) (fun _ _ _ _ _ => pts_one (pt_cmpR op_notN (pv 3) pe_non (nomark _))) (fun _ _ _ _ _ => pv 3)) pa_nil))) rfl)))), ?_⟩
    have lx := tl.l
    refine ⟨_, rfl, q, xs, ds, rfl, hs, tl, by omega, fun H1 s1 => ⟨_, rfl, ?_⟩⟩
    cases r : valsD ds with
    | false =>
      refine iteT ?_
      exact ⟨Nat.zero_le _, fun b nb => ⟨b, rfl, rfl, .inl ⟨upd_same, raised (e1 r) s1 nb⟩⟩⟩
    | true =>
      refine iteF ?_
      obtain ⟨r1, r2⟩ := Bool.and_eq_true_iff.mp r
      obtain ⟨r2, r3⟩ := Bool.and_eq_true_iff.mp r2
      obtain ⟨r3, r4⟩ := Bool.and_eq_true_iff.mp r3
      have r4 : (ds.any numD && ds.any wrdD) = false := by
        have z : (!(ds.any numD && ds.any wrdD)) = true := r4
        cases hh : (ds.any numD && ds.any wrdD) with
        | false => rfl
        | true =>
          rw [hh] at z
          exact Bool.noConfusion z
      obtain ⟨ex, fl⟩ := tl.vals r2
      have ok := one_kind r2 r4
      rw [← ex] at ok
      have hs1 := sqT_same hs s1
      refine ⟨_, rfl, q, rfl, ⟨xs, hs1⟩, fun D hD => ?_⟩
      have hD : H1 D = none := hD
      refine lc_it (walk_tup (K := K) (a := q) (xs := xs)) (fun i H6 => H6 D = some (.lst ((xs.take i).filter isNonB)) ∧ Same H1 H6) ⟨upd_same, same_new (Same.refl H1) hD⟩ (fun i H3 _ y => sqT_same hs1 y.2) ?_ ?_
      · rintro i x H6 H7 hi ⟨y1, y2⟩ ⟨rfl, hx⟩
        have hx : xs[i]? = some x := hx
        refine ⟨rfl, ?_⟩
        refine ⟨_, rfl, rfl, _, rfl, ?_⟩
        have tf := take_filter (p := isNonB) hx
        show if isNonB x = true then _ else _
        cases hn : isNonB x with
        | true =>
          rw [hn, if_pos rfl] at tf
          refine iteT ?_
          refine ⟨_, rfl, ?_⟩
          exact push_ok (A := fun i => (xs.take i).filter isNonB) (i := i) (y := x) hD y1 y2 tf (by have := List.length_filter_le isNonB (xs.take i); rw [List.length_take] at this; show ((xs.take i).filter isNonB).length ≤ 1000; omega)
        | false =>
          rw [hn, if_neg Bool.false_ne_true, List.append_nil] at tf
          refine iteF ?_
          rw [tf]
          exact ⟨y1, y2⟩
      · rintro H6 ⟨y1, y2⟩
        rw [List.take_length] at y1
        have s6 := s1.trans y2
        have hs6 := sqT_same hs1 y2
        refine ⟨_, rfl, _, rfl, q, rfl, ⟨xs, hs6⟩, fun D2 hD2 => ?_⟩
        have hD2 : H6 D2 = none := hD2
        refine lc_it (walk_tup (K := K) (a := q) (xs := xs)) (fun i H7 => H7 D2 = some (.lst ((xs.take i).filter fun v => !isNonB v)) ∧ Same H6 H7) ⟨upd_same, same_new (Same.refl H6) hD2⟩ (fun i H3 _ y => sqT_same hs6 y.2) ?_ ?_
        · rintro i x H7 H8 hi ⟨y3, y4⟩ ⟨rfl, hx⟩
          have hx : xs[i]? = some x := hx
          refine ⟨rfl, ?_⟩
          refine ⟨_, rfl, rfl, _, rfl, ?_⟩
          have tf := take_filter (p := fun v => !isNonB v) hx
          show if (!isNonB x) = true then _ else _
          cases hn : isNonB x with
          | false =>
            rw [hn] at tf
            refine itT rfl ?_
            refine ⟨_, rfl, ?_⟩
            exact push_ok (A := fun i => (xs.take i).filter fun v => !isNonB v) (i := i) (y := x) hD2 y3 y4 tf (by have := List.length_filter_le (fun v => !isNonB v) (xs.take i); rw [List.length_take] at this; show ((xs.take i).filter fun v => !isNonB v).length ≤ 1000; omega)
          | true =>
            rw [hn] at tf
            have tf : (xs.take (i + 1)).filter (fun v => !isNonB v) = (xs.take i).filter (fun v => !isNonB v) := by
              rw [tf]
              exact List.append_nil _
            refine itF rfl ?_
            rw [tf]
            exact ⟨y3, y4⟩
        · rintro H7 ⟨y3, y4⟩
          rw [List.take_length] at y3
          have s7 := s6.trans y4
          have lf : (xs.filter fun v => !isNonB v).length ≤ 9 := by have := List.length_filter_le (fun v => !isNonB v) xs; omega
          have lg : (xs.filter isNonB).length ≤ 9 := by have := List.length_filter_le isNonB xs; omega
          have fin : ∀ (rest : List V) (p : Addr), rest.Perm (xs.filter fun v => !isNonB v) → ((∃ ns : List Int, rest = ns.map V.int ∧ ns.Pairwise (· ≤ ·)) ∨ ∃ ss : List Str, rest = ss.map V.str ∧ sortedS ss = true) → H7 p = none →
              rCat (.ref D) (.ref p) (upd H7 p (.lst rest)) (fun v H8 => ∃ u, (List.set (L2.start ["self", "values", "nones", "value"] [V.ref a, V.ref q]) 2 (some (V.ref D)))[0]? = some (some u) ∧ ∃ a_1 C dx_1 fs, u = .ref a_1 ∧ H8 a_1 = some (.ins C dx_1 fs) ∧ Cls K C ∧ NoAttr K C "_entries" ∧ fs.length < 1000 ∧ Q .non (upd H8 a_1 (.ins C dx_1 (putF "_entries" v fs)))) := fun rest p pm kd hp => by
            refine ⟨D, p, _, rest, rfl, rfl, up (y4 _ _ y1) hp, upd_same, by rw [pm.length_eq, sizeLine_eq]; omega, fun z hz => ?_⟩
            have s8 := same_new (o := .lst rest) s7 hp
            have s9 := same_new (o := .lst (xs.filter isNonB ++ rest)) s8 hz
            refine ⟨_, rfl, a, _, dx, [], rfl, s9 _ _ ha, T.cl, nE, (by decide), ?_⟩
            have na : z ≠ a := fun e => by
              have q := s8 _ _ ha
              rw [← e, hz] at q
              cases q
            refine e2 r (xs.filter isNonB ++ rest) z _ ⟨rest, by rw [← ex], by rw [← ex]; exact pm, kd⟩ (fun b o nb e => ?_) ?_ (SqL.of ?_)
            · rw [upd_ne nb]
              exact s9 _ _ e
            · rw [upd_same]
              rfl
            · rw [upd_ne na]
              exact upd_same
          rcases ok with ⟨ns, en⟩ | ⟨ss, es⟩
          · rw [en] at y3 lf fin
            refine .inl ⟨D2, ns, rfl, SqL.of y3, by rw [List.length_map] at lf; omega, fun ns' p pm srt hp => ?_⟩
            exact fin _ p (pm.map V.int) (.inl ⟨ns', rfl, srt⟩) hp
          · rw [es] at y3 lf fin
            refine .inr ⟨D2, ss, rfl, SqL.of y3, by rw [List.length_map] at lf; omega, fun ns' p pm srt hp => ?_⟩
            exact fin _ p (pm.map V.str) (.inr ⟨ns', rfl, srt⟩) hp
end
end K26
set_option Elab.async false
set_option linter.all false
set_option maxRecDepth 100000
set_option maxHeartbeats 4000000
/-! the law's own look at entries, ends, ranges -/
namespace K26
open K34 PySem PySem.Spec PyProof.Rows L2
def spEO (K : PySem.W.Frag) : Sp := fun vs H Q _ => ∃ e : En, vs = [enV e] ∧ enOk e = true ∧ ∀ (p : Addr) (H' : Hp), Same H H' → SqT K H' p (prV e) → Q (.ref p) H'
theorem scEO : FnScope ["_law_entry"] ["_law_entry"] (defScope sEntryOrder) := ⟨rfl, rfl, rfl, by decide +kernel, rfl, by decide +kernel, by decide +kernel⟩
theorem scEndO : FnScope ["_law_end_here", "_law_entry"] ["_law_end_here"] (defScope sEndOrder) := ⟨rfl, rfl, rfl, by decide +kernel, rfl, by decide +kernel, by decide +kernel⟩
def abcS : Str := "abcdefghijklmnopqrstuvwxyz"
theorem abc_low (c : Nat) : decide (c ∈ abcS.cps.toList) = lowN c := by
  have e : abcS.cps.toList = (List.range 26).map (· + 97) := by decide +kernel
  rw [e, Bool.eq_iff_iff]
  unfold lowN
  simp only [decide_eq_true_eq, List.mem_map, List.mem_range, Bool.and_eq_true]
  constructor
  · rintro ⟨a, h1, rfl⟩
    omega
  · rintro ⟨h1, h2⟩
    exact ⟨c - 97, by omega, by omega⟩
theorem th_isi {K : PySem.W.Frag} {H : Hp} {v : V} {d : PyData} (t : Th K H v d) : TyX K H v (.type (tyName d)) := th_ty t
section
variable {P : Program} {w : World} {K : PySem.W.Frag} {mg : Str → Option Value} {base : Heap} {f fO fS fV fE fN : Addr} {fd fdO fdS fdV fdE fdN : FuncData}
theorem ok_eorder (F : FnP K "_law_entry_order" sEntryOrder f fd) : FnOk P w K mg base CX0 1 f fd ["_law_entry"] (spEO K) := by
  refine F.ok scEO (fun vs H Q E h => ?_) (fun cdv A outer s H vs Q E hr h => ?_)
  · obtain ⟨e, rfl, _⟩ := h
    rfl
  · obtain ⟨e, rfl, ok, k⟩ := h
    refine ⟨_, PSs.nox (pss_cons (ps_if (pt_cmpR op_in_seq (pv 0) (pe_tup (pa_cons pe_str (pa_cons pe_str pa_nil))) (by rfl)) (pss_one (ps_ret (pe_ifExp (pt_cmpR op_eq (pv 0) pe_str (nomark _)) (pe_tup (pa_cons pe_int (pa_cons pe_int pa_nil))) (pe_tup (pa_cons pe_int (pa_cons pe_int pa_nil)))))) pss_nil)
      (pss_one (ps_ret (pe_tup (pa_cons pe_int (pa_cons (pv 0) pa_nil)))))), ?_⟩
    refine ⟨_, rfl, (by show 2 ≤ sizeLine; decide), fun p hp => ?_⟩
    have s1 := same_new (o := .tup [.str "-", .str "+"]) (Same.refl H) hp
    refine ⟨p, [enV .lo, enV .hi], rfl, .inr (SqT.of upd_same), flat_en e, rfl, _, rfl, ?_⟩
    have ein : inV (enV e) [enV .lo, enV .hi] = isSg e := by
      show (eqV (enV .lo) (enV e) || (eqV (enV .hi) (enV e) || false)) = _
      rw [eqV_en .lo e rfl ok, eqV_en .hi e rfl ok, Bool.or_false]
      cases e <;> first | rfl | decide
    show if inV (enV e) [enV .lo, enV .hi] = true then _ else _
    rw [ein]
    generalize upd H p (.tup [.str "-", .str "+"]) = H1 at s1 ⊢
    have fin : ∀ q, H1 q = none → Q (.ref q) (upd H1 q (.tup (prV e))) := fun q hq => k q _ (same_new s1 hq) (SqT.of upd_same)
    obtain ⟨n1, _⟩ := en_not ok
    cases e with
    | lo =>
      refine iteT ?_
      refine ⟨_, rfl, rfl, _, rfl, ?_⟩
      refine itT (decide_eq_true rfl) ?_
      exact ⟨(by show 2 ≤ sizeLine; decide), fun q hq => fin q hq⟩
    | hi =>
      refine iteT ?_
      refine ⟨_, rfl, rfl, _, rfl, ?_⟩
      refine itF (by decide +kernel) ?_
      exact ⟨(by show 2 ≤ sizeLine; decide), fun q hq => fin q hq⟩
    | num i =>
      refine iteF ?_
      exact ⟨_, rfl, (by show 2 ≤ sizeLine; decide), fun q hq => fin q hq⟩
    | wrd i =>
      refine iteF ?_
      exact ⟨_, rfl, (by show 2 ≤ sizeLine; decide), fun q hq => fin q hq⟩
theorem ok_endorder (F : FnP K "_law_end_order" sEndOrder f fd) (GO : FnOk P w K mg base CX0 1 fO fdO ["_law_entry"] (spEO K)) (gO : mg "_law_entry_order" = some (.ref fO)) (kO : PySem.W.keepIn K (.ref fO) = true) (bO : Binds K fdO ["_law_entry"] []) : FnOk P w K mg base CX0 2 f fd ["_law_end_here"] (spPlaces K) := by
  refine F.ok scEndO (fun vs H Q E h => ?_) (fun cdv A outer s H vs Q E hr h => ?_)
  · obtain ⟨a, es, rfl, _⟩ := h
    rfl
  · obtain ⟨a, es, rfl, ha, oke, l100, k⟩ := h
    have nd := scEndO.nd
    have oe := List.all_eq_true.mp oke
    refine ⟨_, PSs.nox (pss_one (ps_ret (pe_lc (own := [("_law_entry", 1)]) (g := gName 1) (tt := tYes) rfl nd (pi_tup (pv 0)) (blkOk_by (N := ["_law_end_here", "_law_entry"]) (sc := defScope sEndOrder) (by decide +kernel)) (fun _ _ _ _ _ => pg_name (i := 1) nd rfl (Or.inl rfl)) (fun _ _ _ _ _ => pts_nil) (fun _ _ _ _ _ => pe_call GO hr rfl gO kO bO .nil pass0 (pa_cons (pv 1) pa_nil))))), ?_⟩
    refine ⟨_, rfl, a, rfl, ⟨_, ha⟩, fun D hD => ?_⟩
    have hD : H D = none := hD
    refine lc_it (walk_tup (K := K) (a := a) (xs := es.map enV)) (fun i H6 => ∃ ts : List Addr, H6 D = some (.lst (ts.map V.ref)) ∧ PrAt K H6 ts (es.take i) ∧ Same H H6) ⟨[], upd_same, ⟨rfl, fun i a p h => by simp at h⟩, same_new (Same.refl H) hD⟩ (fun i H3 _ y => by obtain ⟨_, _, _, y⟩ := y; exact sqT_same ha y) ?_ ?_
    · rintro i x H6 H7 hi ⟨ts, y1, y2, y3⟩ ⟨rfl, hx⟩
      have hx : (es.map enV)[i]? = some x := hx
      rw [List.getElem?_map] at hx
      obtain ⟨e, he, rfl⟩ := Option.map_eq_some_iff.mp hx
      refine ⟨rfl, ?_⟩
      unfold tYes
      dsimp only
      refine iteT ?_
      refine ⟨_, rfl, e, rfl, oe e (List.mem_of_getElem? he), fun q H8 s8 tq => ?_⟩
      have lts : ts.length ≤ 100 := by
        have := y2.l
        rw [List.length_take] at this
        omega
      have pr := (y2.same s8).snoc (q := e) tq
      refine ⟨_, s8 _ _ y1, by rw [List.length_map, sizeLine_eq]; omega, ts ++ [q], by rw [upd_same, List.map_append]; rfl, ?_, fun b o z => ?_⟩
      · rw [List.take_add_one, he]
        refine ⟨pr.l, fun j b r h1 h2 => ?_⟩
        have z := pr.t j b r h1 h2
        rcases z with (z | ⟨o, z⟩) | z
        · exact .inl (.inl (by rw [upd_ne (ne_of z (s8 _ _ y1) (by intro q; cases q))]; exact z))
        · exact .inl (.inr ⟨o, by rw [upd_ne (ne_of z (s8 _ _ y1) (by intro q; cases q))]; exact z⟩)
        · exact .inr z
      · rw [upd_ne (ne_of_none z hD)]
        exact s8 _ _ (y3 _ _ z)
    · rintro H6 ⟨ts, y1, y2, y3⟩
      have e : (es.map enV).length = es.length := List.length_map ..
      rw [e, List.take_length] at y2
      exact k D ts H6 y3 y1 y2
end
section
theorem agr1_sg (e f : En) : agr1 (e, f) = (isSg e || (isSg f || decide ((match e with | .wrd _ => true | _ => false) = (match f with | .wrd _ => true | _ => false)))) := by
  cases e <;> cases f <;> rfl
def isWr : En → Bool
  | .wrd _ => true | _ => false
theorem agr1_wr (e f : En) : agr1 (e, f) = (isSg e || (isSg f || decide (isWr e = isWr f))) := by
  cases e <;> cases f <;> rfl
end
end K26
set_option Elab.async false
set_option linter.all false
set_option maxRecDepth 100000
set_option maxHeartbeats 4000000
namespace K26
open K34 PySem PySem.Spec PyProof.Rows L2
theorem up2 {H : Hp} {q b : Addr} {o1 o2 u : HO} (h : H b = some u) (n : H q = none) : upd (upd H q o1) q o2 b = some u := by rw [upd_upd]; exact up h n
theorem same_new2 {q : Addr} {H H' : Hp} {o1 o2 : HO} (a : Same H H') (n : H' q = none) : Same H (upd (upd H' q o1) q o2) := by rw [upd_upd]; exact same_new a n
theorem merge_a : some (HO.dK (mergeK [] [((.inr ("a" : Str) : Key), V.int 1)])) = some (HO.dK [(.inr "a", .int 1)]) := by kernel_rfl
theorem PenAt.same {H H' : Hp} {p c : Addr} {ns : List Int} {t l : Int} (D : PenAt H p c ns t l) (s : Same H H') : PenAt H' p c ns t l := ⟨s _ _ D.d, s _ _ D.c, D.ht, D.hl, D.hn⟩
/-- a datum whose writing is short -/
def dOk (d : PyData) : Bool := d.showable && (decide (d.shown.length ≤ 1000) && decide (d.depth ≤ 3))
/-- a dict, or a datum that can be compared -/
def lOk : PyData → Bool
  | .dict _ => true | d => d.layable0
def tOk0 : PyData → Bool
  | .tuple ds => ds.all sOk && decide (ds.length ≤ 50) | _ => true
def tOk (d : PyData) : Bool := tOk0 d && lOk d
def aOk (d : PyData) : Bool := (dOk d && sOk d) && tOk d
def spAny (K : PySem.W.Frag) : Sp := fun vs H Q _ => ∃ (p c : Addr) (ns : List Int) (t l : Int), vs = [.ref p] ∧ PenAt H p c ns t l ∧ t < 1000000000000 ∧
  ∀ (v : V) (d : PyData) (t' l' : Int) (H' : Hp), Th K H' v d → aOk d = true → t' ≤ t + 1 → PenAt H' p c ns t' l' → But p H H' → Q v H'
theorem scAny : FnScope ["_law_pen_here", "_law_some"] ["_law_pen_here"] (defScope sAny) := ⟨rfl, rfl, rfl, by decide +kernel, rfl, by decide +kernel, by decide +kernel⟩
section
variable {P : Program} {w : World} {K : PySem.W.Frag} {mg : Str → Option Value} {base : Heap} {f fD fP : Addr} {fd fdD fdP : FuncData}
theorem ok_any (F : FnP K "_law_any_value" sAny f fd) (T : TxB mg) (FD : FnP K "_law_draw" sDraw fD fdD) (gD : mg "_law_draw" = some (.ref fD)) (FP : FnP K "_law_pick" sPick fP fdP) (gP : mg "_law_pick" = some (.ref fP)) : FnOk P w K mg base CX0 3 f fd ["_law_pen_here"] (spAny K) := by
  have GP : FnOk P w K mg base CX0 2 fP fdP ["_law_pen_here", "_law_options"] (spPick K) := ok_pick FP T FD gD
  have bP : Binds K fdP ["_law_pen_here", "_law_options"] [] := FP.bindsN fun _ _ _ _ _ _ us hl => match us, hl with | [_, _], _ => rfl
  have kP := FP.kp
  refine F.ok scAny (fun vs H Q E h => ?_) (fun cdv A outer s H vs Q E hr h => ?_)
  · obtain ⟨p, c, ns, t, l, rfl, _⟩ := h
    rfl
  · obtain ⟨p, c, ns, t, l, rfl, D, ht, k⟩ := h
    have hu := hu_of hr
    have nd := scAny.nd
    refine ⟨_, PSs.nox (pss_cons (ps_set (i := 1) nd rfl (Or.inl rfl) (pe_lst (pa_cons pe_non (pa_cons pe_bl (pa_cons pe_bl (pa_cons pe_int (pa_cons pe_int (pa_cons (pe_un un_neg pe_int) (pa_cons (pe_op op_add (pe_op op_pow pe_int pe_int) pe_int) (pa_cons pe_str (pa_cons pe_str (pa_cons pe_str (pa_cons pe_str (pa_cons (pe_tup pa_nil) (pa_cons (pe_tup (pa_cons pe_int pa_nil)) (pa_cons (pe_lst (pa_cons pe_int pa_nil)) (pa_cons pe_dnewK (pa_cons (pe_disp (pps_cons pe_str pe_int pps_nil) (by rfl) (by rfl) (fun z => by cases z) (by decide)) (pa_cons (pe_tup (pa_cons pe_non pa_nil)) pa_nil)))))))))))))))))))
      (pss_cons (ps_set (i := 1) nd rfl (Or.inl rfl) (pe_op op_cat (pv 1) (pe_lst (pa_cons pe_str (pa_cons (pe_op op_pow pe_int pe_int) (pa_cons (pe_tup (pa_cons pe_str pa_nil)) (pa_cons (pe_tup (pa_cons pe_str (pa_cons pe_str pa_nil))) (pa_cons (pe_tup (pa_cons pe_int (pa_cons pe_str pa_nil))) (pa_cons pe_str (pa_cons pe_str (pa_cons pe_str (pa_cons (pe_lst (pa_cons (pe_tup (pa_cons pe_str (pa_cons pe_int pa_nil))) pa_nil)) (pa_cons (pe_tup (pa_cons pe_str (pa_cons pe_int (pa_cons pe_int pa_nil)))) pa_nil)))))))))))))
      (pss_one (ps_ret (pe_call GP hr rfl gP kP bP .nil pass0 (pa_cons (pv 0) (pa_cons (pv 1) pa_nil))))))), ?_⟩
    have ss := Same.refl H
    have dp := D.d
    refine ⟨_, rfl, _, _, rfl, rfl, ⟨by decide, by decide, by decide⟩, _, _, rfl, rfl, (by show 0 ≤ sizeLine; decide), fun q1 n1 => ?_⟩
    have eq1 : q1 ≠ p := (ne_of_none dp n1).symm
    have dp := up (o := .tup []) dp n1
    have fq1 : (upd H q1 (.tup [])) q1 = some (.tup []) := upd_same
    have ss := same_new (o := .tup []) ss n1
    generalize (upd H q1 (.tup [])) = H1 at ss dp fq1 ⊢
    refine ⟨(by show 1 ≤ sizeLine; decide), fun q2 n2 => ?_⟩
    have eq2 : q2 ≠ p := (ne_of_none dp n2).symm
    have dp := up (o := .tup [.int 1]) dp n2
    have fq1 := up (o := .tup [.int 1]) fq1 n2
    have fq2 : (upd H1 q2 (.tup [.int 1])) q2 = some (.tup [.int 1]) := upd_same
    have ss := same_new (o := .tup [.int 1]) ss n2
    generalize (upd H1 q2 (.tup [.int 1])) = H2 at ss dp fq1 fq2 ⊢
    refine ⟨(by show 1 ≤ sizeLine; decide), fun q3 n3 => ?_⟩
    have eq3 : q3 ≠ p := (ne_of_none dp n3).symm
    have dp := up (o := .lst [.int 1]) dp n3
    have fq1 := up (o := .lst [.int 1]) fq1 n3
    have fq2 := up (o := .lst [.int 1]) fq2 n3
    have fq3 : (upd H2 q3 (.lst [.int 1])) q3 = some (.lst [.int 1]) := upd_same
    have ss := same_new (o := .lst [.int 1]) ss n3
    generalize (upd H2 q3 (.lst [.int 1])) = H3 at ss dp fq1 fq2 fq3 ⊢
    refine fun q4 n4 => ?_
    have eq4 : q4 ≠ p := (ne_of_none dp n4).symm
    have dp := up (o := .dK []) dp n4
    have fq1 := up (o := .dK []) fq1 n4
    have fq2 := up (o := .dK []) fq2 n4
    have fq3 := up (o := .dK []) fq3 n4
    have fq4 : (upd H3 q4 (.dK [])) q4 = some (.dK []) := upd_same
    have ss := same_new (o := .dK []) ss n4
    generalize (upd H3 q4 (.dK [])) = H4 at ss dp fq1 fq2 fq3 fq4 ⊢
    refine fun q5 n5 => ⟨upd_same, [((.inr ("a" : Str) : Key), V.int 1)], rfl, (by show 1 ≤ 15; decide), ?_⟩
    have eq5 : q5 ≠ p := (ne_of_none dp n5).symm
    have dp := up2 (u := _) (o1 := .dK []) (o2 := .dK (mergeK [] [((.inr ("a" : Str) : Key), V.int 1)])) dp n5
    have fq1 := up2 (u := _) (o1 := .dK []) (o2 := .dK (mergeK [] [((.inr ("a" : Str) : Key), V.int 1)])) fq1 n5
    have fq2 := up2 (u := _) (o1 := .dK []) (o2 := .dK (mergeK [] [((.inr ("a" : Str) : Key), V.int 1)])) fq2 n5
    have fq3 := up2 (u := _) (o1 := .dK []) (o2 := .dK (mergeK [] [((.inr ("a" : Str) : Key), V.int 1)])) fq3 n5
    have fq4 := up2 (u := _) (o1 := .dK []) (o2 := .dK (mergeK [] [((.inr ("a" : Str) : Key), V.int 1)])) fq4 n5
    have fq5 : (upd (upd H4 q5 (.dK [])) q5 (.dK (mergeK [] [((.inr ("a" : Str) : Key), V.int 1)]))) q5 = some (.dK [(.inr "a", .int 1)]) := upd_same.trans merge_a
    have ss := same_new2 (o1 := .dK []) (o2 := .dK (mergeK [] [((.inr ("a" : Str) : Key), V.int 1)])) ss n5
    generalize (upd (upd H4 q5 (.dK [])) q5 (.dK (mergeK [] [((.inr ("a" : Str) : Key), V.int 1)]))) = H5 at ss dp fq1 fq2 fq3 fq4 fq5 ⊢
    refine ⟨(by show 1 ≤ sizeLine; decide), fun q6 n6 => ?_⟩
    have eq6 : q6 ≠ p := (ne_of_none dp n6).symm
    have dp := up (o := .tup [.non]) dp n6
    have fq1 := up (o := .tup [.non]) fq1 n6
    have fq2 := up (o := .tup [.non]) fq2 n6
    have fq3 := up (o := .tup [.non]) fq3 n6
    have fq4 := up (o := .tup [.non]) fq4 n6
    have fq5 := up (o := .tup [.non]) fq5 n6
    have fq6 : (upd H5 q6 (.tup [.non])) q6 = some (.tup [.non]) := upd_same
    have ss := same_new (o := .tup [.non]) ss n6
    generalize (upd H5 q6 (.tup [.non])) = H6 at ss dp fq1 fq2 fq3 fq4 fq5 fq6 ⊢
    refine ⟨(by show 17 ≤ sizeLine; decide), fun q7 n7 => ?_⟩
    have eq7 : q7 ≠ p := (ne_of_none dp n7).symm
    have dp := up (o := .lst [.non, .bl true, .bl false, .int 0, .int 1, .int (-1), .int (10 ^ (30 : Int).toNat + 1), .str "", .str "a", .str "A", .str "and", .ref q1, .ref q2, .ref q3, .ref q4, .ref q5, .ref q6]) dp n7
    have fq1 := up (o := .lst [.non, .bl true, .bl false, .int 0, .int 1, .int (-1), .int (10 ^ (30 : Int).toNat + 1), .str "", .str "a", .str "A", .str "and", .ref q1, .ref q2, .ref q3, .ref q4, .ref q5, .ref q6]) fq1 n7
    have fq2 := up (o := .lst [.non, .bl true, .bl false, .int 0, .int 1, .int (-1), .int (10 ^ (30 : Int).toNat + 1), .str "", .str "a", .str "A", .str "and", .ref q1, .ref q2, .ref q3, .ref q4, .ref q5, .ref q6]) fq2 n7
    have fq3 := up (o := .lst [.non, .bl true, .bl false, .int 0, .int 1, .int (-1), .int (10 ^ (30 : Int).toNat + 1), .str "", .str "a", .str "A", .str "and", .ref q1, .ref q2, .ref q3, .ref q4, .ref q5, .ref q6]) fq3 n7
    have fq4 := up (o := .lst [.non, .bl true, .bl false, .int 0, .int 1, .int (-1), .int (10 ^ (30 : Int).toNat + 1), .str "", .str "a", .str "A", .str "and", .ref q1, .ref q2, .ref q3, .ref q4, .ref q5, .ref q6]) fq4 n7
    have fq5 := up (o := .lst [.non, .bl true, .bl false, .int 0, .int 1, .int (-1), .int (10 ^ (30 : Int).toNat + 1), .str "", .str "a", .str "A", .str "and", .ref q1, .ref q2, .ref q3, .ref q4, .ref q5, .ref q6]) fq5 n7
    have fq6 := up (o := .lst [.non, .bl true, .bl false, .int 0, .int 1, .int (-1), .int (10 ^ (30 : Int).toNat + 1), .str "", .str "a", .str "A", .str "and", .ref q1, .ref q2, .ref q3, .ref q4, .ref q5, .ref q6]) fq6 n7
    have fq7 : (upd H6 q7 (.lst [.non, .bl true, .bl false, .int 0, .int 1, .int (-1), .int (10 ^ (30 : Int).toNat + 1), .str "", .str "a", .str "A", .str "and", .ref q1, .ref q2, .ref q3, .ref q4, .ref q5, .ref q6])) q7 = some (.lst [.non, .bl true, .bl false, .int 0, .int 1, .int (-1), .int (10 ^ (30 : Int).toNat + 1), .str "", .str "a", .str "A", .str "and", .ref q1, .ref q2, .ref q3, .ref q4, .ref q5, .ref q6]) := upd_same
    have ss := same_new (o := .lst [.non, .bl true, .bl false, .int 0, .int 1, .int (-1), .int (10 ^ (30 : Int).toNat + 1), .str "", .str "a", .str "A", .str "and", .ref q1, .ref q2, .ref q3, .ref q4, .ref q5, .ref q6]) ss n7
    generalize (upd H6 q7 (.lst [.non, .bl true, .bl false, .int 0, .int 1, .int (-1), .int (10 ^ (30 : Int).toNat + 1), .str "", .str "a", .str "A", .str "and", .ref q1, .ref q2, .ref q3, .ref q4, .ref q5, .ref q6])) = H7 at ss dp fq1 fq2 fq3 fq4 fq5 fq6 fq7 ⊢
    refine ⟨_, rfl, _, _, rfl, rfl, ⟨by decide, by decide, by decide⟩, (by show 1 ≤ sizeLine; decide), fun q8 n8 => ?_⟩
    have eq8 : q8 ≠ p := (ne_of_none dp n8).symm
    have dp := up (o := .tup [.str "-"]) dp n8
    have fq1 := up (o := .tup [.str "-"]) fq1 n8
    have fq2 := up (o := .tup [.str "-"]) fq2 n8
    have fq3 := up (o := .tup [.str "-"]) fq3 n8
    have fq4 := up (o := .tup [.str "-"]) fq4 n8
    have fq5 := up (o := .tup [.str "-"]) fq5 n8
    have fq6 := up (o := .tup [.str "-"]) fq6 n8
    have fq7 := up (o := .tup [.str "-"]) fq7 n8
    have fq8 : (upd H7 q8 (.tup [.str "-"])) q8 = some (.tup [.str "-"]) := upd_same
    have ss := same_new (o := .tup [.str "-"]) ss n8
    generalize (upd H7 q8 (.tup [.str "-"])) = H8 at ss dp fq1 fq2 fq3 fq4 fq5 fq6 fq7 fq8 ⊢
    refine ⟨(by show 2 ≤ sizeLine; decide), fun q9 n9 => ?_⟩
    have eq9 : q9 ≠ p := (ne_of_none dp n9).symm
    have dp := up (o := .tup [.str "+", .str "-"]) dp n9
    have fq1 := up (o := .tup [.str "+", .str "-"]) fq1 n9
    have fq2 := up (o := .tup [.str "+", .str "-"]) fq2 n9
    have fq3 := up (o := .tup [.str "+", .str "-"]) fq3 n9
    have fq4 := up (o := .tup [.str "+", .str "-"]) fq4 n9
    have fq5 := up (o := .tup [.str "+", .str "-"]) fq5 n9
    have fq6 := up (o := .tup [.str "+", .str "-"]) fq6 n9
    have fq7 := up (o := .tup [.str "+", .str "-"]) fq7 n9
    have fq8 := up (o := .tup [.str "+", .str "-"]) fq8 n9
    have fq9 : (upd H8 q9 (.tup [.str "+", .str "-"])) q9 = some (.tup [.str "+", .str "-"]) := upd_same
    have ss := same_new (o := .tup [.str "+", .str "-"]) ss n9
    generalize (upd H8 q9 (.tup [.str "+", .str "-"])) = H9 at ss dp fq1 fq2 fq3 fq4 fq5 fq6 fq7 fq8 fq9 ⊢
    refine ⟨(by show 2 ≤ sizeLine; decide), fun q10 n10 => ?_⟩
    have eq10 : q10 ≠ p := (ne_of_none dp n10).symm
    have dp := up (o := .tup [.int 1, .str "a"]) dp n10
    have fq1 := up (o := .tup [.int 1, .str "a"]) fq1 n10
    have fq2 := up (o := .tup [.int 1, .str "a"]) fq2 n10
    have fq3 := up (o := .tup [.int 1, .str "a"]) fq3 n10
    have fq4 := up (o := .tup [.int 1, .str "a"]) fq4 n10
    have fq5 := up (o := .tup [.int 1, .str "a"]) fq5 n10
    have fq6 := up (o := .tup [.int 1, .str "a"]) fq6 n10
    have fq7 := up (o := .tup [.int 1, .str "a"]) fq7 n10
    have fq8 := up (o := .tup [.int 1, .str "a"]) fq8 n10
    have fq9 := up (o := .tup [.int 1, .str "a"]) fq9 n10
    have fq10 : (upd H9 q10 (.tup [.int 1, .str "a"])) q10 = some (.tup [.int 1, .str "a"]) := upd_same
    have ss := same_new (o := .tup [.int 1, .str "a"]) ss n10
    generalize (upd H9 q10 (.tup [.int 1, .str "a"])) = H10 at ss dp fq1 fq2 fq3 fq4 fq5 fq6 fq7 fq8 fq9 fq10 ⊢
    refine ⟨(by show 2 ≤ sizeLine; decide), fun q11 n11 => ?_⟩
    have eq11 : q11 ≠ p := (ne_of_none dp n11).symm
    have dp := up (o := .tup [.str "a", .int 1]) dp n11
    have fq1 := up (o := .tup [.str "a", .int 1]) fq1 n11
    have fq2 := up (o := .tup [.str "a", .int 1]) fq2 n11
    have fq3 := up (o := .tup [.str "a", .int 1]) fq3 n11
    have fq4 := up (o := .tup [.str "a", .int 1]) fq4 n11
    have fq5 := up (o := .tup [.str "a", .int 1]) fq5 n11
    have fq6 := up (o := .tup [.str "a", .int 1]) fq6 n11
    have fq7 := up (o := .tup [.str "a", .int 1]) fq7 n11
    have fq8 := up (o := .tup [.str "a", .int 1]) fq8 n11
    have fq9 := up (o := .tup [.str "a", .int 1]) fq9 n11
    have fq10 := up (o := .tup [.str "a", .int 1]) fq10 n11
    have fq11 : (upd H10 q11 (.tup [.str "a", .int 1])) q11 = some (.tup [.str "a", .int 1]) := upd_same
    have ss := same_new (o := .tup [.str "a", .int 1]) ss n11
    generalize (upd H10 q11 (.tup [.str "a", .int 1])) = H11 at ss dp fq1 fq2 fq3 fq4 fq5 fq6 fq7 fq8 fq9 fq10 fq11 ⊢
    refine ⟨(by show 1 ≤ sizeLine; decide), fun q12 n12 => ?_⟩
    have eq12 : q12 ≠ p := (ne_of_none dp n12).symm
    have dp := up (o := .lst [.ref q11]) dp n12
    have fq1 := up (o := .lst [.ref q11]) fq1 n12
    have fq2 := up (o := .lst [.ref q11]) fq2 n12
    have fq3 := up (o := .lst [.ref q11]) fq3 n12
    have fq4 := up (o := .lst [.ref q11]) fq4 n12
    have fq5 := up (o := .lst [.ref q11]) fq5 n12
    have fq6 := up (o := .lst [.ref q11]) fq6 n12
    have fq7 := up (o := .lst [.ref q11]) fq7 n12
    have fq8 := up (o := .lst [.ref q11]) fq8 n12
    have fq9 := up (o := .lst [.ref q11]) fq9 n12
    have fq10 := up (o := .lst [.ref q11]) fq10 n12
    have fq11 := up (o := .lst [.ref q11]) fq11 n12
    have fq12 : (upd H11 q12 (.lst [.ref q11])) q12 = some (.lst [.ref q11]) := upd_same
    have ss := same_new (o := .lst [.ref q11]) ss n12
    generalize (upd H11 q12 (.lst [.ref q11])) = H12 at ss dp fq1 fq2 fq3 fq4 fq5 fq6 fq7 fq8 fq9 fq10 fq11 fq12 ⊢
    refine ⟨(by show 3 ≤ sizeLine; decide), fun q13 n13 => ?_⟩
    have eq13 : q13 ≠ p := (ne_of_none dp n13).symm
    have dp := up (o := .tup [.str "a", .int 1, .int 2]) dp n13
    have fq1 := up (o := .tup [.str "a", .int 1, .int 2]) fq1 n13
    have fq2 := up (o := .tup [.str "a", .int 1, .int 2]) fq2 n13
    have fq3 := up (o := .tup [.str "a", .int 1, .int 2]) fq3 n13
    have fq4 := up (o := .tup [.str "a", .int 1, .int 2]) fq4 n13
    have fq5 := up (o := .tup [.str "a", .int 1, .int 2]) fq5 n13
    have fq6 := up (o := .tup [.str "a", .int 1, .int 2]) fq6 n13
    have fq7 := up (o := .tup [.str "a", .int 1, .int 2]) fq7 n13
    have fq8 := up (o := .tup [.str "a", .int 1, .int 2]) fq8 n13
    have fq9 := up (o := .tup [.str "a", .int 1, .int 2]) fq9 n13
    have fq10 := up (o := .tup [.str "a", .int 1, .int 2]) fq10 n13
    have fq11 := up (o := .tup [.str "a", .int 1, .int 2]) fq11 n13
    have fq12 := up (o := .tup [.str "a", .int 1, .int 2]) fq12 n13
    have fq13 : (upd H12 q13 (.tup [.str "a", .int 1, .int 2])) q13 = some (.tup [.str "a", .int 1, .int 2]) := upd_same
    have ss := same_new (o := .tup [.str "a", .int 1, .int 2]) ss n13
    generalize (upd H12 q13 (.tup [.str "a", .int 1, .int 2])) = H13 at ss dp fq1 fq2 fq3 fq4 fq5 fq6 fq7 fq8 fq9 fq10 fq11 fq12 fq13 ⊢
    refine ⟨(by show 10 ≤ sizeLine; decide), fun q14 n14 => ?_⟩
    have eq14 : q14 ≠ p := (ne_of_none dp n14).symm
    have dp := up (o := .lst [.str "null", .int (10 ^ (59 : Int).toNat), .ref q8, .ref q9, .ref q10, .str "'a", .str " ", .str "a b", .ref q12, .ref q13]) dp n14
    have fq1 := up (o := .lst [.str "null", .int (10 ^ (59 : Int).toNat), .ref q8, .ref q9, .ref q10, .str "'a", .str " ", .str "a b", .ref q12, .ref q13]) fq1 n14
    have fq2 := up (o := .lst [.str "null", .int (10 ^ (59 : Int).toNat), .ref q8, .ref q9, .ref q10, .str "'a", .str " ", .str "a b", .ref q12, .ref q13]) fq2 n14
    have fq3 := up (o := .lst [.str "null", .int (10 ^ (59 : Int).toNat), .ref q8, .ref q9, .ref q10, .str "'a", .str " ", .str "a b", .ref q12, .ref q13]) fq3 n14
    have fq4 := up (o := .lst [.str "null", .int (10 ^ (59 : Int).toNat), .ref q8, .ref q9, .ref q10, .str "'a", .str " ", .str "a b", .ref q12, .ref q13]) fq4 n14
    have fq5 := up (o := .lst [.str "null", .int (10 ^ (59 : Int).toNat), .ref q8, .ref q9, .ref q10, .str "'a", .str " ", .str "a b", .ref q12, .ref q13]) fq5 n14
    have fq6 := up (o := .lst [.str "null", .int (10 ^ (59 : Int).toNat), .ref q8, .ref q9, .ref q10, .str "'a", .str " ", .str "a b", .ref q12, .ref q13]) fq6 n14
    have fq7 := up (o := .lst [.str "null", .int (10 ^ (59 : Int).toNat), .ref q8, .ref q9, .ref q10, .str "'a", .str " ", .str "a b", .ref q12, .ref q13]) fq7 n14
    have fq8 := up (o := .lst [.str "null", .int (10 ^ (59 : Int).toNat), .ref q8, .ref q9, .ref q10, .str "'a", .str " ", .str "a b", .ref q12, .ref q13]) fq8 n14
    have fq9 := up (o := .lst [.str "null", .int (10 ^ (59 : Int).toNat), .ref q8, .ref q9, .ref q10, .str "'a", .str " ", .str "a b", .ref q12, .ref q13]) fq9 n14
    have fq10 := up (o := .lst [.str "null", .int (10 ^ (59 : Int).toNat), .ref q8, .ref q9, .ref q10, .str "'a", .str " ", .str "a b", .ref q12, .ref q13]) fq10 n14
    have fq11 := up (o := .lst [.str "null", .int (10 ^ (59 : Int).toNat), .ref q8, .ref q9, .ref q10, .str "'a", .str " ", .str "a b", .ref q12, .ref q13]) fq11 n14
    have fq12 := up (o := .lst [.str "null", .int (10 ^ (59 : Int).toNat), .ref q8, .ref q9, .ref q10, .str "'a", .str " ", .str "a b", .ref q12, .ref q13]) fq12 n14
    have fq13 := up (o := .lst [.str "null", .int (10 ^ (59 : Int).toNat), .ref q8, .ref q9, .ref q10, .str "'a", .str " ", .str "a b", .ref q12, .ref q13]) fq13 n14
    have fq14 : (upd H13 q14 (.lst [.str "null", .int (10 ^ (59 : Int).toNat), .ref q8, .ref q9, .ref q10, .str "'a", .str " ", .str "a b", .ref q12, .ref q13])) q14 = some (.lst [.str "null", .int (10 ^ (59 : Int).toNat), .ref q8, .ref q9, .ref q10, .str "'a", .str " ", .str "a b", .ref q12, .ref q13]) := upd_same
    have ss := same_new (o := .lst [.str "null", .int (10 ^ (59 : Int).toNat), .ref q8, .ref q9, .ref q10, .str "'a", .str " ", .str "a b", .ref q12, .ref q13]) ss n14
    generalize (upd H13 q14 (.lst [.str "null", .int (10 ^ (59 : Int).toNat), .ref q8, .ref q9, .ref q10, .str "'a", .str " ", .str "a b", .ref q12, .ref q13])) = H14 at ss dp fq1 fq2 fq3 fq4 fq5 fq6 fq7 fq8 fq9 fq10 fq11 fq12 fq13 fq14 ⊢
    refine ⟨q7, q14, _, _, rfl, rfl, fq7, fq14, (by show 27 ≤ sizeLine; decide), fun q15 n15 => ?_⟩
    have eq15 : q15 ≠ p := (ne_of_none dp n15).symm
    have dp := up (o := .lst ([.non, .bl true, .bl false, .int 0, .int 1, .int (-1), .int (10 ^ (30 : Int).toNat + 1), .str "", .str "a", .str "A", .str "and", .ref q1, .ref q2, .ref q3, .ref q4, .ref q5, .ref q6] ++ [.str "null", .int (10 ^ (59 : Int).toNat), .ref q8, .ref q9, .ref q10, .str "'a", .str " ", .str "a b", .ref q12, .ref q13])) dp n15
    have fq1 := up (o := .lst ([.non, .bl true, .bl false, .int 0, .int 1, .int (-1), .int (10 ^ (30 : Int).toNat + 1), .str "", .str "a", .str "A", .str "and", .ref q1, .ref q2, .ref q3, .ref q4, .ref q5, .ref q6] ++ [.str "null", .int (10 ^ (59 : Int).toNat), .ref q8, .ref q9, .ref q10, .str "'a", .str " ", .str "a b", .ref q12, .ref q13])) fq1 n15
    have fq2 := up (o := .lst ([.non, .bl true, .bl false, .int 0, .int 1, .int (-1), .int (10 ^ (30 : Int).toNat + 1), .str "", .str "a", .str "A", .str "and", .ref q1, .ref q2, .ref q3, .ref q4, .ref q5, .ref q6] ++ [.str "null", .int (10 ^ (59 : Int).toNat), .ref q8, .ref q9, .ref q10, .str "'a", .str " ", .str "a b", .ref q12, .ref q13])) fq2 n15
    have fq3 := up (o := .lst ([.non, .bl true, .bl false, .int 0, .int 1, .int (-1), .int (10 ^ (30 : Int).toNat + 1), .str "", .str "a", .str "A", .str "and", .ref q1, .ref q2, .ref q3, .ref q4, .ref q5, .ref q6] ++ [.str "null", .int (10 ^ (59 : Int).toNat), .ref q8, .ref q9, .ref q10, .str "'a", .str " ", .str "a b", .ref q12, .ref q13])) fq3 n15
    have fq4 := up (o := .lst ([.non, .bl true, .bl false, .int 0, .int 1, .int (-1), .int (10 ^ (30 : Int).toNat + 1), .str "", .str "a", .str "A", .str "and", .ref q1, .ref q2, .ref q3, .ref q4, .ref q5, .ref q6] ++ [.str "null", .int (10 ^ (59 : Int).toNat), .ref q8, .ref q9, .ref q10, .str "'a", .str " ", .str "a b", .ref q12, .ref q13])) fq4 n15
    have fq5 := up (o := .lst ([.non, .bl true, .bl false, .int 0, .int 1, .int (-1), .int (10 ^ (30 : Int).toNat + 1), .str "", .str "a", .str "A", .str "and", .ref q1, .ref q2, .ref q3, .ref q4, .ref q5, .ref q6] ++ [.str "null", .int (10 ^ (59 : Int).toNat), .ref q8, .ref q9, .ref q10, .str "'a", .str " ", .str "a b", .ref q12, .ref q13])) fq5 n15
    have fq6 := up (o := .lst ([.non, .bl true, .bl false, .int 0, .int 1, .int (-1), .int (10 ^ (30 : Int).toNat + 1), .str "", .str "a", .str "A", .str "and", .ref q1, .ref q2, .ref q3, .ref q4, .ref q5, .ref q6] ++ [.str "null", .int (10 ^ (59 : Int).toNat), .ref q8, .ref q9, .ref q10, .str "'a", .str " ", .str "a b", .ref q12, .ref q13])) fq6 n15
    have fq7 := up (o := .lst ([.non, .bl true, .bl false, .int 0, .int 1, .int (-1), .int (10 ^ (30 : Int).toNat + 1), .str "", .str "a", .str "A", .str "and", .ref q1, .ref q2, .ref q3, .ref q4, .ref q5, .ref q6] ++ [.str "null", .int (10 ^ (59 : Int).toNat), .ref q8, .ref q9, .ref q10, .str "'a", .str " ", .str "a b", .ref q12, .ref q13])) fq7 n15
    have fq8 := up (o := .lst ([.non, .bl true, .bl false, .int 0, .int 1, .int (-1), .int (10 ^ (30 : Int).toNat + 1), .str "", .str "a", .str "A", .str "and", .ref q1, .ref q2, .ref q3, .ref q4, .ref q5, .ref q6] ++ [.str "null", .int (10 ^ (59 : Int).toNat), .ref q8, .ref q9, .ref q10, .str "'a", .str " ", .str "a b", .ref q12, .ref q13])) fq8 n15
    have fq9 := up (o := .lst ([.non, .bl true, .bl false, .int 0, .int 1, .int (-1), .int (10 ^ (30 : Int).toNat + 1), .str "", .str "a", .str "A", .str "and", .ref q1, .ref q2, .ref q3, .ref q4, .ref q5, .ref q6] ++ [.str "null", .int (10 ^ (59 : Int).toNat), .ref q8, .ref q9, .ref q10, .str "'a", .str " ", .str "a b", .ref q12, .ref q13])) fq9 n15
    have fq10 := up (o := .lst ([.non, .bl true, .bl false, .int 0, .int 1, .int (-1), .int (10 ^ (30 : Int).toNat + 1), .str "", .str "a", .str "A", .str "and", .ref q1, .ref q2, .ref q3, .ref q4, .ref q5, .ref q6] ++ [.str "null", .int (10 ^ (59 : Int).toNat), .ref q8, .ref q9, .ref q10, .str "'a", .str " ", .str "a b", .ref q12, .ref q13])) fq10 n15
    have fq11 := up (o := .lst ([.non, .bl true, .bl false, .int 0, .int 1, .int (-1), .int (10 ^ (30 : Int).toNat + 1), .str "", .str "a", .str "A", .str "and", .ref q1, .ref q2, .ref q3, .ref q4, .ref q5, .ref q6] ++ [.str "null", .int (10 ^ (59 : Int).toNat), .ref q8, .ref q9, .ref q10, .str "'a", .str " ", .str "a b", .ref q12, .ref q13])) fq11 n15
    have fq12 := up (o := .lst ([.non, .bl true, .bl false, .int 0, .int 1, .int (-1), .int (10 ^ (30 : Int).toNat + 1), .str "", .str "a", .str "A", .str "and", .ref q1, .ref q2, .ref q3, .ref q4, .ref q5, .ref q6] ++ [.str "null", .int (10 ^ (59 : Int).toNat), .ref q8, .ref q9, .ref q10, .str "'a", .str " ", .str "a b", .ref q12, .ref q13])) fq12 n15
    have fq13 := up (o := .lst ([.non, .bl true, .bl false, .int 0, .int 1, .int (-1), .int (10 ^ (30 : Int).toNat + 1), .str "", .str "a", .str "A", .str "and", .ref q1, .ref q2, .ref q3, .ref q4, .ref q5, .ref q6] ++ [.str "null", .int (10 ^ (59 : Int).toNat), .ref q8, .ref q9, .ref q10, .str "'a", .str " ", .str "a b", .ref q12, .ref q13])) fq13 n15
    have fq14 := up (o := .lst ([.non, .bl true, .bl false, .int 0, .int 1, .int (-1), .int (10 ^ (30 : Int).toNat + 1), .str "", .str "a", .str "A", .str "and", .ref q1, .ref q2, .ref q3, .ref q4, .ref q5, .ref q6] ++ [.str "null", .int (10 ^ (59 : Int).toNat), .ref q8, .ref q9, .ref q10, .str "'a", .str " ", .str "a b", .ref q12, .ref q13])) fq14 n15
    have fq15 : (upd H14 q15 (.lst ([.non, .bl true, .bl false, .int 0, .int 1, .int (-1), .int (10 ^ (30 : Int).toNat + 1), .str "", .str "a", .str "A", .str "and", .ref q1, .ref q2, .ref q3, .ref q4, .ref q5, .ref q6] ++ [.str "null", .int (10 ^ (59 : Int).toNat), .ref q8, .ref q9, .ref q10, .str "'a", .str " ", .str "a b", .ref q12, .ref q13]))) q15 = some (.lst ([.non, .bl true, .bl false, .int 0, .int 1, .int (-1), .int (10 ^ (30 : Int).toNat + 1), .str "", .str "a", .str "A", .str "and", .ref q1, .ref q2, .ref q3, .ref q4, .ref q5, .ref q6] ++ [.str "null", .int (10 ^ (59 : Int).toNat), .ref q8, .ref q9, .ref q10, .str "'a", .str " ", .str "a b", .ref q12, .ref q13])) := upd_same
    have ss := same_new (o := .lst ([.non, .bl true, .bl false, .int 0, .int 1, .int (-1), .int (10 ^ (30 : Int).toNat + 1), .str "", .str "a", .str "A", .str "and", .ref q1, .ref q2, .ref q3, .ref q4, .ref q5, .ref q6] ++ [.str "null", .int (10 ^ (59 : Int).toNat), .ref q8, .ref q9, .ref q10, .str "'a", .str " ", .str "a b", .ref q12, .ref q13])) ss n15
    generalize (upd H14 q15 (.lst ([.non, .bl true, .bl false, .int 0, .int 1, .int (-1), .int (10 ^ (30 : Int).toNat + 1), .str "", .str "a", .str "A", .str "and", .ref q1, .ref q2, .ref q3, .ref q4, .ref q5, .ref q6] ++ [.str "null", .int (10 ^ (59 : Int).toNat), .ref q8, .ref q9, .ref q10, .str "'a", .str " ", .str "a b", .ref q12, .ref q13]))) = H15 at ss dp fq1 fq2 fq3 fq4 fq5 fq6 fq7 fq8 fq9 fq10 fq11 fq12 fq13 fq14 fq15 ⊢
    refine ⟨_, rfl, _, rfl, p, c, q15, ns, t, l, _, rfl, D.same ss, ht, SqL.of fq15, (by simp), (by show 27 < 1000000; decide), fun x t' l' H' hx h1 D' b => ?_⟩
    have bb : But p H H' := (But.of ss).trans b
    have gq1 := b _ _ eq1 fq1
    have gq2 := b _ _ eq2 fq2
    have gq3 := b _ _ eq3 fq3
    have gq4 := b _ _ eq4 fq4
    have gq5 := b _ _ eq5 fq5
    have gq6 := b _ _ eq6 fq6
    have gq8 := b _ _ eq8 fq8
    have gq9 := b _ _ eq9 fq9
    have gq10 := b _ _ eq10 fq10
    have gq11 := b _ _ eq11 fq11
    have gq12 := b _ _ eq12 fq12
    have gq13 := b _ _ eq13 fq13
    rcases List.mem_cons.mp hx with rfl | hx
    · exact k _ (.none) t' l' H' (.dp .non rfl) (by decide +kernel) h1 D' bb
    rcases List.mem_cons.mp hx with rfl | hx
    · exact k _ (.bool true) t' l' H' (.dp (.bl _) rfl) (by decide +kernel) h1 D' bb
    rcases List.mem_cons.mp hx with rfl | hx
    · exact k _ (.bool false) t' l' H' (.dp (.bl _) rfl) (by decide +kernel) h1 D' bb
    rcases List.mem_cons.mp hx with rfl | hx
    · exact k _ (.int 0) t' l' H' (.dp (.int _) rfl) (by decide +kernel) h1 D' bb
    rcases List.mem_cons.mp hx with rfl | hx
    · exact k _ (.int 1) t' l' H' (.dp (.int _) rfl) (by decide +kernel) h1 D' bb
    rcases List.mem_cons.mp hx with rfl | hx
    · exact k _ (.int (-1)) t' l' H' (.dp (.int _) rfl) (by decide +kernel) h1 D' bb
    rcases List.mem_cons.mp hx with rfl | hx
    · exact k _ (.int (10 ^ (30 : Int).toNat + 1)) t' l' H' (.dp (.int _) rfl) (by decide +kernel) h1 D' bb
    rcases List.mem_cons.mp hx with rfl | hx
    · exact k _ (.str "") t' l' H' (.dp (.str _) rfl) (by decide +kernel) h1 D' bb
    rcases List.mem_cons.mp hx with rfl | hx
    · exact k _ (.str "a") t' l' H' (.dp (.str _) rfl) (by decide +kernel) h1 D' bb
    rcases List.mem_cons.mp hx with rfl | hx
    · exact k _ (.str "A") t' l' H' (.dp (.str _) rfl) (by decide +kernel) h1 D' bb
    rcases List.mem_cons.mp hx with rfl | hx
    · exact k _ (.str "and") t' l' H' (.dp (.str _) rfl) (by decide +kernel) h1 D' bb
    rcases List.mem_cons.mp hx with rfl | hx
    · exact k _ (.tuple []) t' l' H' (.dp (.tup (SqT.of gq1) .nil) rfl) (by decide +kernel) h1 D' bb
    rcases List.mem_cons.mp hx with rfl | hx
    · exact k _ (.tuple [.int 1]) t' l' H' (.dp (.tup (SqT.of gq2) (.cons (.int _) .nil)) rfl) (by decide +kernel) h1 D' bb
    rcases List.mem_cons.mp hx with rfl | hx
    · exact k _ (.list [.int 1]) t' l' H' (.dp (.lst (SqL.of gq3) (.cons (.int _) .nil)) rfl) (by decide +kernel) h1 D' bb
    rcases List.mem_cons.mp hx with rfl | hx
    · exact k _ (.dict []) t' l' H' (.d0 gq4) (by decide +kernel) h1 D' bb
    rcases List.mem_cons.mp hx with rfl | hx
    · exact k _ (.dict [(.str "a", .int 1)]) t' l' H' (.d1 gq5) (by decide +kernel) h1 D' bb
    rcases List.mem_cons.mp hx with rfl | hx
    · exact k _ (.tuple [.none]) t' l' H' (.dp (.tup (SqT.of gq6) (.cons .non .nil)) rfl) (by decide +kernel) h1 D' bb
    rcases List.mem_cons.mp hx with rfl | hx
    · exact k _ (.str "null") t' l' H' (.dp (.str _) rfl) (by decide +kernel) h1 D' bb
    rcases List.mem_cons.mp hx with rfl | hx
    · exact k _ (.int (10 ^ (59 : Int).toNat)) t' l' H' (.dp (.int _) rfl) (by decide +kernel) h1 D' bb
    rcases List.mem_cons.mp hx with rfl | hx
    · exact k _ (.tuple [.str "-"]) t' l' H' (.dp (.tup (SqT.of gq8) (.cons (.str _) .nil)) rfl) (by decide +kernel) h1 D' bb
    rcases List.mem_cons.mp hx with rfl | hx
    · exact k _ (.tuple [.str "+", .str "-"]) t' l' H' (.dp (.tup (SqT.of gq9) (.cons (.str _) (.cons (.str _) .nil))) rfl) (by decide +kernel) h1 D' bb
    rcases List.mem_cons.mp hx with rfl | hx
    · exact k _ (.tuple [.int 1, .str "a"]) t' l' H' (.dp (.tup (SqT.of gq10) (.cons (.int _) (.cons (.str _) .nil))) rfl) (by decide +kernel) h1 D' bb
    rcases List.mem_cons.mp hx with rfl | hx
    · exact k _ (.str "'a") t' l' H' (.dp (.str _) rfl) (by decide +kernel) h1 D' bb
    rcases List.mem_cons.mp hx with rfl | hx
    · exact k _ (.str " ") t' l' H' (.dp (.str _) rfl) (by decide +kernel) h1 D' bb
    rcases List.mem_cons.mp hx with rfl | hx
    · exact k _ (.str "a b") t' l' H' (.dp (.str _) rfl) (by decide +kernel) h1 D' bb
    rcases List.mem_cons.mp hx with rfl | hx
    · exact k _ (.list [.tuple [.str "a", .int 1]]) t' l' H' (.dp (.lst (SqL.of gq12) (.cons (.tup (SqT.of gq11) (.cons (.str _) (.cons (.int _) .nil))) .nil)) rfl) (by decide +kernel) h1 D' bb
    rcases List.mem_cons.mp hx with rfl | hx
    · exact k _ (.tuple [.str "a", .int 1, .int 2]) t' l' H' (.dp (.tup (SqT.of gq13) (.cons (.str _) (.cons (.int _) (.cons (.int _) .nil)))) rfl) (by decide +kernel) h1 D' bb
    cases hx
end
end K26
set_option Elab.async false
set_option linter.all false
set_option maxRecDepth 100000
set_option maxHeartbeats 4000000
/-! _law_value, _law_end -/
namespace K26
open K34 PySem PySem.Spec PyProof.Rows L2
/-- a def: where it stands, its promise, how it is called -/
structure Fn1 (P : Program) (w : World) (K : PySem.W.Frag) (mg : Str → Option Value) (base : Heap) (k : Nat) (x : Str) (ps : List Str) (sp : Sp) where
  a : Addr
  fd : FuncData
  ok : FnOk P w K mg base CX0 k a fd ps sp
  g : mg x = some (.ref a)
  k : PySem.W.keepIn K (.ref a) = true
  b : Binds K fd ps []
/-- (x,) * 1 is the tuple itself -/
theorem tuple_mul1 (l : Addr) (items : Array Value) (n : Nat) (dd : Option Addr) (sl : Array (Option Value)) (u : Tok) :
    Meets (Builtin.«tuple.__mul__» ⟨[.ref l, .int 1 u], []⟩) (fun _ R s => s.heap.get? l = some { cls := .type "tuple", dict := dd, data := .seq items n, slots := sl } ∧ R (.ok (.ret (Value.ref l))) s) :=
  .of_wp fun prog w A R s h => by
    obtain ⟨hp, g, d, tk, os⟩ := s
    obtain ⟨hl, h⟩ := h
    have f1 := AutoSeq1.idx_int
    have c0 : (decide ((1 : Int) < -(2 ^ 63)) || decide ((1 : Int) ≥ 2 ^ 63)) = false := by decide
    have c1 : (items.isEmpty || (1 : Int) == 1) = true := by rw [show ((1 : Int) == 1) = true from rfl, Bool.or_true]
    wp_walk using wpAny_loadPart' hl
    repeat (first
      | (refine wpAny_ite_false (decide_eq_false (by rw [c0]; exact Bool.false_ne_true)) ?_; wp_walk using wpAny_loadPart' hl)
      | (refine wpAny_ite_true (decide_eq_true (by exact c1)) ?_; wp_walk using wpAny_loadPart' hl))
    exact ⟨_, rfl, h⟩
def rRepE (K : PySem.W.Frag) : R2 := fun x y H Q => ∃ (l : Addr) (k : Nat) (v : V), x = .ref l ∧ y = .int (k : Nat) ∧ SqT K H l [v] ∧ 1 ≤ k ∧ k ≤ 2 ∧ ∀ p H', Same H H' → SqT K H' p (List.replicate k v) → Q (.ref p) H'
theorem op_repE {X : Cx} : OpR X (binaryOp .Mult) (rRepE X.K) := by
  intro pins s σ H x y v u Q I rx ry h
  obtain ⟨l, k, z, rfl, rfl, hT, h1, h2, q⟩ := h
  rcases (show k = 1 ∨ k = 2 by omega) with rfl | rfl
  · cases rx
    obtain ⟨t, rfl⟩ := ry
    obtain ⟨its, r, ⟨⟨cls, dd, data, sl⟩, ho, hc, n, hd⟩, hs⟩ := I.tuple hT
    simp only at hc hd
    subst hc hd
    refine wpAny_binaryOp_repeat_ref (T := "tuple") (U := "int") (by decide) ⟨_, ho, rfl⟩ (fun s' => typeIs_int s' _ t) noFill_tuple_mul F.fills_int_mul F.slot_int_rmul repeat_tuple F.slot_int_index.lookup
      (call_meets F.slot_int_rmul (typeIs_int s _ t) F.entry_int_rmul (F.args_int_rmul_2 _ _) (int_rmul_tuple _ t l its.toArray n dd sl)
        ⟨ho, rfl, ⟨_, ho, rfl⟩, call_meets F.slot_tuple_mul ⟨_, ho, rfl⟩ F.entry_tuple_mul (F.args_tuple_mul_2 _ _) (tuple_mul1 l its.toArray n dd sl t) ⟨ho, ?_⟩⟩)
    exact ⟨.ref l, H, I, rfl, q l H (Same.refl H) hT⟩
  · exact op_repT pins s σ H _ _ _ _ Q I rx ry ⟨l, 2, [z], rfl, rfl, hT, by simp, by decide, by decide, by show 1 ≤ 1000; decide, fun p hp => q p _ (same_new (Same.refl H) hp) (SqT.of upd_same)⟩
theorem pen_new {H : Hp} {q p c : Addr} {ns : List Int} {t l : Int} {o : HO} (D : PenAt H p c ns t l) (n : H q = none) : PenAt (upd H q o) p c ns t l := D.same (same_new (Same.refl H) n)
theorem sqL_but {K : PySem.W.Frag} {H H' : Hp} {p o : Addr} {xs : List V} {kvs : List (Key × V)} (hp : H p = some (.dK kvs)) (b : But p H H') (h : SqL K H o xs) : SqL K H' o xs := by
  rcases h with (h | ⟨u, h⟩) | h
  · exact .inl (.inl (b _ _ (ne_of h hp (by intro z; cases z)) h))
  · exact .inl (.inr ⟨u, b _ _ (ne_of h hp (by intro z; cases z)) h⟩)
  · exact .inr h
def kV (b : Bool) : V := .str (if b = true then "word" else "number")
/-- an entry for a column of this kind -/
def fitE (e : En) (b : Bool) : Bool := isSg e || (isWr e == b)
structure Fits (es : List En) (ks : List Bool) : Prop where
  l : es.length = ks.length
  t : ∀ (i : Nat) (e : En) (b : Bool), es[i]? = some e → ks[i]? = some b → fitE e b = true
theorem Fits.agr {es fs : List En} {ks : List Bool} (h1 : Fits es ks) (h2 : Fits fs ks) : agr es fs = true := by
  refine List.all_eq_true.mpr fun q hq => ?_
  obtain ⟨i, hi⟩ := List.getElem?_of_mem hq
  obtain ⟨e1, e2⟩ := List.getElem?_zip_eq_some.mp hi
  have lt : i < ks.length := by
    have := (List.getElem?_eq_some_iff.mp e1).1
    have := h1.l
    omega
  have z1 := h1.t i _ _ e1 (List.getElem?_eq_getElem lt)
  have z2 := h2.t i _ _ e2 (List.getElem?_eq_getElem lt)
  rw [agr1_wr]
  unfold fitE at z1 z2
  revert z1 z2
  cases isSg q.1 <;> cases isSg q.2 <;> cases isWr q.1 <;> cases isWr q.2 <;> cases ks[i] <;> decide
def spVal (K : PySem.W.Frag) : Sp := fun vs H Q _ => ∃ (p c : Addr) (ns : List Int) (t l : Int) (b : Bool), vs = [.ref p, kV b] ∧ PenAt H p c ns t l ∧ t + 3 < 1000000000000 ∧
  ∀ (e : En) (t' l' : Int) (H' : Hp), isSg e = false → isWr e = b → enOk e = true → t' ≤ t + 3 → PenAt H' p c ns t' l' → But p H H' → Q (enV e) H'
def spEnd (K : PySem.W.Frag) : Sp := fun vs H Q _ => ∃ (p c o : Addr) (ns : List Int) (t l : Int) (ks : List Bool), vs = [.ref p, .ref o] ∧ PenAt H p c ns t l ∧ t + 20 < 1000000000000 ∧ SqL K H o (ks.map kV) ∧ 1 ≤ ks.length ∧ ks.length ≤ 2 ∧
  ∀ (r : Addr) (es : List En) (t' l' : Int) (H' : Hp), Fits es ks → es.all enOk = true → endOk es = true → t' ≤ t + 20 → PenAt H' p c ns t' l' → But p H H' → SqT K H' r (es.map enV) → Q (.ref r) H'
theorem scValue : FnScope ["_law_pen_here", "_law_sort", "_law_small"] ["_law_pen_here", "_law_sort"] (defScope sValue) := ⟨rfl, rfl, rfl, by decide +kernel, rfl, by decide +kernel, by decide +kernel⟩
theorem scLEnd : FnScope ["_law_pen_here", "_law_sorts", "_law_first"] ["_law_pen_here", "_law_sorts"] (defScope sLEnd) := ⟨rfl, rfl, rfl, by decide +kernel, rfl, by decide +kernel, by decide +kernel⟩
def wlist : List Str := ["a", "aa", "ab", "b", "ba", "c", "m", "zz", "zzzzzzzz", "zzzzzzzy"]
theorem wlist_ok : ∀ y ∈ wlist, wordS y = true := by decide +kernel
theorem isN_le {i : Int} (h1 : -(10 ^ 30) ≤ i) (h2 : i ≤ 10 ^ 30) : enOk (.num i) = true := by
  show (decide (-(10 ^ 30) ≤ i) && decide (i ≤ 10 ^ 30)) = true
  rw [decide_eq_true h1, decide_eq_true h2]
  rfl
section
variable {P : Program} {w : World} {K : PySem.W.Frag} {mg : Str → Option Value} {base : Heap} {f fD fP fA fV : Addr} {fd fdD fdP fdA fdV : FuncData}
theorem ok_value (F : FnP K "_law_value" sValue f fd) (GD : Fn1 P w K mg base 1 "_law_draw" ["_law_pen_here", "_law_many"] spDraw) (GP : Fn1 P w K mg base 2 "_law_pick" ["_law_pen_here", "_law_options"] (spPick K)) :
    FnOk P w K mg base CX0 3 f fd ["_law_pen_here", "_law_sort"] (spVal K) := by
  refine F.ok scValue (fun vs H Q E h => ?_) (fun cdv A outer s H vs Q E hr h => ?_)
  · obtain ⟨p, c, ns, t, l, b, rfl, _⟩ := h
    rfl
  · obtain ⟨p, c, ns, t, l, b, rfl, D, ht, k⟩ := h
    have nd := scValue.nd
    refine ⟨_, PSs.nox (pss_cons (ps_if (pt_cmpR op_eq (pv 1) pe_str (nomark _))
        (pss_one (ps_ret (pe_call GP.ok (hr.mono (by decide)) rfl GP.g GP.k GP.b .nil pass0 (pa_cons (pv 0) (pa_cons (pe_lst (pa_cons pe_str (pa_cons pe_str (pa_cons pe_str (pa_cons pe_str (pa_cons pe_str (pa_cons pe_str (pa_cons pe_str (pa_cons pe_str (pa_cons pe_str (pa_cons pe_str pa_nil))))))))))) pa_nil))))) pss_nil)
      (pss_cons (ps_set (i := 2) nd rfl (Or.inl rfl) (pe_op op_sub (pe_call GD.ok (hr.mono (by decide)) rfl GD.g GD.k GD.b .nil pass0 (pa_cons (pv 0) (pa_cons pe_int pa_nil))) pe_int))
      (pss_one (ps_ret (pe_call GP.ok (hr.mono (by decide)) rfl GP.g GP.k GP.b .nil pass0 (pa_cons (pv 0) (pa_cons (pe_lst (pa_cons (pv 2) (pa_cons (pv 2) (pa_cons (pv 2) (pa_cons (pv 2) (pa_cons (pv 2) (pa_cons (pe_op op_pow pe_int pe_int) (pa_cons (pe_un un_neg (pe_op op_pow pe_int pe_int)) (pa_cons (pe_op op_sub (pe_call GD.ok (hr.mono (by decide)) rfl GD.g GD.k GD.b .nil pass0 (pa_cons (pv 0) (pa_cons pe_int pa_nil))) pe_int) pa_nil))))))))) pa_nil))))))), ?_⟩
    cases b with
    | true =>
      refine ⟨_, rfl, rfl, true, by decide +kernel, ?_⟩
      refine iteT ?_
      refine ⟨_, rfl, (by show 10 ≤ sizeLine; decide), fun q hq => ?_⟩
      refine ⟨p, c, q, ns, t, l, _, rfl, pen_new D hq, by omega, SqL.of upd_same, by simp, (by show 10 < 1000000; decide), fun x t' l' H' hx h1 D' b => ?_⟩
      obtain ⟨y, hy, rfl⟩ : ∃ y ∈ wlist, x = V.str y := by
        have hx : x ∈ wlist.map V.str := hx
        obtain ⟨y, h1, h2⟩ := List.mem_map.mp hx
        exact ⟨y, h1, h2.symm⟩
      exact k (.wrd y) t' l' H' rfl rfl (wlist_ok y hy) (by omega) D' ((But.of (same_new (Same.refl H) hq)).trans b)
    | false =>
      refine ⟨_, rfl, rfl, false, by decide +kernel, ?_⟩
      refine iteF ?_
      refine ⟨_, rfl, p, c, ns, t, l, 9, rfl, D, by omega, by decide, by decide, fun j t1 l1 H1 j0 j1 h1 D1 b1 => ?_⟩
      refine ⟨_, _, rfl, rfl, _, rfl, _, rfl, _, rfl, _, rfl, _, rfl, _, rfl, _, _, rfl, rfl, ⟨by decide, by decide, by decide⟩, _, _, rfl, rfl, ⟨by decide, by decide, by decide⟩, _, rfl, ?_⟩
      refine ⟨_, rfl, p, c, ns, t1, l1, 200, rfl, D1, by omega, by decide, by decide, fun j2 t2 l2 H2 j3 j4 h2 D2 b2 => ?_⟩
      refine ⟨_, _, rfl, rfl, (by show 8 ≤ sizeLine; decide), fun q hq => ?_⟩
      refine ⟨p, c, q, ns, t2, l2, _, rfl, pen_new D2 hq, by omega, SqL.of upd_same, by simp, (by show 8 < 1000000; decide), fun x t' l' H' hx h3 D' b => ?_⟩
      obtain ⟨i, rfl, hi⟩ : ∃ i, x = V.int i ∧ enOk (.num i) = true := by
        have e30 : (10 : Int) ^ (30 : Int).toNat = 10 ^ 30 := rfl
        simp only [List.mem_cons, List.not_mem_nil, or_false] at hx
        rcases hx with h | h | h | h | h | h | h | h
        · exact ⟨_, h, isN_le (by omega) (by omega)⟩
        · exact ⟨_, h, isN_le (by omega) (by omega)⟩
        · exact ⟨_, h, isN_le (by omega) (by omega)⟩
        · exact ⟨_, h, isN_le (by omega) (by omega)⟩
        · exact ⟨_, h, isN_le (by omega) (by omega)⟩
        · exact ⟨_, h, isN_le (by rw [e30]; decide) (by rw [e30]; decide)⟩
        · exact ⟨_, h, isN_le (by rw [e30]; decide) (by rw [e30]; decide)⟩
        · exact ⟨_, h, isN_le (by omega) (by omega)⟩
      exact k (.num i) t' l' H' rfl rfl hi (by omega) D' (((b1.trans b2).anew hq).trans b)
theorem ok_end (F : FnP K "_law_end" sLEnd f fd) (T : TxB mg) (GD : Fn1 P w K mg base 1 "_law_draw" ["_law_pen_here", "_law_many"] spDraw) (GP : Fn1 P w K mg base 2 "_law_pick" ["_law_pen_here", "_law_options"] (spPick K)) (GV : Fn1 P w K mg base 3 "_law_value" ["_law_pen_here", "_law_sort"] (spVal K)) :
    FnOk P w K mg base CX0 4 f fd ["_law_pen_here", "_law_sorts"] (spEnd K) := by
  refine F.ok scLEnd (fun vs H Q E h => ?_) (fun cdv A outer s H vs Q E hr h => ?_)
  · obtain ⟨p, c, o, ns, t, l, ks, rfl, _⟩ := h
    rfl
  · obtain ⟨p, c, o, ns, t, l, ks, rfl, D, ht, hs, k1, k2, k⟩ := h
    have nd := scLEnd.nd
    have hr1 : Room 1 _ := hr.mono (by decide)
    have hr2 : Room 2 _ := hr.mono (by decide)
    refine ⟨_, PSs.nox (pss_cons (ps_if (pt_cmpR op_eq (pe_call GD.ok hr1 rfl GD.g GD.k GD.b .nil pass0 (pa_cons (pv 0) (pa_cons pe_int pa_nil))) pe_int (nomark _))
        (pss_one (ps_ret (pe_op op_repE (pe_tup (pa_cons (pe_call GP.ok hr2 rfl GP.g GP.k GP.b .nil pass0 (pa_cons (pv 0) (pa_cons (pe_lst (pa_cons pe_str (pa_cons pe_str pa_nil))) pa_nil))) pa_nil)) (pe_callB call_len_seq (by rfl) T.len PySem.boot_len (pa_cons (pv 1) pa_nil))))) pss_nil)
      (pss_cons (ps_set (i := 2) nd rfl (Or.inl rfl) (pe_call GV.ok hr rfl GV.g GV.k GV.b .nil pass0 (pa_cons (pv 0) (pa_cons (pe_ix ix_list (pv 1) pe_int (fun _ _ => rfl)) pa_nil))))
      (pss_cons (ps_if (pt_cmpR op_eq (pe_callB call_len_seq (by rfl) T.len PySem.boot_len (pa_cons (pv 1) pa_nil)) pe_int (nomark _)) (pss_one (ps_ret (pe_tup (pa_cons (pv 2) pa_nil)))) pss_nil)
      (pss_one (ps_ret (pe_tup (pa_cons (pv 2) (pa_cons (pe_call GP.ok hr2 rfl GP.g GP.k GP.b .nil pass0 (pa_cons (pv 0) (pa_cons (pe_lst (pa_cons pe_str (pa_cons pe_str (pa_cons (pe_call GV.ok hr rfl GV.g GV.k GV.b .nil pass0 (pa_cons (pv 0) (pa_cons (pe_ix ix_list (pv 1) pe_int (fun _ _ => rfl)) pa_nil))) (pa_cons (pe_call GV.ok hr rfl GV.g GV.k GV.b .nil pass0 (pa_cons (pv 0) (pa_cons (pe_ix ix_list (pv 1) pe_int (fun _ _ => rfl)) pa_nil))) pa_nil))))) pa_nil))) pa_nil)))))))), ?_⟩
    obtain ⟨b0, hb0⟩ : ∃ b0, ks[0]? = some b0 := ⟨_, List.getElem?_eq_getElem (by omega)⟩
    refine ⟨_, rfl, p, c, ns, t, l, 8, rfl, D, by omega, by decide, by decide, fun j t1 l1 H1 j0 j1 h1 D1 b1 => ?_⟩
    have hs1 := sqL_but D.d b1 hs
    refine ⟨rfl, _, rfl, ?_⟩
    refine ite2 (fun _ => ?_) (fun _ => ?_)
    · refine ⟨_, rfl, (by show 2 ≤ sizeLine; decide), fun q hq => ?_⟩
      refine ⟨p, c, q, ns, t1, l1, _, rfl, pen_new D1 hq, by omega, SqL.of upd_same, by simp, (by show 2 < 1000000; decide), fun x t' l' H' hx h2 D' b => ?_⟩
      obtain ⟨e, rfl, hs, ho⟩ : ∃ e : En, x = enV e ∧ isSg e = true ∧ enOk e = true := by
        simp only [List.mem_cons, List.not_mem_nil, or_false] at hx
        rcases hx with h | h
        · exact ⟨.lo, h, rfl, rfl⟩
        · exact ⟨.hi, h, rfl, rfl⟩
      have b2 := (b1.anew hq).trans b
      have hs2 := sqL_but (D1.same (same_new (Same.refl H1) hq)).d b (sqL_same hs1 (same_new (Same.refl H1) hq))
      refine ⟨(by show 1 ≤ sizeLine; decide), fun r hr => ?_⟩
      have s3 := same_new (o := .tup [enV e]) (Same.refl H') hr
      refine ⟨_, rfl, o, _, rfl, .inl (sqL_same hs2 s3), r, (ks.map kV).length, enV e, rfl, rfl, SqT.of upd_same, by rw [List.length_map]; exact k1, by rw [List.length_map]; exact k2, fun z H4 s4 h4 => ?_⟩
      refine k z (List.replicate ks.length e) t' l' H4 ⟨List.length_replicate, fun i e' b' h1 h2 => ?_⟩ (List.all_eq_true.mpr fun y hy => by rw [(List.mem_replicate.mp hy).2]; exact ho) (by rcases (show ks.length = 1 ∨ ks.length = 2 by omega) with z | z <;> rw [z] <;> simp [endOk]) (by omega) ((D'.same s3).same s4) (b2.trans (But.of (s3.trans s4))) ?_
      · have z := List.mem_of_getElem? h1
        rw [(List.mem_replicate.mp z).2]
        unfold fitE
        rw [hs]
        rfl
      · rw [List.map_replicate]
        rw [List.length_map] at h4
        exact h4
    · have at0 : atI (ks.map kV) ((0 : Nat) : Int) = some (kV b0) := atI_nat (by rw [List.getElem?_map, hb0]; rfl)
      refine ⟨_, rfl, _, rfl, o, _, 0, kV b0, rfl, rfl, hs1, at0, p, c, ns, t1, l1, b0, rfl, D1, by omega, fun e t2 l2 H2 n2 w2 o2 h2 D2 b2 => ?_⟩
      have hs2 := sqL_but D1.d b2 hs1
      have f0 : fitE e b0 = true := by
        unfold fitE
        rw [w2, beq_self_eq_true, Bool.or_true]
      refine ⟨_, rfl, o, _, rfl, .inl hs2, rfl, _, rfl, ?_⟩
      rw [List.length_map]
      by_cases kl : ks.length = 1
      · refine itT (by rw [kl]; decide) ?_
        refine ⟨_, rfl, (by show 1 ≤ sizeLine; decide), fun r hr => ?_⟩
        have s3 := same_new (o := .tup [enV e]) (Same.refl H2) hr
        refine k r [e] t2 l2 _ ⟨by rw [kl]; rfl, fun i e' b' h1 h2 => ?_⟩ (by rw [List.all_cons, o2]; rfl) rfl (by omega) (D2.same s3) ((b1.trans b2).trans (But.of s3)) (SqT.of upd_same)
        match i, h1 with
        | 0, h1 =>
          cases h1
          rw [hb0] at h2
          cases h2
          exact f0
      · have kl : ks.length = 2 := by omega
        refine itF (by rw [kl]; decide) ?_
        obtain ⟨b1', hb1⟩ : ∃ b1', ks[1]? = some b1' := ⟨_, List.getElem?_eq_getElem (by omega)⟩
        have at1 : atI (ks.map kV) ((1 : Nat) : Int) = some (kV b1') := atI_nat (by rw [List.getElem?_map, hb1]; rfl)
        refine ⟨_, rfl, _, rfl, _, rfl, _, rfl, o, _, 1, kV b1', rfl, rfl, hs2, at1, p, c, ns, t2, l2, b1', rfl, D2, by omega, fun e3 t3 l3 H3 n3 w3 o3 h3 D3 b3 => ?_⟩
        have hs3 := sqL_but D2.d b3 hs2
        refine ⟨_, rfl, _, rfl, o, _, 1, kV b1', rfl, rfl, hs3, at1, p, c, ns, t3, l3, b1', rfl, D3, by omega, fun e4 t4 l4 H4 n4 w4 o4 h4 D4 b4 => ?_⟩
        refine ⟨(by show 4 ≤ sizeLine; decide), fun q hq => ?_⟩
        have s5 := same_new (o := .lst [.str "-", .str "+", enV e3, enV e4]) (Same.refl H4) hq
        refine ⟨p, c, q, ns, t4, l4, _, rfl, pen_new D4 hq, by omega, SqL.of upd_same, by simp, (by show 4 < 1000000; decide), fun x t6 l6 H6 hx h6 D6 b6 => ?_⟩
        obtain ⟨e5, rfl, f5, o5⟩ : ∃ e5 : En, x = enV e5 ∧ fitE e5 b1' = true ∧ enOk e5 = true := by
          have fw : ∀ {e : En}, isWr e = b1' → fitE e b1' = true := fun {e} w => by
            unfold fitE
            rw [w, beq_self_eq_true, Bool.or_true]
          simp only [List.mem_cons, List.not_mem_nil, or_false] at hx
          rcases hx with h | h | h | h
          · exact ⟨.lo, h, rfl, rfl⟩
          · exact ⟨.hi, h, rfl, rfl⟩
          · exact ⟨e3, h, fw w3, o3⟩
          · exact ⟨e4, h, fw w4, o4⟩
        refine ⟨(by show 2 ≤ sizeLine; decide), fun r hr => ?_⟩
        have s7 := same_new (o := .tup [enV e, enV e5]) (Same.refl H6) hr
        refine k r [e, e5] t6 l6 _ ⟨by rw [kl]; rfl, fun i e' b' h1 h2 => ?_⟩ (by rw [List.all_cons, List.all_cons, o2, o5]; rfl) (by show (!isSg e || _) = true; rw [n2]; rfl) (by omega) (D6.same s7) (((((b1.trans b2).trans b3).trans b4).trans ((But.of s5).trans b6)).trans (But.of s7)) (SqT.of upd_same)
        match i, h1 with
        | 0, h1 =>
          cases h1
          rw [hb0] at h2
          cases h2
          exact f0
        | 1, h1 =>
          cases h1
          rw [hb1] at h2
          cases h2
          exact f5
end
end K26
set_option Elab.async false
set_option linter.all false
set_option maxRecDepth 100000
set_option maxHeartbeats 4000000
/-! repr of ends and of pairs of what stands for ends; equal writings are equal ends -/
namespace K26
open K34 PySem PySem.Spec PyProof.Rows L2
/-! ### the writing of an entry -/
theorem cps_app (x y : Str) : (x ++ y).cps.toList = x.cps.toList ++ y.cps.toList := by
  show (x.cps ++ y.cps).toList = _
  rw [Array.toList_append]
theorem str_ext {x y : Str} (h : x.cps.toList = y.cps.toList) : x = y := by
  cases x; cases y
  simp only [Str.mk.injEq]
  exact Array.toList_inj.mp h
def plC (c : Nat) : Bool := lowN c || (c == 45 || c == 43)
theorem rc_plain : ∀ c : Nat, plC c = true → Builtin.Str.reprChar 39 c = [c] := by
  have h : ∀ c : Fin 128, plC c.val = true → Builtin.Str.reprChar 39 c.val = [c.val] := by decide +kernel
  intro c hc
  have lt : c < 128 := by
    unfold plC lowN at hc
    rcases Bool.or_eq_true_iff.mp hc with z | z
    · have := of_decide_eq_true (Bool.and_eq_true_iff.mp z).2
      omega
    · rcases Bool.or_eq_true_iff.mp z with z | z <;> (have := beq_iff_eq.mp z; omega)
  exact h ⟨c, lt⟩ hc
theorem quote_plain {x : Str} (h : x.cps.toList.all plC = true) : reprQuote x = 39 := by
  unfold reprQuote
  have e : x.cps.contains 39 = false := by
    cases q : x.cps.contains 39 with
    | false => rfl
    | true =>
      have m : (39 : Nat) ∈ x.cps.toList := by simpa using q
      exact absurd (List.all_eq_true.mp h 39 m) (by decide)
  rw [e, Bool.false_and, if_neg Bool.false_ne_true]
theorem fold_plain : ∀ (l : List Nat) (acc : Array Nat), l.all plC = true → (l.foldl (fun out c => out ++ (Builtin.Str.reprChar 39 c).toArray) acc).toList = acc.toList ++ l
  | [], acc, _ => by simp
  | c :: l, acc, h => by
    rw [List.all_cons, Bool.and_eq_true] at h
    rw [List.foldl_cons, fold_plain l _ h.2, rc_plain c h.1]
    simp
theorem repr_plain {x : Str} (h : x.cps.toList.all plC = true) : (reprText x).cps.toList = 39 :: x.cps.toList ++ [39] := by
  unfold reprText
  rw [quote_plain h, ← Array.foldl_toList]
  show (Array.push _ _).toList = _
  rw [Array.toList_push, fold_plain _ _ h]
  simp
theorem word_plain {s : Str} (h : wordS s = true) : s.cps.toList.all plC = true := by
  unfold wordS at h
  have h2 := (Bool.and_eq_true_iff.mp (Bool.and_eq_true_iff.mp h).2).2
  refine List.all_eq_true.mpr fun c hc => ?_
  unfold plC
  rw [List.all_eq_true.mp h2 c hc]
  rfl
def enS : En → Str
  | .lo => "-" | .hi => "+" | .wrd s => s | .num _ => ""
theorem enS_plain {e : En} (h : enOk e = true) : (enS e).cps.toList.all plC = true := by
  cases e with
  | lo => decide +kernel
  | hi => decide +kernel
  | num i => exact (by decide +kernel : ("" : Str).cps.toList.all plC = true)
  | wrd s => exact word_plain h
theorem shown_num (i : Int) : (enD (.num i)).shown = ((toString i : String) : Str) := PyData.shown_int i
theorem shown_txt {e : En} (h : enOk e = true) (n : ∀ i, e ≠ .num i) : ((enD e).shown).cps.toList = 39 :: (enS e).cps.toList ++ [39] := by
  have z := enS_plain h
  cases e with
  | lo => rw [show enD .lo = .str "-" from rfl, PyData.shown_str]; exact repr_plain z
  | hi => rw [show enD .hi = .str "+" from rfl, PyData.shown_str]; exact repr_plain z
  | num i => exact absurd rfl (n i)
  | wrd s => rw [show enD (.wrd s) = .str s from rfl, PyData.shown_str]; exact repr_plain z
/-- no comma stands in the writing of an entry -/
theorem no_comma {e : En} (h : enOk e = true) : (44 : Nat) ∉ (enD e).shown.cps.toList := by
  by_cases n : ∃ i, e = .num i
  · obtain ⟨i, rfl⟩ := n
    rw [shown_num]
    exact fun z => (intText_free_44 i).mp z
  · rw [shown_txt h fun i z => n ⟨i, z⟩]
    intro z
    have p := enS_plain h
    rcases List.mem_append.mp z with z | z
    · rcases List.mem_cons.mp z with z | z
      · cases z
      · exact absurd (List.all_eq_true.mp p 44 z) (by decide)
    · rw [List.mem_singleton] at z
      cases z
theorem int_inj {i j : Int} (h : ((toString i : String) : Str) = ((toString j : String) : Str)) : i = j := by
  have z := congrArg (fun s : Str => s.cps.toList) h
  have z : (Str.ofString (toString i)).cps.toList = (Str.ofString (toString j)).cps.toList := z
  rw [signs_ofString, signs_ofString] at z
  have inj : ∀ {a b : List Char}, a.map Char.toNat = b.map Char.toNat → a = b := by
    intro a
    induction a with
    | nil => intro b hb; cases b with
      | nil => rfl
      | cons x y => cases hb
    | cons x y ih => intro b hb; cases b with
      | nil => cases hb
      | cons u v =>
        rw [List.map_cons, List.map_cons] at hb
        injection hb with h1 h2
        rw [ih h2, Char.toNat_inj.mp h1]
  have y := inj z
  have y : toString i = toString j := String.toList_inj.mp y
  exact Int.repr_injective y
theorem shown_inj {e f : En} (he : enOk e = true) (hf : enOk f = true) (h : (enD e).shown = (enD f).shown) : e = f := by
  by_cases n : ∃ i, e = .num i
  · obtain ⟨i, rfl⟩ := n
    by_cases m : ∃ j, f = .num j
    · obtain ⟨j, rfl⟩ := m
      rw [shown_num, shown_num] at h
      rw [int_inj h]
    · have z := shown_txt hf fun i z => m ⟨i, z⟩
      rw [← h, shown_num] at z
      exact absurd (show (39 : Nat) ∈ (Str.ofString (toString i)).cps.toList by rw [z]; exact List.mem_append_left _ List.mem_cons_self) fun y => (intText_free_39 i).mp y
  · have z1 := shown_txt he fun i z => n ⟨i, z⟩
    by_cases m : ∃ j, f = .num j
    · obtain ⟨j, rfl⟩ := m
      rw [h, shown_num] at z1
      exact absurd (show (39 : Nat) ∈ (Str.ofString (toString j)).cps.toList by rw [z1]; exact List.mem_append_left _ List.mem_cons_self) fun y => (intText_free_39 j).mp y
    · have z2 := shown_txt hf fun i z => m ⟨i, z⟩
      rw [h, z2] at z1
      have z3 := List.append_cancel_right z1
      injection z3 with _ z3
      have es : enS e = enS f := (str_ext z3).symm
      have en : ∀ {g : En}, enOk g = true → (∀ i, g ≠ .num i) → g = enOfS (enS g) := fun {g} hg hn => by
        cases g with
        | lo => exact enOfS_lo.symm
        | hi => exact enOfS_hi.symm
        | num i => exact absurd rfl (hn i)
        | wrd s => exact (enOfS_w (wordS_sg hg).1 (wordS_sg hg).2).symm
      rw [en he fun i z => n ⟨i, z⟩, en hf fun i z => m ⟨i, z⟩, es]
/-! ### the writing of an end -/
def endS (es : List En) : Str := (PyData.tuple (es.map enD)).shown
theorem split_comma {a b c d : List Nat} (ha : (44 : Nat) ∉ a) (hc : (44 : Nat) ∉ c) (h : a ++ 44 :: b = c ++ 44 :: d) : a = c ∧ b = d := by
  induction a generalizing c with
  | nil =>
    cases c with
    | nil => injection h with _ h; exact ⟨rfl, h⟩
    | cons x y =>
      injection h with h1 _
      exact absurd (by rw [← h1]; exact List.mem_cons_self) hc
  | cons x y ih =>
    cases c with
    | nil =>
      injection h with h1 _
      exact absurd (by rw [h1]; exact List.mem_cons_self) ha
    | cons u v =>
      injection h with h1 h2
      obtain ⟨e1, e2⟩ := ih (fun z => ha (List.mem_cons_of_mem _ z)) (fun z => hc (List.mem_cons_of_mem _ z)) h2
      exact ⟨by rw [h1, e1], e2⟩
theorem endS_one (e : En) : (endS [e]).cps.toList = 40 :: ((enD e).shown.cps.toList ++ [44, 41]) := by
  unfold endS
  rw [PyData.shown_tuple]
  rw [cps_app, cps_app]
  show ("(" : Str).cps.toList ++ (Str.join ", " (PyData.shownAll [enD e])).cps.toList ++ (",)" : Str).cps.toList = _
  rw [PyData.shownAll_cons, PyData.shownAll_nil]
  show ("(" : Str).cps.toList ++ ((enD e).shown).cps.toList ++ (",)" : Str).cps.toList = _
  rw [show ("(" : Str).cps.toList = [40] by decide +kernel, show (",)" : Str).cps.toList = [44, 41] by decide +kernel]
  rfl
theorem endS_two (e f : En) : (endS [e, f]).cps.toList = 40 :: ((enD e).shown.cps.toList ++ 44 :: 32 :: ((enD f).shown.cps.toList ++ [41])) := by
  unfold endS
  rw [PyData.shown_tuple]
  rw [cps_app, cps_app]
  show ("(" : Str).cps.toList ++ (Str.join ", " (PyData.shownAll [enD e, enD f])).cps.toList ++ (")" : Str).cps.toList = _
  rw [PyData.shownAll_cons, PyData.shownAll_cons, PyData.shownAll_nil]
  show ("(" : Str).cps.toList ++ ((enD e).shown ++ ", " ++ (enD f).shown).cps.toList ++ (")" : Str).cps.toList = _
  rw [cps_app, cps_app, show ("(" : Str).cps.toList = [40] by decide +kernel, show (")" : Str).cps.toList = [41] by decide +kernel, show (", " : Str).cps.toList = [44, 32] by decide +kernel]
  simp
theorem endS_inj {es fs : List En} (he : es.all enOk = true) (hf : fs.all enOk = true) (l : es.length = fs.length) (l1 : 1 ≤ es.length) (l2 : es.length ≤ 2) : decide (endS es = endS fs) = decide (es = fs) := by
  have go : endS es = endS fs → es = fs := by
    intro h
    have z := congrArg (fun s : Str => s.cps.toList) h
    match es, fs, l, l1, l2, he, hf, z with
    | [e], [f], _, _, _, he, hf, z =>
      rw [List.all_cons, List.all_nil, Bool.and_true] at he hf
      have z : (endS [e]).cps.toList = (endS [f]).cps.toList := z
      rw [endS_one, endS_one] at z
      injection z with _ z
      rw [shown_inj he hf (str_ext (List.append_cancel_right z))]
    | [e, e2], [f, f2], _, _, _, he, hf, z =>
      rw [List.all_cons, List.all_cons, List.all_nil, Bool.and_true, Bool.and_eq_true] at he hf
      have z : (endS [e, e2]).cps.toList = (endS [f, f2]).cps.toList := z
      rw [endS_two, endS_two] at z
      injection z with _ z
      obtain ⟨z1, z2⟩ := split_comma (no_comma he.1) (no_comma hf.1) z
      injection z2 with _ z2
      rw [shown_inj he.1 hf.1 (str_ext z1), shown_inj he.2 hf.2 (str_ext (List.append_cancel_right z2))]
    | [], _, _, l1, _, _, _, _ => exact absurd l1 (by decide)
    | _ :: _ :: _ :: _, _, _, _, l2, _, _, _ => exact absurd l2 (by simp only [List.length_cons]; omega)
  rw [Bool.eq_iff_iff, decide_eq_true_eq, decide_eq_true_eq]
  exact ⟨go, fun h => by rw [h]⟩
/-! ### what may be written -/
/-- an item: short, flat enough -/
structure ItOk (d : PyData) : Prop where
  s : d.showable = true
  l : d.shown.length ≤ 1000
  p : d.depth ≤ 3
  o : sOk d = true
theorem it_any {d : PyData} (h : aOk d = true) : ItOk d := by
  obtain ⟨h1, _⟩ := Bool.and_eq_true_iff.mp h
  obtain ⟨h1, h3⟩ := Bool.and_eq_true_iff.mp h1
  obtain ⟨a, b⟩ := Bool.and_eq_true_iff.mp h1
  obtain ⟨b1, b2⟩ := Bool.and_eq_true_iff.mp b
  exact ⟨a, of_decide_eq_true b1, of_decide_eq_true b2, h3⟩
theorem len_word {x : Str} (h : x.cps.toList.all plC = true) (l : x.length ≤ 8) : (reprText x).length ≤ 1000 := by
  have e : (reprText x).length = (reprText x).cps.toList.length := (Array.length_toList).symm
  rw [e, repr_plain h]
  have e2 : x.cps.toList.length = x.length := Array.length_toList
  simp only [List.length_append, List.length_cons, List.length_nil]
  omega
theorem it_en {e : En} (h : enOk e = true) : ItOk (enD e) := by
  have o := en_sok h
  cases e with
  | lo => exact ⟨rfl, (by rw [show enD .lo = .str "-" from rfl, PyData.shown_str]; exact len_word (by decide +kernel) (by decide +kernel)), Nat.zero_le _, o⟩
  | hi => exact ⟨rfl, (by rw [show enD .hi = .str "+" from rfl, PyData.shown_str]; exact len_word (by decide +kernel) (by decide +kernel)), Nat.zero_le _, o⟩
  | wrd s =>
    refine ⟨rfl, ?_, Nat.zero_le _, o⟩
    rw [show enD (.wrd s) = .str s from rfl, PyData.shown_str]
    have hw : wordS s = true := h
    unfold wordS at hw
    exact len_word (word_plain h) (of_decide_eq_true (Bool.and_eq_true_iff.mp (Bool.and_eq_true_iff.mp hw).2).1)
  | num i =>
    have hi : (decide (-(10 ^ 30) ≤ i) && decide (i ≤ 10 ^ 30)) = true := h
    obtain ⟨a, b⟩ := Bool.and_eq_true_iff.mp hi
    have a := of_decide_eq_true a
    have b := of_decide_eq_true b
    have ab : i.natAbs < 10 ^ 31 := by omega
    refine ⟨?_, ?_, Nat.zero_le _, o⟩
    · show decide (i.natAbs.log2 < 1920) = true
      refine decide_eq_true ?_
      by_cases z : i.natAbs = 0
      · rw [z]; decide
      · exact (Nat.log2_lt z).mpr (Nat.lt_of_lt_of_le ab (by decide))
    · rw [shown_num]
      have z := int_text_length_le10 (k := 31) (by decide) ab
      have y : (Str.ofString (toString i)).length = (toString i).length := PySem.ofString_length _
      show (Str.ofString (toString i)).length ≤ 1000
      omega
/-- what stands for an end -/
structure EOk (d : PyData) : Prop where
  s : d.showable = true
  l : d.shown.length ≤ 5000
  p : d.depth ≤ 4
  o : sOkT d
  n : (itemsD d).length ≤ 100
theorem sum_le {ts : List Str} {b : Nat} (h : ∀ t ∈ ts, t.length ≤ b) : (ts.map (·.length)).sum ≤ b * ts.length := by
  induction ts with
  | nil => exact Nat.zero_le _
  | cons t ts ih =>
    rw [List.map_cons, List.sum_cons, List.length_cons, Nat.mul_succ]
    have := h t List.mem_cons_self
    have := ih fun x hx => h x (List.mem_cons_of_mem _ hx)
    omega
theorem depth_all {ds : List PyData} {b : Nat} (h : ∀ d ∈ ds, d.depth ≤ b) : PyData.depthAll ds ≤ b := by
  induction ds with
  | nil => exact Nat.zero_le _
  | cons d ds ih =>
    show max d.depth (PyData.depthAll ds) ≤ b
    have := h d List.mem_cons_self
    have := ih fun x hx => h x (List.mem_cons_of_mem _ hx)
    omega
theorem shown_mem {ds : List PyData} {b : Nat} (h : ∀ d ∈ ds, d.shown.length ≤ b) : ∀ t ∈ PyData.shownAll ds, t.length ≤ b := by
  induction ds with
  | nil => intro t ht; rw [PyData.shownAll_nil] at ht; cases ht
  | cons d ds ih =>
    intro t ht
    rw [PyData.shownAll_cons] at ht
    rcases List.mem_cons.mp ht with rfl | ht
    · exact h d List.mem_cons_self
    · exact ih (fun x hx => h x (List.mem_cons_of_mem _ hx)) t ht
theorem eok_tup {ds : List PyData} (h : ∀ d ∈ ds, ItOk d) (l : ds.length ≤ 3) : EOk (.tuple ds) := by
  refine ⟨showableAll_of fun d hd => (h d hd).s, ?_, ?_, ⟨rfl, fun d hd => (h d hd).o⟩, by show ds.length ≤ 100; omega⟩
  · show (tupleText (PyData.shownAll ds)).length ≤ 5000
    have z := tupleText_len_le (PyData.shownAll ds)
    have y := sum_le (shown_mem fun d hd => (h d hd).l)
    rw [PyData.shownAll_length] at z y
    omega
  · show PyData.depthAll ds + 1 ≤ 4
    have := depth_all fun d hd => (h d hd).p
    omega
theorem eok_list {ds : List PyData} (h : ∀ d ∈ ds, ItOk d) (l : ds.length ≤ 3) : EOk (.list ds) := by
  refine ⟨showableAll_of fun d hd => (h d hd).s, ?_, ?_, ⟨rfl, fun d hd => absurd hd (by show d ∉ []; simp)⟩, by show 0 ≤ 100; omega⟩
  · show (listText (PyData.shownAll ds)).length ≤ 5000
    have z := listText_len_le (PyData.shownAll ds)
    have y := sum_le (shown_mem fun d hd => (h d hd).l)
    rw [PyData.shownAll_length] at z y
    omega
  · show PyData.depthAll ds + 1 ≤ 4
    have := depth_all fun d hd => (h d hd).p
    omega
theorem eok_any {d : PyData} (h : aOk d = true) : EOk d := by
  have z := it_any h
  obtain ⟨_, ht⟩ := Bool.and_eq_true_iff.mp h
  obtain ⟨ht, _⟩ := Bool.and_eq_true_iff.mp ht
  refine ⟨z.s, by have := z.l; omega, by have := z.p; omega, ⟨z.o, fun x hx => ?_⟩, ?_⟩
  · cases d with
    | tuple ds => exact List.all_eq_true.mp (Bool.and_eq_true_iff.mp ht).1 x hx
    | _ => cases hx
  · cases d with
    | tuple ds =>
      have := of_decide_eq_true (Bool.and_eq_true_iff.mp ht).2
      show ds.length ≤ 100
      omega
    | _ => exact Nat.zero_le _
/-! ### repr -/
mutual
def noL : PyData → Bool
  | .list _ => false
  | .tuple xs => noLAll xs
  | _ => true
def noLAll : List PyData → Bool
  | [] => true
  | x :: xs => noL x && noLAll xs
end
theorem noLAll_of {ds : List PyData} (h : ∀ d ∈ ds, noL d = true) : noLAll ds = true := by
  induction ds with
  | nil => rfl
  | cons d ds ih =>
    show (noL d && noLAll ds) = true
    rw [h d List.mem_cons_self, ih fun x hx => h x (List.mem_cons_of_mem _ hx)]
    rfl
theorem noL_en (e : En) : noL (enD e) = true := by cases e <;> rfl
theorem noD_en (e : En) : (enD e).hasDict = false := by cases e <;> rfl
theorem noD_all {ds : List PyData} (h : ∀ d ∈ ds, d.hasDict = false) : PyData.hasDictAll ds = false := by
  induction ds with
  | nil => rfl
  | cons d ds ih =>
    show (d.hasDict || PyData.hasDictAll ds) = false
    rw [h d List.mem_cons_self, ih fun x hx => h x (List.mem_cons_of_mem _ hx)]
    rfl
theorem reads_noL {h : Heap} {u : Value} {d : PyData} {as : List Addr} (r : Reads h u d as) : noL d = true → d.hasDict = false → as = [] :=
  Reads.rec (motive_1 := fun u d as _ => noL d = true → d.hasDict = false → as = []) (motive_2 := fun us ds as _ => noLAll ds = true → PyData.hasDictAll ds = false → as = [])
    (fun _ _ => rfl) (fun _ _ _ => rfl) (fun _ _ _ _ => rfl) (fun _ _ _ _ => rfl) (fun _ _ _ _ _ n _ => by exact absurd (show false = true from n) Bool.false_ne_true) (fun _ _ _ _ ih n m => ih n m)
    (fun _ _ _ _ _ _ _ _ m => by exact absurd (show true = false from m) (by decide)) (fun _ _ => rfl) (fun _ _ i1 i2 n m => by
      obtain ⟨n1, n2⟩ := Bool.and_eq_true_iff.mp (show (noL _ && noLAll _) = true from n)
      obtain ⟨m1, m2⟩ := Bool.or_eq_false_iff.mp (show (PyData.hasDict _ || PyData.hasDictAll _) = false from m)
      rw [i1 n1 m1, i2 n2 m2]
      rfl) r
section
variable {X : Cx} {pins : List (Addr × Obj)} {σ : L2.St} {H : Hp} {s : Shared}
theorem Th.reads2 {v : V} {u : Value} {d : PyData} (I : Inv X pins σ H s) (t : Th X.K H v d) (r : RelV v u) : ∃ as, Reads s.heap u d as ∧ (noL d = true → sysModules ∉ as) := by
  obtain ⟨as, q, m⟩ := Th.reads I t r
  refine ⟨as, q, fun n => ?_⟩
  cases e : d.hasDict with
  | true => exact m e
  | false =>
    rw [reads_noL q n e]
    exact fun z => by cases z
theorem all_reads {K : PySem.W.Frag} (hK : X.K = K) (I : Inv X pins σ H s) : ∀ {xs : List V} {us : List Value} {ds : List PyData}, Vals xs us → xs.length = ds.length → (∀ (i : Nat) (x : V) (d : PyData), xs[i]? = some x → ds[i]? = some d → Th K H x d) →
    ∃ as, ReadsAll s.heap us ds as ∧ (noLAll ds = true → sysModules ∉ as) := by
  subst hK
  intro xs us ds r
  induction r generalizing ds with
  | nil =>
    intro l _
    cases ds with
    | nil => exact ⟨[], .nil, fun _ z => by cases z⟩
    | cons d ds => cases l
  | cons r1 _ ih =>
    intro l t
    cases ds with
    | nil => cases l
    | cons d ds =>
      obtain ⟨as, q1, m1⟩ := Th.reads2 I (t 0 _ _ rfl rfl) r1
      obtain ⟨bs, q2, m2⟩ := ih (ds := ds) (by simpa using l) fun i x d e1 e2 => t (i + 1) x d (by simpa using e1) (by simpa using e2)
      refine ⟨as ++ bs, .cons q1 q2, fun n z => ?_⟩
      obtain ⟨n1, n2⟩ := Bool.and_eq_true_iff.mp (show (noL d && noLAll ds) = true from n)
      rcases List.mem_append.mp z with z | z
      · exact m1 n1 z
      · exact m2 n2 z
theorem Tg.reads2 {v : V} {u : Value} {d : PyData} (I : Inv X pins σ H s) (t : Tg X.K H v d) (r : RelV v u) : ∃ as, Reads s.heap u d as ∧ (noL d = true → sysModules ∉ as) := by
  cases t with
  | oth t n => exact Th.reads2 I t r
  | @tup a xs ds h l th =>
    cases (show u = Value.ref a from r)
    obtain ⟨its, rv, pl, hz⟩ := I.tuple h
    obtain ⟨o, ho, hc, n, hd⟩ := pl
    obtain ⟨as, q, m⟩ := all_reads rfl I rv l th
    exact ⟨as, .tuple ho hc hd (by simpa using q), m⟩
/-- repr of a pair of what stands for ends -/
def rReprP (K : PySem.W.Frag) : List V → Hp → VK → Prop := fun xs H Q => ∃ (T : Addr) (v1 v2 : V) (d1 d2 : PyData), xs = [.ref T] ∧ SqT K H T [v1, v2] ∧ Tg K H v1 d1 ∧ Tg K H v2 d2 ∧ EOk d1 ∧ EOk d2 ∧ ((PyData.tuple [d1, d2]).hasDict = true → noL (.tuple [d1, d2]) = true) ∧ Q (.str (PyData.tuple [d1, d2]).shown) H
theorem call_reprP (hg : X.A.guards = some []) (hu : X.A.units + 64 < cLine) : CallR X (.builtin "repr") (rReprP X.K) := by
  intro pins s σ H xs us Q I r h
  obtain ⟨T, v1, v2, d1, d2, rfl, hT, t1, t2, o1, o2, m, q⟩ := h
  obtain ⟨u, rfl, ru⟩ := vals1 r
  cases (show u = Value.ref T from ru)
  obtain ⟨its, rv, ⟨o, ho, hc, n, hd⟩, _⟩ := I.tuple hT
  cases rv with
  | cons r1 r2 =>
    cases r2 with
    | cons r2 r3 =>
      cases r3
      obtain ⟨as, q1, m1⟩ := Tg.reads2 I t1 r1
      obtain ⟨bs, q2, m2⟩ := Tg.reads2 I t2 r2
      have rd : Reads s.heap (.ref T) (.tuple [d1, d2]) _ := .tuple ho hc hd (.cons q1 (.cons q2 .nil))
      have hsh : (PyData.tuple [d1, d2]).showable = true := by
        show (d1.showable && (d2.showable && true)) = true
        rw [o1.s, o2.s]
        rfl
      have hdp : (PyData.tuple [d1, d2]).depth ≤ 8 := by
        show max d1.depth (max d2.depth 0) + 1 ≤ 8
        have := o1.p
        have := o2.p
        omega
      have hln : (PyData.tuple [d1, d2]).shown.length ≤ sizeLine := by
        show (tupleText [d1.shown, d2.shown]).length ≤ sizeLine
        have z := tupleText_len_le [d1.shown, d2.shown]
        have e : (List.map (fun x : Str => x.length) [d1.shown, d2.shown]).sum = d1.shown.length + (d2.shown.length + 0) := rfl
        have := o1.l
        have := o2.l
        simp only [List.length_cons, List.length_nil] at z
        rw [e] at z
        rw [sizeLine_eq]
        omega
      refine repr_of_reads' rd hsh (fun hh z => ?_) hg (by omega) (fun _ _ e => e) (fun h' u' tk kp => ⟨.str _, H, I.kept kp, ⟨_, rfl⟩, q⟩) hln
      have n2 := m hh
      obtain ⟨n1, n3⟩ := Bool.and_eq_true_iff.mp (show (noL d1 && (noL d2 && true)) = true from n2)
      rw [Bool.and_true] at n3
      rcases List.mem_append.mp z with e | e
      · exact m1 n1 e
      · rcases List.mem_append.mp e with e | e
        · exact m2 n3 e
        · cases e
/-- repr of an end -/
def rReprE (K : PySem.W.Frag) : List V → Hp → VK → Prop := fun xs H Q => ∃ (a : Addr) (es : List En), xs = [.ref a] ∧ SqT K H a (es.map enV) ∧ es.all enOk = true ∧ es.length ≤ 3 ∧ Q (.str (endS es)) H
theorem call_reprE (hg : X.A.guards = some []) (hu : X.A.units + 64 < cLine) : CallR X (.builtin "repr") (rReprE X.K) := by
  intro pins s σ H xs us Q I r h
  obtain ⟨a, es, rfl, hs, ok, l3, q⟩ := h
  obtain ⟨u, rfl, ru⟩ := vals1 r
  have tg : Tg X.K H (.ref a) (.tuple (es.map enD)) := .tup hs (by rw [List.length_map, List.length_map]) fun i x d e1 e2 => by
    rw [List.getElem?_map] at e1 e2
    obtain ⟨e, h1, rfl⟩ := Option.map_eq_some_iff.mp e1
    rw [h1] at e2
    cases e2
    exact en_th
  have eo : EOk (.tuple (es.map enD)) := eok_tup (fun d hd => by
    obtain ⟨e, he, rfl⟩ := List.mem_map.mp hd
    exact it_en (List.all_eq_true.mp ok e he)) (by rw [List.length_map]; exact l3)
  obtain ⟨as, rd, m⟩ := Tg.reads2 I tg ru
  cases (show u = Value.ref a from ru)
  refine repr_of_reads' rd eo.s (fun hh z => m (noLAll_of fun d hd => by
    obtain ⟨e, he, rfl⟩ := List.mem_map.mp hd
    exact noL_en e) z) hg (by have := eo.p; omega) (fun _ _ e => e) (fun h' u' tk kp => ⟨.str _, H, I.kept kp, ⟨_, rfl⟩, q⟩) (by have := eo.l; rw [sizeLine_eq]; omega)
end
end K26
set_option Elab.async false
set_option linter.all false
set_option maxRecDepth 100000
set_option maxHeartbeats 4000000
/-! _law_spoilt -/
namespace K26
open K34 PySem PySem.Spec PyProof.Rows L2
def rCatE (K : PySem.W.Frag) : R2 := fun x y H Q => ∃ (a b : Addr) (xs ys : List V), x = .ref a ∧ y = .ref b ∧ SqT K H a xs ∧ SqT K H b ys ∧ xs.length + ys.length ≤ 1000 ∧ ∀ r H', Same H H' → SqT K H' r (xs ++ ys) → Q (.ref r) H'
theorem op_catE {X : Cx} : OpR X (binaryOp .Add) (rCatE X.K) := by
  intro pins s σ H x y v u Q I rx ry h
  obtain ⟨a, b, xs, ys, rfl, rfl, h1, h2, hl, q⟩ := h
  refine op_catA pins s σ H _ _ _ _ Q I rx ry ⟨a, b, xs, ys, rfl, rfl, h1, h2, by rw [sizeLine_eq]; omega, fun e => ?_, fun _ e => ?_, fun _ _ p hp => q p _ (same_new (Same.refl H) hp) (SqT.of upd_same)⟩
  · subst e
    exact q b H (Same.refl H) h2
  · subst e
    exact q a H (Same.refl H) (by rw [List.append_nil]; exact h1)
def rSlE (K : PySem.W.Frag) : V → Option Int → Option Int → Hp → VK → Prop := fun x lo hi H Q => ∃ (a : Addr) (xs : List V), x = .ref a ∧ SqT K H a xs ∧ ∀ r H', Same H H' → SqT K H' r (cutV xs lo hi) → Q (.ref r) H'
theorem sl_tupE {X : Cx} : SlR X (rSlE X.K) := by
  intro pins s σ H x v vl vu lo hi sl Q I rx hs pl pu h
  obtain ⟨a, xs, rfl, hx, q⟩ := h
  refine sl_tupA pins s σ H _ v vl vu lo hi sl Q I rx hs pl pu ⟨a, xs, rfl, hx, fun e => q a H (Same.refl H) ?_, fun _ p hp => q p _ (same_new (Same.refl H) hp) (SqT.of upd_same)⟩
  have c : cutV xs lo hi = xs := by
    unfold cutV
    rw [e.1, e.2, List.drop_zero, Nat.sub_zero, List.take_length]
  rw [c]
  exact hx
theorem np {σ : L2.St} {H : Hp} {Q : Option Int → Hp → Prop} (h : Q none H) : tNoPart σ H Q := h
theorem cut_last (xs : List V) : cutV xs none (some (-1)) = xs.dropLast := by
  unfold cutV
  have e : HT.sIx xs.length xs.length (some (-1)) = xs.length - 1 := by
    unfold HT.sIx
    simp
    omega
  rw [e, HT.sIx_none, List.drop_zero, Nat.sub_zero, List.dropLast_eq_take]
theorem cut_tail (xs : List V) : cutV xs (some 1) none = xs.drop 1 := by
  unfold cutV
  have e : HT.sIx xs.length 0 (some 1) = min 1 xs.length := by
    unfold HT.sIx
    simp
  rw [e, HT.sIx_none]
  rw [List.take_of_length_le (by rw [List.length_drop]; exact Nat.le_refl _)]
  cases xs with
  | nil => rfl
  | cons x xs =>
    have : min 1 (x :: xs).length = 1 := by rw [List.length_cons]; omega
    rw [this]
/-- what may stand for an end -/
structure Cd (K : PySem.W.Frag) (H : Hp) (v : V) (d : PyData) : Prop where
  t : Tg K H v d
  e : EOk d
  m : d.hasDict = true → noL d = true
theorem Cd.same {K : PySem.W.Frag} {H H' : Hp} {v : V} {d : PyData} (c : Cd K H v d) (s : Same H H') : Cd K H' v d := ⟨c.t.same s, c.e, c.m⟩
theorem Cd.but {K : PySem.W.Frag} {H H' : Hp} {v : V} {d : PyData} {p c : Addr} {t l : Int} (h : Cd K H v d) (hp : H p = some (.dK (penK c t l))) (b : But p H H') : Cd K H' v d := ⟨h.t.but hp b, h.e, h.m⟩
def Cand (K : PySem.W.Frag) (H : Hp) (v : V) : Prop := ∃ d, Cd K H v d
theorem Cand.same {K : PySem.W.Frag} {H H' : Hp} {v : V} (c : Cand K H v) (s : Same H H') : Cand K H' v := let ⟨d, h⟩ := c; ⟨d, h.same s⟩
theorem Cand.but {K : PySem.W.Frag} {H H' : Hp} {v : V} {p c : Addr} {t l : Int} (h : Cand K H v) (hp : H p = some (.dK (penK c t l))) (b : But p H H') : Cand K H' v := let ⟨d, h⟩ := h; ⟨d, h.but hp b⟩
theorem en_tg {K : PySem.W.Frag} {H : Hp} {a : Addr} {es : List En} (h : SqT K H a (es.map enV)) : Tg K H (.ref a) (.tuple (es.map enD)) := .tup h (by rw [List.length_map, List.length_map]) fun i x d e1 e2 => by
  rw [List.getElem?_map] at e1 e2
  obtain ⟨e, h1, rfl⟩ := Option.map_eq_some_iff.mp e1
  rw [h1] at e2
  cases e2
  exact en_th
theorem en_it {es : List En} (ok : es.all enOk = true) : ∀ d ∈ es.map enD, ItOk d := fun d hd => by
  obtain ⟨e, he, rfl⟩ := List.mem_map.mp hd
  exact it_en (List.all_eq_true.mp ok e he)
theorem en_nd {es : List En} : PyData.hasDictAll (es.map enD) = false := noD_all fun d hd => by
  obtain ⟨e, he, rfl⟩ := List.mem_map.mp hd
  exact noD_en e
/-- an end -/
theorem cd_end {K : PySem.W.Frag} {H : Hp} {a : Addr} {es : List En} (h : SqT K H a (es.map enV)) (ok : es.all enOk = true) (l : es.length ≤ 3) : Cd K H (.ref a) (.tuple (es.map enD)) :=
  ⟨en_tg h, eok_tup (en_it ok) (by rw [List.length_map]; exact l), fun z => absurd (show PyData.hasDictAll (es.map enD) = true from z) (by rw [en_nd]; exact Bool.false_ne_true)⟩
theorem cd_any {K : PySem.W.Frag} {H : Hp} {v : V} {d : PyData} (t : Th K H v d) (h : aOk d = true) : Cd K H v d := ⟨Th.tg t, eok_any h, fun z => by
  cases t with
  | dp _ n => rw [n] at z; cases z
  | d0 _ => rfl
  | d1 _ => rfl⟩
theorem any_nl {K : PySem.W.Frag} {H : Hp} {v : V} {d : PyData} (t : Th K H v d) (z : d.hasDict = true) : noL d = true := by
  cases t with
  | dp _ n => rw [n] at z; cases z
  | d0 _ => rfl
  | d1 _ => rfl
/-- an end's beginning and any value -/
theorem cand_app {K : PySem.W.Frag} {H : Hp} {a : Addr} {es : List En} {v : V} {d : PyData} (h : SqT K H a (es.map enV ++ [v])) (ok : es.all enOk = true) (l : es.length ≤ 2) (t : Th K H v d) (h2 : aOk d = true) : Cand K H (.ref a) := by
  refine ⟨.tuple (es.map enD ++ [d]), .tup h (by rw [List.length_append, List.length_append, List.length_map, List.length_map]; rfl) fun i x y e1 e2 => ?_, eok_tup (fun x hx => ?_) (by rw [List.length_append, List.length_map, List.length_singleton]; omega), fun z => noLAll_of fun x hx => ?_⟩
  · by_cases hi : i < es.length
    · rw [List.getElem?_append_left (by rw [List.length_map]; exact hi), List.getElem?_map] at e1 e2
      obtain ⟨e, h1, rfl⟩ := Option.map_eq_some_iff.mp e1
      rw [h1] at e2
      cases e2
      exact en_th
    · rw [List.getElem?_append_right (by rw [List.length_map]; omega), List.length_map] at e1 e2
      cases hk : i - es.length with
      | zero =>
        rw [hk] at e1 e2
        cases e1
        cases e2
        exact t
      | succ n =>
        rw [hk] at e1
        exact absurd e1 (by simp)
  · rcases List.mem_append.mp hx with hx | hx
    · exact en_it ok x hx
    · rw [List.mem_singleton.mp hx]
      exact it_any h2
  · rcases List.mem_append.mp hx with hx | hx
    · obtain ⟨e, he, rfl⟩ := List.mem_map.mp hx
      exact noL_en e
    · rw [List.mem_singleton.mp hx]
      refine any_nl t ?_
      cases hd : d.hasDict with
      | true => rfl
      | false =>
        have y : PyData.hasDictAll (es.map enD ++ [d]) = false := noD_all fun x hx => by
          rcases List.mem_append.mp hx with hx | hx
          · obtain ⟨e, he, rfl⟩ := List.mem_map.mp hx
            exact noD_en e
          · rw [List.mem_singleton.mp hx]
            exact hd
        exact absurd (show PyData.hasDictAll (es.map enD ++ [d]) = true from z) (by rw [y]; exact Bool.false_ne_true)
theorem dpAll_en {K : PySem.W.Frag} {H : Hp} : ∀ es : List En, DpAll K H (es.map enV) (es.map enD)
  | [] => .nil
  | e :: es => .cons (by cases e <;> constructor) (dpAll_en es)
/-- an end's list -/
theorem cand_list {K : PySem.W.Frag} {H : Hp} {a : Addr} {es : List En} (h : SqL K H a (es.map enV)) (ok : es.all enOk = true) (l : es.length ≤ 3) : Cand K H (.ref a) :=
  ⟨.list (es.map enD), .oth (.dp (.lst h (dpAll_en es)) en_nd) rfl, eok_list (en_it ok) (by rw [List.length_map]; exact l), fun z => absurd (show PyData.hasDictAll (es.map enD) = true from z) (by rw [en_nd]; exact Bool.false_ne_true)⟩
theorem map_dl (es : List En) : (es.map enV).dropLast = es.dropLast.map enV := (List.map_dropLast ..).symm
theorem all_dl {es : List En} (ok : es.all enOk = true) : es.dropLast.all enOk = true := List.all_eq_true.mpr fun e he => List.all_eq_true.mp ok e (List.dropLast_subset es he)
theorem all_snoc {es : List En} {e : En} (ok : es.all enOk = true) (h : enOk e = true) : (es ++ [e]).all enOk = true := by
  rw [List.all_append, ok, List.all_cons, h]
  rfl
end K26
set_option Elab.async false
set_option linter.all false
set_option maxRecDepth 100000
set_option maxHeartbeats 4000000
/-! several except clauses, each with a name -/
namespace K26
open K34 PySem PySem.Spec PyProof.Rows L2
/-- one clause: its class, its name's slot, its suite -/
structure Cl where
  c : Value
  i : Nat
  ts : Addr → Value → Option Addr → TS
def wManyAs (K : PySem.W.Frag) (N : List Str) (Wout : WX) (D : Ends) : List Cl → WX
  | [] => Wout
  | q :: r => fun cls d σ H => ∃ b, PySem.W.exmOne K cls q.c = some b ∧ (b = true → ∀ a, H a = none → σ.length = N.length → q.ts a cls d { nx := fun σ' H' => D.nx (σ'.set q.i none) H', rt := D.rt, bk := fun σ' H' => D.bk (σ'.set q.i none) H', ct := fun σ' H' => D.ct (σ'.set q.i none) H' } (σ.set q.i (some (.ref a))) H) ∧
    (b = false → wManyAs K N Wout D r cls d σ H)
inductive HdsAs (X : Cx) : List ExceptHandler → List Cl → Prop
  | nil : HdsAs X [] []
  | cons {x n : Str} {q : Cl} {b₀ : Stmt} {suite : List Stmt} {np pos' : Pos} {hds : List ExceptHandler} {l : List Cl} (hc : Names X x q.c) (hi : X.N[q.i]? = some n) (hln : X.env.kindOf n = some .local)
      (hsu : ∀ (a : Addr) (oe : Obj) (cls : Value) (d : Option Addr) (pn : List (Addr × Obj)), Zc cls d oe → (∃ vs, oe.data = .fields vs) → PSs (X.suite a ((a, oe) :: pn)) (b₀ :: suite) (q.ts a cls d)) (r : HdsAs X hds l) :
      HdsAs X (.ExceptHandler (some (.Name x np)) (some n) (b₀ :: suite) pos' :: hds) (q :: l)
section
variable {X : Cx} {body : List Stmt} {h₀ : ExceptHandler} {hds : List ExceptHandler} {l : List Cl} {pos : Pos} {tb : WX → TS} {Wout : WX}
theorem ps_try_manyAs (hs : X.stack = X.env :: X.outer) (hf : X.env.frame = some X.env.locals) (hN : X.N.Nodup) (tk : Takes X Wout)
    (hb : ∀ (W : WX) (pn : List (Addr × Obj)) (xe : Value → Shared → Prop), Takes (X.tr pn xe) W → PassesOwn (model X.prog X.w) X.A X.env xe → PSs (X.tr pn xe) body (tb W))
    (hh : HdsAs X (h₀ :: hds) l) : PS X (.Try body (h₀ :: hds) [] [] pos) (fun D σ H => tb (wManyAs X.K X.N Wout D l) D σ H) := by
  refine ⟨fun pins s σ H D I h => ?_⟩
  have ok := I.ok
  have hfr : X.A.frames = some (X.env :: X.outer) := by rw [ok.frames, hs]
  refine wpAny_Try_except ?_
  refine wpAny_mono ((hb (wManyAs X.K X.N Wout D l) (X.pn ++ pins) (fun e s₁ => wpAny (model X.prog X.w) X.A (noteFrame e X.env) (fun _ s₂ => wpAny (model X.prog X.w) X.A (setFlight e none) (fun _ s₃ =>
    wpAny (model X.prog X.w) X.A (handleBy e X.env (h₀ :: hds)) (SP X pins D) X.xe s₃) X.xe s₂) X.xe s₁) (fun u s' xx => ?_) PassesOwn.looking).run [] s σ H D (I.toTry _) h) (fun f s1 hsp => ?_) (fun e s1 he => he)
  · obtain ⟨a, B, sI, pins', σ', H', cls, d, rfl, J', nb, up, sky, na, os, ag, w⟩ := xx
    have J : Inv X pins σ' H' sI := J'.ofTry ok
    have sky' : Sky B (X.env :: X.outer) a (Zc cls d) X.env.locals s'.heap := by rw [← hs]; exact sky
    show wpAny (model X.prog X.w) X.A (noteFrame (.ref a) X.env) _ _ _
    refine Sky.land Zc.steady hfr hf sky' fun h3 fl3 up3 => ?_
    have J3 : Inv X pins σ' H' { s' with heap := h3 } := J.landed nb fl3.1 (up.trans up3) os ag
    obtain ⟨oe3, vs3, he3, hz3, hd3⟩ := fl3.there
    have notFr : ∀ {h : Heap} {o : Obj} {vs : Array Value}, h.FunFrames B (X.env :: X.outer) → h.get? a = some o → o.data = .fields vs → a ∉ frs (X.env :: X.outer) := fun {h o vs} ff e dd hm => by
      obtain ⟨_, o', e', hnf⟩ := ff.mem hm
      rw [e] at e'; cases e'
      exact hnf _ dd
    have nfr := notFr fl3.2.2.1 he3 hd3
    have nL : a ≠ X.env.locals := fun z => nfr (List.mem_filterMap.mpr ⟨X.env, List.mem_cons_self, by rw [hf, z]⟩)
    have nF : a ∉ X.fs := fun hm => by
      obtain ⟨e, he, q⟩ := List.mem_filterMap.mp hm
      exact nfr (List.mem_filterMap.mpr ⟨e, List.mem_cons_of_mem _ he, q⟩)
    have S3 := J3.suite he3 hd3 na nL nF
    have go : ∀ {hds' : List ExceptHandler} {l' : List Cl}, HdsAs X hds' l' → wManyAs X.K X.N Wout D l' cls d σ' H' →
        wpAny (model X.prog X.w) X.A (handleBy (.ref a) X.env hds') (SP X pins D) X.xe { s' with heap := h3 } := by
      intro hds' l' hk
      induction hk with
      | nil =>
        intro w
        refine wpAny_handleBy_nil ?_
        obtain ⟨k1, k2, k3, oe, vs, T, oT, ts', he, hz, hd, h1, hr⟩ := id fl3
        unfold PySem.passOn
        refine wpAny_bind (wpAny_field he hd h1 ?_)
        rw [if_neg (show ¬ ((Value.ref T == Value.none) = true) from by simp)]
        have fin : wpAny (model X.prog X.w) X.A (setFlight (.ref a) X.env.frame) (fun _ s4 => wpAny (model X.prog X.w) X.A (throw (.ref a) : Sem Flow) (SP X pins D) X.xe s4) X.xe { s' with heap := h3 } := by
          rw [hf]
          refine HandSPX.setFlight_upZ fl3 fun h4 hh4 up4 => wpAny_throw (tk _ _ ?_)
          exact ⟨a, B, sI, pins, σ', H', cls, d, rfl, J, nb, (up.trans up3).trans up4, .inr (.inr (by rw [hs]; exact hh4)), na, os, ag, w⟩
        first
          | exact wpAny_bind (wpAny_pure (wpAny_bind fin))
          | exact wpAny_bind fin
      | @cons x n q b₀ suite np pos' hds2 l2 hc hi hln hsu r ih =>
        intro w
        obtain ⟨b, hb1, hyes, hno⟩ := w
        have hloc : Loc X.env.scope n := .inl hln
        refine wpAny_handleBy_cons (codeAny_handlers_test ?_) (by intro q; cases q)
        have LT : PySem.W.Looks (model X.prog X.w) h3 (typeOf (.ref a)) cls := fun A Q E s k q => wpAny_typeOf_ref (k _ _ he3) (by rw [hz3.1]; exact q)
        have LM := PySem.W.exm_one (M := model X.prog X.w) (J3.kIn) LT hb1
        have test : ∀ {Q : Value → Shared → Prop} {E : Value → Shared → Prop}, Q q.c { s' with heap := h3 } → wpAny (model X.prog X.w) (X.A.mark (some (.ref a))) (eval (.Name x np) X.env) Q E { s' with heap := h3 } := fun {Q E} qq => by
          obtain ⟨hg, hdbg, hm | ⟨hm, hv, hnn⟩⟩ := hc
          · exact ld_glob (X := X.suite a ((a, oe3) :: (X.pn ++ pins))) S3 hg hm qq hdbg
          · exact ld_blt (X := X.suite a ((a, oe3) :: (X.pn ++ pins))) S3 hg hm hv qq hnn hdbg
        refine test (LM.here ?_)
        cases b with
        | true =>
          refine codeAny_handlers_suite_as ?_
          refine HandSPX.lands_againZ fl3 fun h4 fl4 up4 => ?_
          have J4 : Inv X pins σ' H' { s' with heap := h4 } := J.landed nb fl4.1 ((up.trans up3).trans up4) os ag
          obtain ⟨oe4, vs4, he4, hz4, hd4⟩ := fl4.there
          have S4 := J4.suite he4 hd4 na nL nF
          refine store_ok (X := X.suite a ((a, oe4) :: (X.pn ++ pins))) (v := .ref a) S4 hN hi hloc rfl (fun s5 S5 => ?_) (.inr hln)
          refine wpAny_mono ((hsu a oe4 cls d (X.pn ++ pins) hz4 ⟨_, hd4⟩).run [] s5 _ H' _ S5 (hyes rfl a na J.len)) (fun f s6 hsp => ?_) (fun _ _ z => False.elim z)
          have end_ : ∀ {σ6 : L2.St} {H6 : Hp} {Q : Shared → Prop}, Inv (X.suite a ((a, oe4) :: (X.pn ++ pins))) [] σ6 H6 s6 → (∀ s7, Inv X pins (σ6.set q.i none) H6 s7 → Q s7) →
              wpAny (model X.prog X.w) X.A (do bindName X.env n .none; unbindBehindTheSuite X.env n pos') (fun _ s7 => Q s7) X.xe s6 := fun {σ6 H6 Q} S6 hq => gone_ok (S6.unsuite ok) hN hi hln hq
          cases f with
          | next =>
            obtain ⟨σ6, H6, S6, q6⟩ := hsp
            exact end_ S6 fun s7 J7 => ⟨_, _, J7, q6⟩
          | brk =>
            obtain ⟨σ6, H6, S6, q6⟩ := hsp
            exact end_ S6 fun s7 J7 => ⟨_, _, J7, q6⟩
          | cont =>
            obtain ⟨σ6, H6, S6, q6⟩ := hsp
            exact end_ S6 fun s7 J7 => ⟨_, _, J7, q6⟩
          | ret u =>
            obtain ⟨v6, σ6, H6, S6, r6, q6⟩ := hsp
            exact end_ S6 fun s7 J7 => ⟨_, _, _, J7, r6, q6⟩
        | false =>
          show wpAny _ X.A (handleBy (.ref a) X.env hds2) _ _ _
          exact ih (hno rfl)
    exact go hh w
  · cases f with
    | next =>
      obtain ⟨σ', H', J', q⟩ := hsp
      exact wpAny_execs_nil ⟨σ', H', J'.ofTry ok, q⟩
    | brk =>
      obtain ⟨σ', H', J', q⟩ := hsp
      exact ⟨σ', H', J'.ofTry ok, q⟩
    | cont =>
      obtain ⟨σ', H', J', q⟩ := hsp
      exact ⟨σ', H', J'.ofTry ok, q⟩
    | ret u =>
      obtain ⟨v, σ', H', J', r, q⟩ := hsp
      exact ⟨v, σ', H', J'.ofTry ok, r, q⟩
end
/-- isinstance(e, c) in such a suite, e's fields in its dict -/
def rIsED (K : PySem.W.Frag) (k : Kd) (a : Addr) (cls : Value) (d : Option Addr) : List V → Hp → VK → Prop := fun xs H Q => ∃ (C dd : Addr) (fs : List (Str × V)) (c : V) (cv : Value) (b : Bool), xs = [.ref a, c] ∧ cls = .ref C ∧ d = some dd ∧ H dd = some (.xd fs) ∧ EC K C k ∧ (∀ u, RelV c u → u = cv) ∧ PySem.W.kitOne K (.ref C) cv = some b ∧ Q (.bl b) H
theorem call_isED {X : Cx} {k : Kd} {a : Addr} {cls : Value} {d : Option Addr} {oe : Obj} {pn : List (Addr × Obj)} (hz : Zc cls d oe) (hf : ∃ vs, oe.data = .fields vs) : CallR (X.suite a ((a, oe) :: pn)) (.builtin "isinstance") (rIsED X.K k a cls d) := by
  intro pins s σ H xs us Q I r h
  obtain ⟨C, dd, fs, c, cv, b, rfl, rfl, rfl, ed, T, hcv, e, q⟩ := h
  cases r with
  | cons rx rr =>
    cases rr with
    | cons rt rr =>
      cases rr
      cases rx
      have ec := hcv _ rt
      subst ec
      obtain ⟨ha, _⟩ := I.pin (a, oe) (List.mem_append_left _ List.mem_cons_self)
      obtain ⟨vs, hd⟩ := hf
      have hx : ObjOk X.prog X.w H s.heap dd (.xd fs) := I.hok dd _ ed
      obtain ⟨mA, hns, _⟩ := hx
      obtain ⟨od, ho, _⟩ := lookIn_ns hns
      have J : PySem.W.InstAt s.heap a oe C (some od) := ⟨ha, hz.1, by unfold PySem.W.notCls; rw [hd] <;> rfl, by rw [hz.2]; exact ho⟩
      have hcl : (PySem.W.clsIn X.K C).isSome = true := by
        obtain ⟨cd, hc, _⟩ := PySem.W.any_some T.at_.hd
        rw [hc] <;> rfl
      exact PySem.W.kia_one (PySem.W.kitx_exc hcl T.at_.hg T.at_.hk T.at_.hs T.at_.ha T.at_.hn T.at_.ht T.at_.hm) I.kIn J e (fun z => nomatch z) fun tk => ⟨.bl b, H, I.kept (t' := tk) fun _ _ z => z, rfl, q⟩
/-- the same of an error without fields -/
def rIsEN (K : PySem.W.Frag) (a : Addr) (cls : Value) (d : Option Addr) : List V → Hp → VK → Prop := fun xs H Q => ∃ (C : Addr) (c : V) (cv : Value) (b : Bool), xs = [.ref a, c] ∧ cls = .ref C ∧ d = none ∧ ExcC K C ∧ (∀ u, RelV c u → u = cv) ∧ PySem.W.kitOne K (.ref C) cv = some b ∧ Q (.bl b) H
theorem call_isEN {X : Cx} {a : Addr} {cls : Value} {d : Option Addr} {oe : Obj} {pn : List (Addr × Obj)} (hz : Zc cls d oe) (hf : ∃ vs, oe.data = .fields vs) : CallR (X.suite a ((a, oe) :: pn)) (.builtin "isinstance") (rIsEN X.K a cls d) := by
  intro pins s σ H xs us Q I r h
  obtain ⟨C, c, cv, b, rfl, rfl, rfl, T, hcv, e, q⟩ := h
  exact call_isE T hz hf pins s σ H _ us Q I r ⟨c, cv, b, rfl, hcv, e, q⟩
end K26
set_option Elab.async false
set_option linter.all false
set_option maxRecDepth 100000
set_option maxHeartbeats 4000000
/-! _law_values_of -/
namespace K26
open K34 PySem PySem.Spec PyProof.Rows L2 StX
def n9 : List V := [V.non, .non, .non, .non, .non, .non, .non, .non, .non]
/-- what Values.__init__ is called with -/
def spVR (K : PySem.W.Frag) : Sp := fun vs H Q E => ∃ v rest, vs = v :: rest ∧ rest.length ≤ 9 ∧ ∀ p, H p = none → spVInit K [v, .ref p] (upd H p (.tup rest)) Q E
theorem pe_make0R {X : Cx} {CX : CXT} {k : Nat} {f C : Addr} {sp : Sp} {E : XK} {x : Str} {p pos : Pos} (M : Mk X.K C f) (F : FnR X.prog X.w X.K X.mg X.base CX k f sp) (hr : Room (k + 1) X.A) (hg : Gl X x) (hm : X.mg x = some (.ref C)) (hx : Passes CX X E) (hdb : (x == ("__debug__" : Str)) = false := by decide) :
    PE X (.Call (.Name x p) [] [] pos) (tMakeR C sp E tNil) :=
  ⟨fun pins s σ H Q I h => wpAny_Call_Name_kw (ld_glob I hg hm (PySem.W.callWith_K0 I.kIn M.kp (run_makeR M F hr hx I .nil h)) hdb)⟩
theorem rd_mkV {K : PySem.W.Frag} {H : Hp} {Q : VK} {E : XK} {vs : List V} {ds : List PyData} (tl : ThL K H vs ds) (l9 : ds.length ≤ 9) (bad : valsD ds = false → Rz0 (He.ga K "InvalidBound") H E)
    (good : valsD ds = true → ∀ a es H', Same H H' → VEnt (ds.map vD) es → VlAt K H' a es → Q (.ref a) H') :
    ∀ x dx, H x = none → H dx = none → dx ≠ x → spVR K (.ref x :: vs) (upd (upd H dx (.own x)) x (.ins (He.ga K "Values") dx [])) (fun v H2 => v = .non ∧ Q (.ref x) H2) E := by
  intro x dx h1 h2 ne
  have s1 : Same H (upd (upd H dx (.own x)) x (.ins (He.ga K "Values") dx [])) := same_new (same_new (Same.refl H) h2) (by rw [upd_ne (Ne.symm ne)]; exact h1)
  have ex : (upd (upd H dx (.own x)) x (.ins (He.ga K "Values") dx [])) x = some (.ins (He.ga K "Values") dx []) := upd_same
  generalize upd (upd H dx (.own x)) x (.ins (He.ga K "Values") dx []) = H1 at s1 ex ⊢
  refine ⟨_, vs, rfl, by have := tl.l; omega, fun p hp => ?_⟩
  have s2 := same_new (o := .tup vs) s1 hp
  refine ⟨x, dx, p, vs, ds, rfl, up ex hp, SqT.of upd_same, tl.same s2, l9, fun e => ?_, fun e es l H' ve bu hx hl => ⟨rfl, ?_⟩⟩
  · exact fun H' s' => bad e H' (s2.trans s')
  · exact good e x es H' (fun b o z => bu b o (ne_of_none z h1) (s2 _ _ z)) ve ⟨⟨dx, l, hx, hl⟩, ve.flat⟩
def spVof (K : PySem.W.Frag) : Sp := fun vs H Q E => ∃ (o : Addr) (xs : List V) (ds : List PyData), vs = [.ref o] ∧ H o = some (.lst xs) ∧ ThL K H xs ds ∧ ds.length ≤ 9 ∧ (valsD ds = false → Rz0 (He.ga K "InvalidBound") H E) ∧
  (valsD ds = true → ∀ a es H', Same H H' → VEnt (ds.map vD) es → VlAt K H' a es → Q (.ref a) H')
theorem scVof : FnScope ["_law_some", "_law_a", "_law_b", "_law_c", "_law_d", "_law_e", "_law_f", "_law_g", "_law_h", "_law_i"] ["_law_some"] (defScope sValuesOf) := ⟨rfl, rfl, rfl, by decide +kernel, rfl, by decide +kernel, by decide +kernel⟩
section
variable {P : Program} {w : World} {K : PySem.W.Frag} {mg : Str → Option Value} {base : Heap} {f fI : Addr} {fd : FuncData}
theorem ok_vof (F : FnP K "_law_values_of" sValuesOf f fd) (T : TxP mg) (gV : mg "Values" = some (.ref (He.ga K "Values"))) (M : Mk K (He.ga K "Values") fI) (G : FnR P w K mg base (L2.CX P w) 4 fI (spVR K)) : FnOk P w K mg base (L2.CX P w) 6 f fd ["_law_some"] (spVof K) := by
  refine F.ok scVof (fun vs H Q E h => ?_) (fun cdv A outer s H vs Q E hr h => ?_)
  · obtain ⟨o, xs, ds, rfl, _⟩ := h
    rfl
  · obtain ⟨o, xs, ds, rfl, ho, tl, l9, bad, good⟩ := h
    have nd := scVof.nd
    have hu := hr.units0
    refine ⟨_, (pss_cons (ps_asg (pe_slice sl_list (pe_op op_cat (pv 0) (pe_op op_rep (pe_lst (pa_cons pe_non pa_nil)) pe_int)) po_none (po_some pe_int)) (pg_lst rfl (pgs_cons (pg_name (i := 1) nd rfl (Or.inl rfl)) (pgs_cons (pg_name (i := 2) nd rfl (Or.inl rfl)) (pgs_cons (pg_name (i := 3) nd rfl (Or.inl rfl)) (pgs_cons (pg_name (i := 4) nd rfl (Or.inl rfl)) (pgs_cons (pg_name (i := 5) nd rfl (Or.inl rfl)) (pgs_cons (pg_name (i := 6) nd rfl (Or.inl rfl)) (pgs_cons (pg_name (i := 7) nd rfl (Or.inl rfl)) (pgs_cons (pg_name (i := 8) nd rfl (Or.inl rfl)) (pgs_cons (pg_name (i := 9) nd rfl (Or.inl rfl)) pgs_nil)))))))))))
      (pss_cons (ps_if (pt_cmpR op_lt (pe_callB call_len_seq (by rfl) T.len PySem.boot_len (pa_cons (pv 0) pa_nil)) pe_int (nomark _))
        (pss_cons (ps_if (pt_cmpR op_lt (pe_callB call_len_seq (by rfl) T.len PySem.boot_len (pa_cons (pv 0) pa_nil)) pe_int (nomark _)) (pss_one (ps_ret (pe_ifExp (pt_cmpR (op_eqNil hu) (pv 0) (pe_lst pa_nil) (nomark _)) (pe_make0R M G hr (by rfl) gV (passes_call (takes_of rfl rfl rfl rfl) (fun _ _ _ _ h => h))) (pe_makeR M G hr (by rfl) gV (passes_call (takes_of rfl rfl rfl rfl) (fun _ _ _ _ h => h)) (pa_cons (pv 1) pa_nil))))) pss_nil)
        (pss_one (ps_ret (pe_ifExp (pt_cmpR op_eq (pe_callB call_len_seq (by rfl) T.len PySem.boot_len (pa_cons (pv 0) pa_nil)) pe_int (nomark _)) (pe_makeR M G hr (by rfl) gV (passes_call (takes_of rfl rfl rfl rfl) (fun _ _ _ _ h => h)) (pa_cons (pv 1) (pa_cons (pv 2) pa_nil))) (pe_makeR M G hr (by rfl) gV (passes_call (takes_of rfl rfl rfl rfl) (fun _ _ _ _ h => h)) (pa_cons (pv 1) (pa_cons (pv 2) (pa_cons (pv 3) pa_nil)))))))) pss_nil)
      (pss_cons (ps_if (pt_cmpR op_lt (pe_callB call_len_seq (by rfl) T.len PySem.boot_len (pa_cons (pv 0) pa_nil)) pe_int (nomark _)) (pss_one (ps_ret (pe_ifExp (pt_cmpR op_eq (pe_callB call_len_seq (by rfl) T.len PySem.boot_len (pa_cons (pv 0) pa_nil)) pe_int (nomark _)) (pe_makeR M G hr (by rfl) gV (passes_call (takes_of rfl rfl rfl rfl) (fun _ _ _ _ h => h)) (pa_cons (pv 1) (pa_cons (pv 2) (pa_cons (pv 3) (pa_cons (pv 4) pa_nil))))) (pe_makeR M G hr (by rfl) gV (passes_call (takes_of rfl rfl rfl rfl) (fun _ _ _ _ h => h)) (pa_cons (pv 1) (pa_cons (pv 2) (pa_cons (pv 3) (pa_cons (pv 4) (pa_cons (pv 5) pa_nil))))))))) pss_nil)
      (pss_cons (ps_if (pt_cmpR op_eq (pe_callB call_len_seq (by rfl) T.len PySem.boot_len (pa_cons (pv 0) pa_nil)) pe_int (nomark _)) (pss_one (ps_ret (pe_makeR M G hr (by rfl) gV (passes_call (takes_of rfl rfl rfl rfl) (fun _ _ _ _ h => h)) (pa_cons (pv 1) (pa_cons (pv 2) (pa_cons (pv 3) (pa_cons (pv 4) (pa_cons (pv 5) (pa_cons (pv 6) pa_nil))))))))) pss_nil)
      (pss_cons (ps_if (pt_cmpR op_eq (pe_callB call_len_seq (by rfl) T.len PySem.boot_len (pa_cons (pv 0) pa_nil)) pe_int (nomark _)) (pss_one (ps_ret (pe_makeR M G hr (by rfl) gV (passes_call (takes_of rfl rfl rfl rfl) (fun _ _ _ _ h => h)) (pa_cons (pv 1) (pa_cons (pv 2) (pa_cons (pv 3) (pa_cons (pv 4) (pa_cons (pv 5) (pa_cons (pv 6) (pa_cons (pv 7) pa_nil)))))))))) pss_nil)
      (pss_one (ps_ret (pe_ifExp (pt_cmpR op_eq (pe_callB call_len_seq (by rfl) T.len PySem.boot_len (pa_cons (pv 0) pa_nil)) pe_int (nomark _)) (pe_makeR M G hr (by rfl) gV (passes_call (takes_of rfl rfl rfl rfl) (fun _ _ _ _ h => h)) (pa_cons (pv 1) (pa_cons (pv 2) (pa_cons (pv 3) (pa_cons (pv 4) (pa_cons (pv 5) (pa_cons (pv 6) (pa_cons (pv 7) (pa_cons (pv 8) pa_nil))))))))) (pe_makeR M G hr (by rfl) gV (passes_call (takes_of rfl rfl rfl rfl) (fun _ _ _ _ h => h)) (pa_cons (pv 1) (pa_cons (pv 2) (pa_cons (pv 3) (pa_cons (pv 4) (pa_cons (pv 5) (pa_cons (pv 6) (pa_cons (pv 7) (pa_cons (pv 8) (pa_cons (pv 9) pa_nil)))))))))))))))))), ?_⟩
    have lx := tl.l
    refine ⟨_, rfl, (by show 1 ≤ sizeLine; decide), fun q1 n1 => ?_⟩
    have s := same_new (o := .lst [.non]) (Same.refl H) n1
    refine ⟨q1, 9, [.non], rfl, rfl, upd_same, (by decide), (by decide), (by show 1 * 9 ≤ sizeLine; decide), fun q2 n2 => ?_⟩
    have s := same_new (o := .lst (List.replicate (9 : Int).toNat [V.non]).flatten) s n2
    have e2 : (List.replicate (9 : Int).toNat [V.non]).flatten = n9 := rfl
    rw [e2] at s ⊢
    refine ⟨o, q2, xs, _, rfl, rfl, s _ _ ho, upd_same, (by show xs.length + 9 ≤ sizeLine; rw [sizeLine_eq]; omega), fun q3 n3 => ?_⟩
    have s := same_new (o := .lst (xs ++ n9)) s n3
    refine np ⟨_, rfl, q3, _, rfl, SqL.of upd_same, fun q4 n4 => ?_⟩
    have s := same_new (o := .lst (cutV (xs ++ n9) none (some 9))) s n4
    have f4 : (upd (upd (upd (upd H q1 (.lst [.non])) q2 (.lst n9)) q3 (.lst (xs ++ n9))) q4 (.lst (cutV (xs ++ n9) none (some 9)))) q4 = some (.lst (cutV (xs ++ n9) none (some 9))) := upd_same
    generalize upd (upd (upd (upd H q1 (.lst [.non])) q2 (.lst n9)) q3 (.lst (xs ++ n9))) q4 (.lst (cutV (xs ++ n9) none (some 9))) = H4 at s f4 ⊢
    have ho := s _ _ ho
    have tl := tl.same s
    have bad : valsD ds = false → Rz0 (He.ga K "InvalidBound") H4 E := fun e H' s' => bad e H' (s.trans s')
    have good : valsD ds = true → ∀ a es H', Same H4 H' → VEnt (ds.map vD) es → VlAt K H' a es → Q (.ref a) H' := fun e a es H' s' => good e a es H' (s.trans s')
    refine ⟨q4, _, rfl, SqL.of f4, ?_, ?_⟩
    · have e : cutV (xs ++ n9) none (some 9) = (xs ++ n9).take 9 := by
        unfold cutV
        have e : HT.sIx (xs ++ n9).length (xs ++ n9).length (some 9) = 9 := by
          have := HT.sIx_nat (xs ++ n9).length (xs ++ n9).length 9
          refine this.trans ?_
          rw [List.length_append]
          show min 9 (xs.length + 9) = 9
          omega
        rw [e, HT.sIx_none, List.drop_zero, Nat.sub_zero]
      rw [e, List.length_take, List.length_append]
      show min 9 (xs.length + 9) = 9
      omega
    clear f4
    rw [← lx] at l9
    match xs, l9, ho, tl, lx with
    | [], l9, ho, tl, lx =>
      refine ⟨_, _, rfl, _, _, rfl, _, _, rfl, _, _, rfl, _, _, rfl, _, _, rfl, _, _, rfl, _, _, rfl, _, _, rfl, rfl, ?_⟩
      refine ⟨_, rfl, o, _, rfl, .inl (SqL.of ho), _, _, rfl, rfl, _, rfl, ?_⟩
      refine itT rfl ?_
      refine ⟨_, rfl, o, _, rfl, .inl (SqL.of ho), _, _, rfl, rfl, _, rfl, ?_⟩
      refine itT rfl ?_
      refine ⟨_, rfl, (by show 0 ≤ sizeLine; decide), fun z nz => ?_⟩
      have s := same_new (o := .lst []) (Same.refl H4) nz
      refine ⟨o, z, _, rfl, rfl, SqL.of (s _ _ ho), SqL.of upd_same, _, rfl, ?_⟩
      refine itT rfl ?_
      have tl := tl.same s
      have bad : valsD ds = false → Rz0 (He.ga K "InvalidBound") (upd H4 z (.lst [])) E := fun e H' s' => bad e H' (s.trans s')
      have good : valsD ds = true → ∀ a es H', Same (upd H4 z (.lst [])) H' → VEnt (ds.map vD) es → VlAt K H' a es → Q (.ref a) H' := fun e a es H' s' => good e a es H' (s.trans s')
      exact rd_mkV tl (by rw [← lx]; exact l9) bad good
    | [x1], l9, ho, tl, lx =>
      refine ⟨_, _, rfl, _, _, rfl, _, _, rfl, _, _, rfl, _, _, rfl, _, _, rfl, _, _, rfl, _, _, rfl, _, _, rfl, rfl, ?_⟩
      refine ⟨_, rfl, o, _, rfl, .inl (SqL.of ho), _, _, rfl, rfl, _, rfl, ?_⟩
      refine itT rfl ?_
      refine ⟨_, rfl, o, _, rfl, .inl (SqL.of ho), _, _, rfl, rfl, _, rfl, ?_⟩
      refine itT rfl ?_
      refine ⟨_, rfl, (by show 0 ≤ sizeLine; decide), fun z nz => ?_⟩
      have s := same_new (o := .lst []) (Same.refl H4) nz
      refine ⟨o, z, _, rfl, rfl, SqL.of (s _ _ ho), SqL.of upd_same, _, rfl, ?_⟩
      refine itF rfl ?_
      have tl := tl.same s
      have bad : valsD ds = false → Rz0 (He.ga K "InvalidBound") (upd H4 z (.lst [])) E := fun e H' s' => bad e H' (s.trans s')
      have good : valsD ds = true → ∀ a es H', Same (upd H4 z (.lst [])) H' → VEnt (ds.map vD) es → VlAt K H' a es → Q (.ref a) H' := fun e a es H' s' => good e a es H' (s.trans s')
      refine ⟨_, rfl, ?_⟩
      exact rd_mkV tl (by rw [← lx]; exact l9) bad good
    | [x1, x2], l9, ho, tl, lx =>
      refine ⟨_, _, rfl, _, _, rfl, _, _, rfl, _, _, rfl, _, _, rfl, _, _, rfl, _, _, rfl, _, _, rfl, _, _, rfl, rfl, ?_⟩
      refine ⟨_, rfl, o, _, rfl, .inl (SqL.of ho), _, _, rfl, rfl, _, rfl, ?_⟩
      refine itT rfl ?_
      refine ⟨_, rfl, o, _, rfl, .inl (SqL.of ho), _, _, rfl, rfl, _, rfl, ?_⟩
      refine itF rfl ?_
      refine ⟨_, rfl, o, _, rfl, .inl (SqL.of ho), rfl, _, rfl, ?_⟩
      refine itT rfl ?_
      refine ⟨_, rfl, _, rfl, ?_⟩
      exact rd_mkV tl (by rw [← lx]; exact l9) bad good
    | [x1, x2, x3], l9, ho, tl, lx =>
      refine ⟨_, _, rfl, _, _, rfl, _, _, rfl, _, _, rfl, _, _, rfl, _, _, rfl, _, _, rfl, _, _, rfl, _, _, rfl, rfl, ?_⟩
      refine ⟨_, rfl, o, _, rfl, .inl (SqL.of ho), _, _, rfl, rfl, _, rfl, ?_⟩
      refine itT rfl ?_
      refine ⟨_, rfl, o, _, rfl, .inl (SqL.of ho), _, _, rfl, rfl, _, rfl, ?_⟩
      refine itF rfl ?_
      refine ⟨_, rfl, o, _, rfl, .inl (SqL.of ho), rfl, _, rfl, ?_⟩
      refine itF rfl ?_
      refine ⟨_, rfl, _, rfl, _, rfl, ?_⟩
      exact rd_mkV tl (by rw [← lx]; exact l9) bad good
    | [x1, x2, x3, x4], l9, ho, tl, lx =>
      refine ⟨_, _, rfl, _, _, rfl, _, _, rfl, _, _, rfl, _, _, rfl, _, _, rfl, _, _, rfl, _, _, rfl, _, _, rfl, rfl, ?_⟩
      refine ⟨_, rfl, o, _, rfl, .inl (SqL.of ho), _, _, rfl, rfl, _, rfl, ?_⟩
      refine itF rfl ?_
      refine ⟨_, rfl, o, _, rfl, .inl (SqL.of ho), _, _, rfl, rfl, _, rfl, ?_⟩
      refine itT rfl ?_
      refine ⟨_, rfl, o, _, rfl, .inl (SqL.of ho), rfl, _, rfl, ?_⟩
      refine itT rfl ?_
      refine ⟨_, rfl, _, rfl, _, rfl, _, rfl, ?_⟩
      exact rd_mkV tl (by rw [← lx]; exact l9) bad good
    | [x1, x2, x3, x4, x5], l9, ho, tl, lx =>
      refine ⟨_, _, rfl, _, _, rfl, _, _, rfl, _, _, rfl, _, _, rfl, _, _, rfl, _, _, rfl, _, _, rfl, _, _, rfl, rfl, ?_⟩
      refine ⟨_, rfl, o, _, rfl, .inl (SqL.of ho), _, _, rfl, rfl, _, rfl, ?_⟩
      refine itF rfl ?_
      refine ⟨_, rfl, o, _, rfl, .inl (SqL.of ho), _, _, rfl, rfl, _, rfl, ?_⟩
      refine itT rfl ?_
      refine ⟨_, rfl, o, _, rfl, .inl (SqL.of ho), rfl, _, rfl, ?_⟩
      refine itF rfl ?_
      refine ⟨_, rfl, _, rfl, _, rfl, _, rfl, _, rfl, ?_⟩
      exact rd_mkV tl (by rw [← lx]; exact l9) bad good
    | [x1, x2, x3, x4, x5, x6], l9, ho, tl, lx =>
      refine ⟨_, _, rfl, _, _, rfl, _, _, rfl, _, _, rfl, _, _, rfl, _, _, rfl, _, _, rfl, _, _, rfl, _, _, rfl, rfl, ?_⟩
      refine ⟨_, rfl, o, _, rfl, .inl (SqL.of ho), _, _, rfl, rfl, _, rfl, ?_⟩
      refine itF rfl ?_
      refine ⟨_, rfl, o, _, rfl, .inl (SqL.of ho), _, _, rfl, rfl, _, rfl, ?_⟩
      refine itF rfl ?_
      refine ⟨_, rfl, o, _, rfl, .inl (SqL.of ho), rfl, _, rfl, ?_⟩
      refine itT rfl ?_
      refine ⟨_, rfl, _, rfl, _, rfl, _, rfl, _, rfl, _, rfl, ?_⟩
      exact rd_mkV tl (by rw [← lx]; exact l9) bad good
    | [x1, x2, x3, x4, x5, x6, x7], l9, ho, tl, lx =>
      refine ⟨_, _, rfl, _, _, rfl, _, _, rfl, _, _, rfl, _, _, rfl, _, _, rfl, _, _, rfl, _, _, rfl, _, _, rfl, rfl, ?_⟩
      refine ⟨_, rfl, o, _, rfl, .inl (SqL.of ho), _, _, rfl, rfl, _, rfl, ?_⟩
      refine itF rfl ?_
      refine ⟨_, rfl, o, _, rfl, .inl (SqL.of ho), _, _, rfl, rfl, _, rfl, ?_⟩
      refine itF rfl ?_
      refine ⟨_, rfl, o, _, rfl, .inl (SqL.of ho), rfl, _, rfl, ?_⟩
      refine itF rfl ?_
      refine ⟨_, rfl, o, _, rfl, .inl (SqL.of ho), rfl, _, rfl, ?_⟩
      refine itT rfl ?_
      refine ⟨_, rfl, _, rfl, _, rfl, _, rfl, _, rfl, _, rfl, _, rfl, ?_⟩
      exact rd_mkV tl (by rw [← lx]; exact l9) bad good
    | [x1, x2, x3, x4, x5, x6, x7, x8], l9, ho, tl, lx =>
      refine ⟨_, _, rfl, _, _, rfl, _, _, rfl, _, _, rfl, _, _, rfl, _, _, rfl, _, _, rfl, _, _, rfl, _, _, rfl, rfl, ?_⟩
      refine ⟨_, rfl, o, _, rfl, .inl (SqL.of ho), _, _, rfl, rfl, _, rfl, ?_⟩
      refine itF rfl ?_
      refine ⟨_, rfl, o, _, rfl, .inl (SqL.of ho), _, _, rfl, rfl, _, rfl, ?_⟩
      refine itF rfl ?_
      refine ⟨_, rfl, o, _, rfl, .inl (SqL.of ho), rfl, _, rfl, ?_⟩
      refine itF rfl ?_
      refine ⟨_, rfl, o, _, rfl, .inl (SqL.of ho), rfl, _, rfl, ?_⟩
      refine itF rfl ?_
      refine ⟨_, rfl, o, _, rfl, .inl (SqL.of ho), rfl, _, rfl, ?_⟩
      refine itT rfl ?_
      refine ⟨_, rfl, _, rfl, _, rfl, _, rfl, _, rfl, _, rfl, _, rfl, _, rfl, ?_⟩
      exact rd_mkV tl (by rw [← lx]; exact l9) bad good
    | [x1, x2, x3, x4, x5, x6, x7, x8, x9], l9, ho, tl, lx =>
      refine ⟨_, _, rfl, _, _, rfl, _, _, rfl, _, _, rfl, _, _, rfl, _, _, rfl, _, _, rfl, _, _, rfl, _, _, rfl, rfl, ?_⟩
      refine ⟨_, rfl, o, _, rfl, .inl (SqL.of ho), _, _, rfl, rfl, _, rfl, ?_⟩
      refine itF rfl ?_
      refine ⟨_, rfl, o, _, rfl, .inl (SqL.of ho), _, _, rfl, rfl, _, rfl, ?_⟩
      refine itF rfl ?_
      refine ⟨_, rfl, o, _, rfl, .inl (SqL.of ho), rfl, _, rfl, ?_⟩
      refine itF rfl ?_
      refine ⟨_, rfl, o, _, rfl, .inl (SqL.of ho), rfl, _, rfl, ?_⟩
      refine itF rfl ?_
      refine ⟨_, rfl, o, _, rfl, .inl (SqL.of ho), rfl, _, rfl, ?_⟩
      refine itF rfl ?_
      refine ⟨_, rfl, _, rfl, _, rfl, _, rfl, _, rfl, _, rfl, _, rfl, _, rfl, _, rfl, ?_⟩
      exact rd_mkV tl (by rw [← lx]; exact l9) bad good
    | _ :: _ :: _ :: _ :: _ :: _ :: _ :: _ :: _ :: _ :: r, l9, _, _, _ => exact absurd l9 (by simp only [List.length_cons]; omega)
end
end K26
set_option Elab.async false
set_option linter.all false
set_option maxRecDepth 100000
set_option maxHeartbeats 4000000
/-! C() of a class without an __init__ of its own -/
namespace K26
open K34 PySem PySem.Spec PyProof.Rows L2
structure Mk0 (K : PySem.W.Frag) (C : Addr) : Prop where
  makes : PySem.W.makesIn K C = true
  init : PySem.W.findIn K (.ref C) "__init__" = some (some (.builtin "object.__init__"))
  kp : PySem.W.keepIn K (.ref C) = true
  top : PySem.W.mroIn K C (.type "object") = some true
def tMk0 (C : Addr) : TE := fun _ H Q => ∀ x dx, H x = none → H dx = none → dx ≠ x → Q (.ref x) (upd (upd H dx (.own x)) x (.ins C dx []))
theorem pe_mk0 {X : Cx} {C : Addr} {x : Str} {p pos : Pos} (M : Mk0 X.K C) (hg : Gl X x) (hm : X.mg x = some (.ref C)) (hdb : (x == ("__debug__" : Str)) = false := by decide) : PE X (.Call (.Name x p) [] [] pos) (tMk0 C) := by
  refine ⟨fun pins s σ H Q I h => wpAny_Call_Name_kw (ld_glob I hg hm (PySem.W.callWith_K0 I.kIn M.kp ?_) hdb)⟩
  have hq := h (s.heap.objs.size + 1) s.heap.objs.size (I.hok.fresh (Nat.le_succ _)) (I.hok.fresh (Nat.le_refl _)) (Nat.ne_of_lt (Nat.lt_succ_self _))
  have I2 := Inv.made (C := C) I
  refine wpAny_call (make_map0 I.kIn M.makes M.init (fun self => PySem.W.Looks.of_pure (PySem.W.oi_bind _)) ?_)
  have X2 := I2.kIn
  have ho : ((s.heap.push PySem.W.emptyDict).push (PySem.W.instObj C s.heap.objs.size)).get? (s.heap.objs.size + 1) = some (PySem.W.instObj C s.heap.objs.size) := by
    have e : (s.heap.push PySem.W.emptyDict).objs.size = s.heap.objs.size + 1 := by
      show (Array.push _ _).size = _
      rw [Array.size_push]
    rw [← e]
    exact Heap.get?_push_size _ rfl
  have t1 : PySem.W.Looks (model X.prog X.w) ((s.heap.push PySem.W.emptyDict).push (PySem.W.instObj C s.heap.objs.size)) (typeOf (.ref (s.heap.objs.size + 1))) (.ref C) := NwA.type_at ho rfl
  have t2 : PySem.W.Looks (model X.prog X.w) ((s.heap.push PySem.W.emptyDict).push (PySem.W.instObj C s.heap.objs.size)) (isInstance (.ref (s.heap.objs.size + 1)) (.type "object")) true := t1.andThen (PySem.W.looks_mroIn X2 M.top)
  refine codeAny_call_builtin PySem.W.oi_plain PySem.W.entry_oi (@PySem.W.check_slot (model X.prog X.w) _ _ _ "object.__init__" "object" "__init__" (.ref (s.heap.objs.size + 1)) [] [] _ PySem.W.oi_kind PySem.W.oi_split t2 (PySem.W.oi_args (.ref (s.heap.objs.size + 1))) ?_)
  rw [PySem.W.oi_run]
  refine wpAny_pure ?_
  exact ⟨rfl, .ref (s.heap.objs.size + 1), _, I2, rfl, hq⟩
end K26
set_option Elab.async false
set_option linter.all false
set_option maxRecDepth 100000
set_option maxHeartbeats 4000000
/-! what stands while a lambda is made; bounds made by their classes -/
namespace K26
open K34 PySem PySem.Spec PyProof.Rows L2 LamX
section
variable {K : PySem.W.Frag} {H H' : Hp} {v : V} {d : PyData} {a : Addr} {xs : List V} {es fs : List En}
theorem sqT_ext (e : ExtN H H') (h : SqT K H a xs) : SqT K H' a xs := by
  rcases h with (h | ⟨o, h⟩) | h
  · exact .inl (.inl (e _ _ h (fun _ z => by cases z)))
  · exact .inl (.inr ⟨o, e _ _ h (fun _ z => by cases z)⟩)
  · exact .inr h
theorem sqL_ext (e : ExtN H H') (h : SqL K H a xs) : SqL K H' a xs := by
  rcases h with (h | ⟨o, h⟩) | h
  · exact .inl (.inl (e _ _ h (fun _ z => by cases z)))
  · exact .inl (.inr ⟨o, e _ _ h (fun _ z => by cases z)⟩)
  · exact .inr h
theorem dp_ext (e : ExtN H H') : ∀ (d : PyData) (v : V), Dp K H v d → Dp K H' v d := by
  intro d v h
  exact Dp.rec (motive_1 := fun v d _ => Dp K H' v d) (motive_2 := fun vs ds _ => DpAll K H' vs ds) .non .bl .int .str (fun h1 _ ih => .lst (sqL_ext e h1) ih) (fun h1 _ ih => .tup (sqT_ext e h1) ih) .nil (fun _ _ i1 i2 => .cons i1 i2) h
theorem th_ext (e : ExtN H H') (h : Th K H v d) : Th K H' v d := by
  cases h with
  | dp h n => exact .dp (dp_ext e _ _ h) n
  | @d0 a h => exact .d0 (e a _ h (fun _ z => by cases z))
  | @d1 a h => exact .d1 (e a _ h (fun _ z => by cases z))
theorem tg_ext (e : ExtN H H') (h : Tg K H v d) : Tg K H' v d := by
  cases h with
  | tup h l f => exact .tup (sqT_ext e h) l fun i x d e1 e2 => th_ext e (f i x d e1 e2)
  | oth t n => exact .oth (th_ext e t) n
theorem Cd.ext (c : Cd K H v d) (e : ExtN H H') : Cd K H' v d := ⟨tg_ext e c.t, c.e, c.m⟩
theorem pen_ext {p c : Addr} {ns : List Int} {t l : Int} (D : PenAt H p c ns t l) (e : ExtN H H') : PenAt H' p c ns t l := ⟨e _ _ D.d (fun _ z => by cases z), e _ _ D.c (fun _ z => by cases z), D.ht, D.hl, D.hn⟩
theorem ThL.ext {ds : List PyData} (h : ThL K H xs ds) (e : ExtN H H') : ThL K H' xs ds := ⟨h.l, fun i x d e1 e2 => ⟨th_ext e (h.t i x d e1 e2).1, (h.t i x d e1 e2).2⟩⟩
theorem tabs_but {T : List (Addr × Str)} {p c : Addr} {t l : Int} (h : Tabs T H) (hp : H p = some (.dK (penK c t l))) (b : But p H H') : Tabs T H' := fun z hz => by
  obtain ⟨ps, h1, h2, h3⟩ := h z hz
  refine ⟨ps, b _ _ (ne_of h1 hp (by intro z; cases z)) h1, h2, fun pos cv hc => ?_⟩
  obtain ⟨c, e1, e2⟩ := h3 pos cv hc
  exact ⟨c, e1, b _ _ (ne_of e2 hp (by intro z; cases z)) e2⟩
theorem tabs_same {T : List (Addr × Str)} (h : Tabs T H) (s : Same H H') : Tabs T H' := h.ext s
theorem eqVs_en (oe : es.all enOk = true) (of : fs.all enOk = true) (l : es.length = fs.length) : eqVs (es.map enV) (fs.map enV) = decide (es = fs) := by
  have ae := List.all_eq_true.mp oe
  have af := List.all_eq_true.mp of
  rw [Bool.eq_iff_iff, decide_eq_true_eq]
  unfold eqVs
  rw [Bool.and_eq_true, List.length_map, List.length_map]
  constructor
  · rintro ⟨h, _⟩
    refine List.ext_getElem l fun i h1 h2 => ?_
    have z := List.all_eq_true.mp h i (List.mem_range.mpr (by omega))
    have e1 : (es.map enV).getD i .non = enV es[i] := by rw [List.getD_eq_getElem?_getD, List.getElem?_map, List.getElem?_eq_getElem h1]; rfl
    have e2 : (fs.map enV).getD i .non = enV fs[i] := by rw [List.getD_eq_getElem?_getD, List.getElem?_map, List.getElem?_eq_getElem h2]; rfl
    rw [e1, e2, eqV_en _ _ (ae _ (List.getElem_mem h1)) (af _ (List.getElem_mem h2))] at z
    exact of_decide_eq_true z
  · rintro rfl
    refine ⟨List.all_eq_true.mpr fun i hi => ?_, by simp⟩
    have hi : i < es.length := by have := List.mem_range.mp hi; omega
    have e1 : (es.map enV).getD i .non = enV es[i] := by rw [List.getD_eq_getElem?_getD, List.getElem?_map, List.getElem?_eq_getElem hi]; rfl
    rw [e1, eqV_en _ _ (ae _ (List.getElem_mem hi)) (ae _ (List.getElem_mem hi))]
    exact decide_eq_true rfl
theorem same_ins {C x dx : Addr} {fs : List (Str × V)} (h1 : H x = none) (h2 : H dx = none) (ne : dx ≠ x) : Same H (upd (upd H dx (.own x)) x (.ins C dx fs)) := same_new (same_new (Same.refl H) h2) (by rw [upd_ne (Ne.symm ne)]; exact h1)
/-- Range(v1, v2) -/
theorem rd_mkR {v1 v2 : V} {d1 d2 : PyData} {W : VK} {E : XK} {x dx : Addr} (c1 : Cd K H v1 d1) (c2 : Cd K H v2 d2) (bad : rngD d1 d2 = false → Rz0 (He.ga K "InvalidBound") H E)
    (h1 : H x = none) (h2 : H dx = none) (ne : dx ≠ x)
    (good : rngD d1 d2 = true → ∀ H', Same H H' → RgAt K H' x (entsD d1) (entsD d2) → W .non H') : spRInit K [.ref x, v1, v2] (upd (upd H dx (.own x)) x (.ins (He.ga K "Range") dx [])) W E := by
  have s1 := same_ins (C := He.ga K "Range") (fs := []) h1 h2 ne
  have ex : (upd (upd H dx (.own x)) x (.ins (He.ga K "Range") dx [])) x = some (.ins (He.ga K "Range") dx []) := upd_same
  generalize upd (upd H dx (.own x)) x (.ins (He.ga K "Range") dx []) = H1 at s1 ex ⊢
  have k1 := c1.same s1
  have k2 := c2.same s1
  refine ⟨x, dx, v1, v2, d1, d2, rfl, ex, k1.t, k2.t, k1.e.o, k2.e.o, k1.e.n, k2.e.n, fun e H' s' => bad e H' (s1.trans s'), fun e H' bu hx => ?_⟩
  have s2 : Same H H' := fun b o z => bu b o (ne_of_none z h1) (s1 _ _ z)
  unfold rngD at e
  obtain ⟨e12, e3⟩ := Bool.and_eq_true_iff.mp e
  obtain ⟨e1, e4⟩ := Bool.and_eq_true_iff.mp e12
  obtain ⟨e2, _⟩ := Bool.and_eq_true_iff.mp e4
  obtain ⟨p, rfl, hp, op, _⟩ := end_en (c1.same s2).t e1
  obtain ⟨q, rfl, hq, oq, _⟩ := end_en (c2.same s2).t e2
  exact good (by unfold rngD; rw [e12, e3]; rfl) H' s2 ⟨⟨dx, p, q, hx, hp, hq⟩, op, oq⟩
/-- Rest(v1, v2) -/
theorem rd_mkT {v1 v2 : V} {d1 d2 : PyData} {W : VK} {E : XK} {x dx : Addr} (t1 : Th K H v1 d1) (t2 : Th K H v2 d2) (bad : restD d1 d2 = false → Rz0 (He.ga K "InvalidBound") H E)
    (h1 : H x = none) (h2 : H dx = none) (ne : dx ≠ x)
    (good : restD d1 d2 = true → ∀ (m r : Int) H', d1 = .int m → d2 = .int r → Same H H' → RsAt K H' x m r → W .non H') : spTInit K [.ref x, v1, v2] (upd (upd H dx (.own x)) x (.ins (He.ga K "Rest") dx [])) W E := by
  have s1 := same_ins (C := He.ga K "Rest") (fs := []) h1 h2 ne
  have ex : (upd (upd H dx (.own x)) x (.ins (He.ga K "Rest") dx [])) x = some (.ins (He.ga K "Rest") dx []) := upd_same
  generalize upd (upd H dx (.own x)) x (.ins (He.ga K "Rest") dx []) = H1 at s1 ex ⊢
  refine ⟨x, dx, v1, v2, d1, d2, rfl, ex, t1.same s1, t2.same s1, fun e H' s' => bad e H' (s1.trans s'), fun e H' bu hx => ?_⟩
  have s2 : Same H H' := fun b o z => bu b o (ne_of_none z h1) (s1 _ _ z)
  obtain ⟨i, j, rfl, rfl⟩ : ∃ i j, d1 = .int i ∧ d2 = .int j := by
    cases d1 <;> cases d2 <;> first | exact ⟨_, _, rfl, rfl⟩ | exact Bool.noConfusion (show false = true from e)
  cases th_int t1
  cases th_int t2
  exact good e i j H' rfl rfl s2 ⟨dx, hx⟩
end
/-! ### how the classes' arguments are bound -/
def swp {α : Type} (us mv ws : List α) : List α := match us, ws with
  | [s], [h, l] => [s, l, h]
  | _, _ => []
theorem swp_vals {us : List V} {vs : List Value} {ms : List V} {nv : List Value} {ws : List V} {zs : List Value} (r1 : Vals us vs) (r3 : Vals ws zs) : Vals (swp us ms ws) (swp vs nv zs) := by
  cases r1 with
  | nil => exact .nil
  | cons a1 t1 =>
    cases t1 with
    | cons _ _ => cases r3 <;> exact .nil
    | nil =>
      cases r3 with
      | nil => exact .nil
      | cons b1 u1 =>
        cases u1 with
        | nil => exact .nil
        | cons b2 u2 =>
          cases u2 with
          | nil => exact .cons a1 (.cons b2 (.cons b1 .nil))
          | cons _ _ => exact .nil
abbrev FRI (K : PySem.W.Frag) (f : Addr) (fd : FuncData) : Prop := FunD K "__init__" "Range.__init__" (defArgs sRInit) (defBody sRInit) (defScope sRInit) [] [] f fd
abbrev FTI (K : PySem.W.Frag) (f : Addr) (fd : FuncData) : Prop := FunD K "__init__" "Rest.__init__" (defArgs sTInit) (defBody sTInit) (defScope sTInit) [] [] f fd
section
variable {K : PySem.W.Frag} {f : Addr} {fd : FuncData}
theorem bindR (F : FRI K f fd) : Binds K fd ["self", "low", "high"] [] := F.bindsN fun _ _ _ _ _ _ us hl => match us, hl with | [_, _, _], _ => rfl
theorem bindT (F : FTI K f fd) : Binds K fd ["self", "modulus", "remainder"] [] := F.bindsN fun _ _ _ _ _ _ us hl => match us, hl with | [_, _, _], _ => rfl
theorem bindRK (F : FRI K f fd) : KBn K fd ["self", "low", "high"] 1 ["high", "low"] (fun us ws => swp us ([] : List Value) ws) (fun vs zs => swp vs ([] : List V) zs) := by
  obtain ⟨oc, od, dV, kV, doc, pm, an, cdv, ct, osl, rfl, lk, hcd, hD, hK⟩ := F.ex
  rcases hD with ⟨_, rfl⟩ | ⟨e, _⟩
  · exact ⟨fun s us ws X l1 l2 => .of_eq (match us, ws, l1, l2 with | [a], [b, c], _, _ => rfl), fun r1 r2 => swp_vals r1 r2⟩
  · exact absurd rfl e
theorem bindTK (F : FTI K f fd) : KBn K fd ["self", "modulus", "remainder"] 1 ["remainder", "modulus"] (fun us ws => swp us ([] : List Value) ws) (fun vs zs => swp vs ([] : List V) zs) := by
  obtain ⟨oc, od, dV, kV, doc, pm, an, cdv, ct, osl, rfl, lk, hcd, hD, hK⟩ := F.ex
  rcases hD with ⟨_, rfl⟩ | ⟨e, _⟩
  · exact ⟨fun s us ws X l1 l2 => .of_eq (match us, ws, l1, l2 with | [a], [b, c], _, _ => rfl), fun r1 r2 => swp_vals r1 r2⟩
  · exact absurd rfl e
end
/-! ### what the law's defs lean on -/
structure EqF (P : Program) (w : World) (K : PySem.W.Frag) (mg : Str → Option Value) (base : Heap) (c : Str) (sp : Sp) where
  f : Addr
  fd : FuncData
  o : FnOk P w K mg base CX0 1 f fd ["self", "other"] sp
  b : Binds K fd ["self", "other"] []
  s : PySem.W.findIn K (.ref (He.ga K c)) "__eq__" = some (some (.ref f))
  i : PySem.W.isFn K (.ref f) = true
  T : KC K mg c
structure RngF (P : Program) (w : World) (K : PySem.W.Frag) (mg : Str → Option Value) (base : Heap) where
  f : Addr
  fd : FuncData
  M : Mk K (He.ga K "Range") f
  G : FnOk P w K mg base (L2.CX P w) 5 f fd ["self", "low", "high"] (spRInit K)
  F : FRI K f fd
  Q : EqF P w K mg base "Range" (spREq K)
structure RstF (P : Program) (w : World) (K : PySem.W.Frag) (mg : Str → Option Value) (base : Heap) where
  f : Addr
  fd : FuncData
  M : Mk K (He.ga K "Rest") f
  G : FnOk P w K mg base (L2.CX P w) 3 f fd ["self", "modulus", "remainder"] (spTInit K)
  F : FTI K f fd
  Q : EqF P w K mg base "Rest" (spTEq K)
structure DftF (P : Program) (w : World) (K : PySem.W.Frag) (mg : Str → Option Value) (base : Heap) where
  M : Mk0 K (He.ga K "Default")
  Q : EqF P w K mg base "Default" (spDEq K)
/-- how the classes stand to one another -/
structure ClF (K : PySem.W.Frag) (mg : Str → Option Value) : Prop where
  gB : mg "Bound" = some (.ref (He.ga K "Bound"))
  rb : PySem.W.kitOne K (.ref (He.ga K "Range")) (.ref (He.ga K "Bound")) = some true
  vb : PySem.W.kitOne K (.ref (He.ga K "Values")) (.ref (He.ga K "Bound")) = some true
  db : PySem.W.kitOne K (.ref (He.ga K "Default")) (.ref (He.ga K "Bound")) = some true
  dr : PySem.W.kitOne K (.ref (He.ga K "Default")) (.ref (He.ga K "Range")) = some false
  vd : PySem.W.kitOne K (.ref (He.ga K "Values")) (.ref (He.ga K "Default")) = some false
  nrd : PySem.W.notFirst K (He.ga K "Range") (.ref (He.ga K "Default")) = true
  ndv : PySem.W.notFirst K (He.ga K "Default") (.ref (He.ga K "Values")) = true
end K26
set_option Elab.async false
set_option linter.all false
set_option maxRecDepth 100000
set_option maxHeartbeats 4000000
/-! <= of two pairs whose first items decide, or whose second ones may be compared -/
namespace TupE
open PySem PySem.SeqAt
open AutoSeq1 (wpAny_loadPart')
open MeetsSeq MeetsSeq2 MeetsSeq3 SeqRoads2
section
variable {prog : Program} {w : World} {A : Around} {R : Result → Shared → Prop}
theorem body {l b : Addr} {xs ys : Array Value} {n n2 : Nat} {d1 d2 : Option Addr} {c1 c2 : Array (Option Value)} (J : Nat → Shared → Prop)
    (turn : ∀ i (h1 : i < xs.size) (h2 : i < ys.size) s, J i s → wpAny (model prog w) A.in1 (eqBool xs[i] ys[i]) (fun r s' => if r = true then J (i + 1) s' else wpAny (model prog w) A.in1 (richCompare .LtE xs[i] ys[i]) (fun v s2 => R (.ok (.ret v)) s2) (fun e s2 => R (.error e) s2) s') (fun e s' => R (.error e) s') s)
    (fin : ∀ i s, J i s → min xs.size ys.size ≤ i → R (.ok (.ret (.bool (decide (xs.size ≤ ys.size))))) s) {s : Shared}
    (hl : s.heap.get? l = some { cls := .type "tuple", dict := d1, data := .seq xs n, slots := c1 }) (hb : s.heap.get? b = some { cls := .type "tuple", dict := d2, data := .seq ys n2, slots := c2 }) (h : J 0 s) :
    wpAny (model prog w) A.in1 (Builtin.«tuple.__le__» ⟨[.ref l, .ref b], []⟩) (GQ.FinOf prog w A R) (fun e s' => R (.error e) s') s := by
  have sub := AutoSeq1.sub_tuple_tuple
  have hZ : (xs.toList.zip ys.toList).length = min xs.size ys.size := by simp
  have h0 := h
  obtain ⟨hp, g, d, tk, os⟩ := s
  wp_walk using wpAny_loadPart' hl, wpAny_loadPart' hb, wpAny_forIn_list _ (fun rest z s' => z.1 = none ∧ ∃ i, rest = (xs.toList.zip ys.toList).drop i ∧ J i s') _
  case turn =>
    rintro ⟨y, x⟩ rest z s' ⟨hz0, i, hz, hJ⟩
    have lt : i < (xs.toList.zip ys.toList).length := by
      by_cases q : i < (xs.toList.zip ys.toList).length
      · exact q
      · rw [List.drop_of_length_le (Nat.le_of_not_lt q)] at hz
        cases hz
    have k1 : i < xs.size := by omega
    have k2 : i < ys.size := by omega
    rw [List.drop_eq_getElem_cons lt] at hz
    injection hz with e1 e2
    obtain rfl : y = xs[i] := by have := congrArg Prod.fst e1; simpa using this
    obtain rfl : x = ys[i] := by have := congrArg Prod.snd e1; simpa using this
    refine wpAny_bind (wpAny_mono (turn i k1 k2 s' hJ) (fun r s2 q2 => ?_) fun _ _ x => x)
    cases r with
    | true =>
      rw [if_pos rfl] at q2
      wp_walk
      exact ⟨rfl, i + 1, e2, q2⟩
    | false =>
      rw [if_neg Bool.false_ne_true] at q2
      rw [if_pos (show (!false) = true from rfl)]
      show wpAny (model prog w) A.in1 (do
        rule "tuple.compare.by-the-first-pair-that-differs"
        let v ← richCompare .LtE xs[i] ys[i]
        let r ← ret v
        pure (ForInStep.done (some r, ()))) _ _ _
      refine wpAny_bind (wpAny_rule ?_)
      refine wpAny_bind (wpAny_mono q2 (fun v s3 q3 => ?_) fun _ _ x => x)
      wp_walk
      exact q3
  case fin =>
    rintro ⟨z1, z2⟩ s' ⟨hz0, i, hz, hJ⟩
    simp only at hz0
    subst hz0
    have ge : min xs.size ys.size ≤ i := by
      by_cases q : i < (xs.toList.zip ys.toList).length
      · rw [List.drop_eq_getElem_cons q] at hz
        cases hz
      · omega
    have hR := fin i s' hJ ge
    wp_walk
    first
      | exact hR
      | exact ⟨_, rfl, by simpa [Builtin.Tuple.tupleCompareSizes] using hR⟩
      | (simpa [Builtin.Tuple.tupleCompareSizes] using hR)
  case h => exact ⟨rfl, 0, rfl, h0⟩
/-- <= of two pairs -/
theorem pair {A : Around} {s : Shared} {l b : Addr} {x0 x1 y0 y1 : Value} {e0 e1 r0 r1 : Bool} (hl : s.heap.IsTuple l #[x0, x1]) (hb : s.heap.IsTuple b #[y0, y1]) (hu : A.units < cLine)
    (q0 : EqAt A.in1 s x0 y0 e0) (l0 : e0 = false → RcOp .LtE A.in1 s x0 y0 r0) (q1 : e0 = true → EqAt A.in1 s x1 y1 e1) (l1 : e0 = true → e1 = false → RcOp .LtE A.in1 s x1 y1 r1) :
    RcOp .LtE A s (.ref l) (.ref b) (if e0 = true then (if e1 = true then true else r1) else r0) := fun prog w E Q h => by
  obtain ⟨⟨k1, d1, u1, c1⟩, o1, z1, n, f1⟩ := id hl
  obtain ⟨⟨k2, d2, u2, c2⟩, o2, z2, n2, f2⟩ := id hb
  simp only at z1 f1 z2 f2
  subst z1 f1 z2 f2
  refine wpAny_richCompare_same_room (op := .LtE) ⟨_, o1, rfl⟩ ⟨_, o2, rfl⟩ F.slot_tuple_le (GQ.call_here F.slot_tuple_le ⟨_, o1, rfl⟩ F.entry_tuple_le (F.args_tuple_le_2 _ _) ?_) hu
  refine body (R := wants (fun v s' => v ≠ .notImplemented ∧ Q v s') E) (fun i s' => s' = s ∧ (i = 0 ∨ (i = 1 ∧ e0 = true) ∨ (i = 2 ∧ e0 = true ∧ e1 = true))) (fun i h1 h2 s' hJ => ?_) (fun i s' hJ hm => ?_) o1 o2 ⟨rfl, .inl rfl⟩
  · obtain ⟨rfl, hJ⟩ := hJ
    rcases hJ with rfl | ⟨rfl, t0⟩ | ⟨rfl, _⟩
    · refine q0 prog w _ _ ?_
      cases e0 with
      | true => exact ⟨rfl, .inr (.inl ⟨rfl, rfl⟩)⟩
      | false => exact l0 rfl prog w _ _ ⟨(fun z => nomatch z), h⟩
    · refine q1 t0 prog w _ _ ?_
      subst t0
      cases e1 with
      | true => exact ⟨rfl, .inr (.inr ⟨rfl, rfl, rfl⟩)⟩
      | false => exact l1 rfl rfl prog w _ _ ⟨(fun z => nomatch z), h⟩
    · exact absurd h1 (by simp)
  · obtain ⟨rfl, hJ⟩ := hJ
    have hm : 2 ≤ i := hm
    rcases hJ with rfl | ⟨rfl, t0⟩ | ⟨rfl, t0, t1⟩
    · omega
    · omega
    · subst t0 t1
      exact ⟨(fun z => nomatch z), h⟩
end
end TupE
set_option Elab.async false
set_option linter.all false
set_option maxRecDepth 100000
set_option maxHeartbeats 4000000
/-! <= of lists of pairs; in by an own __contains__ -/
namespace K26
open K34 PySem PySem.Spec PyProof.Rows L2
def leE : En → En → Bool
  | .num i, .num j => decide (i ≤ j)
  | .wrd s, .wrd t => !decide (t.cps.toList < s.cps.toList)
  | e, f => decide (rankE e ≤ rankE f)
def leEs (es fs : List En) : Bool := SeqAt.firstLt (fun j => decide (es.getD j .lo = fs.getD j .lo)) (fun j => leE (es.getD j .lo) (fs.getD j .lo)) (decide (es.length ≤ fs.length)) (List.range (min es.length fs.length))
section
variable {X : Cx} {pins : List (Addr × Obj)} {σ : L2.St} {H : Hp} {s : Shared}
theorem pr_le {A : Around} {a b : Addr} {e f : En} (I : Inv X pins σ H s) (h1 : SqT X.K H a (prV e)) (h2 : SqT X.K H b (prV f)) (hu : A.units < cLine) (g : agr1 (e, f) = true) (ne : e ≠ f) : SeqAt.RcOp .LtE A s (.ref a) (.ref b) (leE e f) := by
  obtain ⟨t1, u1, p1, r1⟩ := pr_two I h1
  obtain ⟨t2, u2, p2, r2⟩ := pr_two I h2
  have z := TupE.pair (A := A) (s := s) (e0 := rankE e == rankE f) (e1 := eqV (secE e) (secE f)) (r0 := decide (rankE e ≤ rankE f)) (r1 := leE e f) p1 p2 hu (SeqAt.EqAt.int_int _ _ _ _) (fun _ prog w E Q h => PyProof.Rows.le_int h) (fun _ => eqAt_V r1 r2 (sec_flat e) (sec_flat f)) (fun h0 h1 prog w E Q h => ?_)
  · by_cases hr : rankE e = rankE f
    · have q := eqV_sec e f hr
      rw [decide_eq_false ne] at q
      rw [q, beq_iff_eq.mpr hr, if_pos rfl, if_neg Bool.false_ne_true] at z
      exact z
    · rw [beq_eq_false_iff_ne.mpr hr, if_neg Bool.false_ne_true] at z
      have q : leE e f = decide (rankE e ≤ rankE f) := by cases e <;> cases f <;> first | rfl | exact absurd rfl hr
      rw [q]
      exact z
  · have hr := beq_iff_eq.mp h0
    cases e <;> cases f <;> first | exact n01 hr | exact n02 hr | exact n10 hr | exact n12 hr | exact n20 hr | exact n21 hr | exact absurd rfl ne | exact Bool.noConfusion (show false = true from g) | skip
    · obtain ⟨_, rfl⟩ := r1
      obtain ⟨_, rfl⟩ := r2
      exact PyProof.Rows.le_int h
    · obtain ⟨_, rfl⟩ := r1
      obtain ⟨_, rfl⟩ := r2
      exact PySem.P.le_str h
/-- <= of two lists of pairs -/
def rLePr (K : PySem.W.Frag) : R2 := fun x y H Q => ∃ (a b : Addr) (as bs : List Addr) (es fs : List En), x = .ref a ∧ y = .ref b ∧ SqL K H a (as.map V.ref) ∧ SqL K H b (bs.map V.ref) ∧ PrAt K H as es ∧ PrAt K H bs fs ∧ agr es fs = true ∧ Q (.bl (leEs es fs)) H
theorem op_lePr (hu : X.A.units + 1 < cLine) : OpR X (compareOp .LtE) (rLePr X.K) := by
  intro pins s σ H x y v u Q I rx ry h
  obtain ⟨a, b, as, bs, es, fs, rfl, rfl, h1, h2, p1, p2, g, q⟩ := h
  cases rx
  cases ry
  obtain ⟨its, r, pl, hz⟩ := I.list h1
  obtain ⟨its2, r2, pl2, hz2⟩ := I.list h2
  have l1 : its.length = es.length := by rw [← r.length, List.length_map, p1.l]
  have l2 : its2.length = fs.length := by rw [← r2.length, List.length_map, p2.l]
  have at1 : ∀ (j : Nat) (k : j < its.length), ∃ c, its[j] = Value.ref c ∧ SqT X.K H c (prV (es.getD j .lo)) := fun j k => by
    have z := vals_getD r j k
    have ka : j < as.length := by have := p1.l; omega
    have ke : j < es.length := by omega
    have e : (as.map V.ref).getD j .non = .ref as[j] := by rw [List.getD_eq_getElem?_getD, List.getElem?_map, List.getElem?_eq_getElem ka]; rfl
    rw [e] at z
    refine ⟨as[j], z, ?_⟩
    have e2 : es.getD j .lo = es[j] := by rw [List.getD_eq_getElem?_getD, List.getElem?_eq_getElem ke]; rfl
    rw [e2]
    exact p1.t j _ _ (List.getElem?_eq_getElem ka) (List.getElem?_eq_getElem ke)
  have at2 : ∀ (j : Nat) (k : j < its2.length), ∃ c, its2[j] = Value.ref c ∧ SqT X.K H c (prV (fs.getD j .lo)) := fun j k => by
    have z := vals_getD r2 j k
    have ka : j < bs.length := by have := p2.l; omega
    have ke : j < fs.length := by omega
    have e : (bs.map V.ref).getD j .non = .ref bs[j] := by rw [List.getD_eq_getElem?_getD, List.getElem?_map, List.getElem?_eq_getElem ka]; rfl
    rw [e] at z
    refine ⟨bs[j], z, ?_⟩
    have e2 : fs.getD j .lo = fs[j] := by rw [List.getD_eq_getElem?_getD, List.getElem?_eq_getElem ke]; rfl
    rw [e2]
    exact p2.t j _ _ (List.getElem?_eq_getElem ka) (List.getElem?_eq_getElem ke)
  have z := SeqAt.RcOp.lists_le (A := X.A) (s := s) (e := fun j => decide (es.getD j .lo = fs.getD j .lo)) (r := fun j => leE (es.getD j .lo) (fs.getD j .lo)) pl.isList pl2.isList (by omega) (fun j k1 k2 => ?_) (fun j k1 k2 ne => ?_)
  · have e1 : its.toArray.size = es.length := by rw [List.size_toArray, l1]
    have e2 : its2.toArray.size = fs.length := by rw [List.size_toArray, l2]
    rw [e1, e2] at z
    exact z X.prog X.w X.xe _ ⟨.bl _, H, I, rfl, q⟩
  · have k1 : j < its.length := by simpa using k1
    have k2 : j < its2.length := by simpa using k2
    obtain ⟨c, z1, z2⟩ := at1 j k1
    obtain ⟨d, y1, y2⟩ := at2 j k2
    have e1 : its.toArray[j] = Value.ref c := by simpa using z1
    have e2 : its2.toArray[j] = Value.ref d := by simpa using y1
    rw [e1, e2]
    exact pr_eq I z2 y2 (by show X.A.units + 1 < cLine; exact hu)
  · have k1 : j < its.length := by simpa using k1
    have k2 : j < its2.length := by simpa using k2
    obtain ⟨c, z1, z2⟩ := at1 j k1
    obtain ⟨d, y1, y2⟩ := at2 j k2
    have e1 : its.toArray[j] = Value.ref c := by simpa using z1
    have e2 : its2.toArray[j] = Value.ref d := by simpa using y1
    rw [e1, e2]
    refine pr_le (A := X.A.in1) I z2 y2 (by show X.A.units + 1 < cLine; exact hu) ?_ (of_decide_eq_false ne)
    have ka : j < es.length := by omega
    have kb : j < fs.length := by omega
    rw [List.getD_eq_getElem?_getD, List.getD_eq_getElem?_getD, List.getElem?_eq_getElem ka, List.getElem?_eq_getElem kb]
    exact List.all_eq_true.mp g _ (List.mem_iff_getElem.mpr ⟨j, by rw [List.length_zip]; omega, by rw [List.getElem_zip]; rfl⟩)
/-- x in o: the answer of o's own __contains__ -/
def rInO (K : PySem.W.Frag) (C : Addr) (sp : Sp) : R2 := fun x y H Q => ∃ (a dx : Addr) (fs : List (Str × V)), y = .ref a ∧ H a = some (.ins C dx fs) ∧ sp [.ref a, x] H (fun z H' => ∃ r, z = .bl r ∧ Q (.bl r) H') E0
theorem op_inO {k : Nat} {f C : Addr} {fd : FuncData} {ps : List Str} {sp : Sp} (F : FnOk X.prog X.w X.K X.mg X.base CX0 k f fd ps sp) (hb : Binds X.K fd ps []) (hr : Room k X.A) (hs : PySem.W.findIn X.K (.ref C) "__contains__" = some (some (.ref f))) (hf : PySem.W.isFn X.K (.ref f) = true) : OpR X (compareOp .In) (rInO X.K C sp) := by
  intro pins s σ H x y v u Q I rx ry hq
  obtain ⟨a, dx, fs, rfl, ha, h⟩ := hq
  cases ry
  obtain ⟨mA, J, _⟩ := ins_get I.hok ha
  obtain ⟨od, J, _⟩ := J.look
  obtain ⟨m, hF⟩ := I.fr
  refine PySem.W.in_K hF I.ok.mod.kin J hs hf (own_call F hb pass0 hr rfl I (vs := [.ref a, x]) (.cons rfl (.cons rx .nil)) h fun z u H' s' I' rz q => ?_)
  obtain ⟨r, rfl, q⟩ := q
  cases rz
  refine wpAny_pure ?_
  exact ⟨.bl r, H', I', rfl, q⟩
end
end K26
set_option Elab.async false
set_option linter.all false
set_option maxRecDepth 100000
set_option maxHeartbeats 4000000
/-! Range.__contains__ -/
namespace K26
open K34 PySem PySem.Spec PyProof.Rows L2
theorem scRIn : FnScope ["self", "x", "value"] ["self", "x"] (defScope sRIn) := ⟨rfl, rfl, rfl, by decide +kernel, rfl, by decide +kernel, by decide +kernel⟩
theorem scVIn : FnScope ["self", "x"] ["self", "x"] (defScope sVIn) := ⟨rfl, rfl, rfl, by decide +kernel, rfl, by decide +kernel, by decide +kernel⟩
theorem scTIn : FnScope ["self", "x"] ["self", "x"] (defScope sTIn) := ⟨rfl, rfl, rfl, by decide +kernel, rfl, by decide +kernel, by decide +kernel⟩
/-- a number or a word -/
def nwD (d : PyData) : Bool := isN d || isW d
def inR (es fs : List En) (d : PyData) : Bool := (isTup d && decide ((itemsD d).length = es.length)) && ((itemsD d).all nwD && ((agr (entsD d) es && agr (entsD d) fs) && (leEs es (entsD d) && ltEs (entsD d) fs)))
theorem nw_ent {d : PyData} (h : nwD d = true) : entD d = true := by
  unfold entD
  unfold nwD at h
  rw [h, Bool.or_true]
theorem nw_en {K : PySem.W.Frag} {H : Hp} {xs : List V} {ds : List PyData} (lx : xs.length = ds.length) (th : ∀ (i : Nat) (x : V) (d : PyData), xs[i]? = some x → ds[i]? = some d → Th K H x d) (h : ds.all nwD = true) : xs = (ds.map enOf).map enV ∧ (ds.map enOf).all enOk = true := by
  have al := List.all_eq_true.mp h
  refine ⟨List.ext_getElem? fun i => ?_, ?_⟩
  · rw [List.getElem?_map, List.getElem?_map]
    cases hd : ds[i]? with
    | none =>
      have : ds.length ≤ i := List.getElem?_eq_none_iff.mp hd
      rw [List.getElem?_eq_none_iff.mpr (by omega)]
      rfl
    | some d =>
      have hi : i < ds.length := (List.getElem?_eq_some_iff.mp hd).1
      have hx : xs[i]? = some xs[i] := List.getElem?_eq_getElem (by omega)
      rw [hx, th_en (th i _ _ hx hd) (nw_ent (al d (List.mem_of_getElem? hd)))]
      rfl
  · rw [List.all_map]
    exact List.all_eq_true.mpr fun d hd => (enOf_D (nw_ent (al d hd))).2.1
theorem agr_comm {es fs : List En} (h : agr es fs = true) : agr fs es = true := by
  refine List.all_eq_true.mpr fun p hp => ?_
  obtain ⟨i, hi, e⟩ := List.mem_iff_getElem.mp hp
  rw [List.length_zip] at hi
  rw [List.getElem_zip] at e
  have z := List.all_eq_true.mp h (es[i], fs[i]) (List.mem_iff_getElem.mpr ⟨i, by rw [List.length_zip]; omega, List.getElem_zip⟩)
  subst e
  unfold agr1 at z ⊢
  revert z
  cases enK es[i] <;> cases enK fs[i] <;> simp [eq_comm]
def spRIn (K : PySem.W.Frag) : Sp := fun vs H Q _ => ∃ (a : Addr) (es fs : List En) (v : V) (d : PyData), vs = [.ref a, v] ∧ RgAt K H a es fs ∧ es.length = fs.length ∧ es.length ≤ 100 ∧ Tg K H v d ∧ sOkT d ∧ (itemsD d).length ≤ 100 ∧ ∀ H', Same H H' → Q (.bl (inR es fs d)) H'
section
variable {P : Program} {w : World} {K : PySem.W.Frag} {mg : Str → Option Value} {base : Heap} {f fN fW fA fL : Addr} {fd fdN fdW fdA fdL : FuncData}
theorem ok_rin (F : FunD K "__contains__" "Range.__contains__" (defArgs sRIn) (defBody sRIn) (defScope sRIn) [] [] f fd) (C : KC K mg "Range") (T : TxP mg) (nL : NoAttr K (He.ga K "Range") "_low") (nH : NoAttr K (He.ga K "Range") "_high")
    (FN : FnP K "is_number" sIsNumber fN fdN) (gN : mg "is_number" = some (.ref fN)) (FW : FnP K "is_word" sIsWord fW fdW) (gW : mg "is_word" = some (.ref fW))
    (GA : FnOk P w K mg base CX0 3 fA fdA ["one", "other"] (spAgr K)) (gA : mg "_agree_in_kinds" = some (.ref fA)) (kA : PySem.W.keepIn K (.ref fA) = true) (bA : Binds K fdA ["one", "other"] [])
    (GL : FnOk P w K mg base CX0 1 fL fdL ["entries"] (spPlaces K)) (gL : mg "_places" = some (.ref fL)) (kL : PySem.W.keepIn K (.ref fL) = true) (bL : Binds K fdL ["entries"] []) : FnOk P w K mg base CX0 4 f fd ["self", "x"] (spRIn K) := by
  have GN : FnOk P w K mg base CX0 1 fN fdN ["value"] (spNum K) := ok_num FN T.toTxW
  have bN : Binds K fdN ["value"] [] := FN.bindsN fun _ _ _ _ _ _ us hl => match us, hl with | [_], _ => rfl
  have GW : FnOk P w K mg base CX0 1 fW fdW ["value"] (spWord K) := ok_word FW T.toTxW
  have bW : Binds K fdW ["value"] [] := FW.bindsN fun _ _ _ _ _ _ us hl => match us, hl with | [_], _ => rfl
  have kN := FN.kp
  have kW := FW.kp
  refine F.ok scRIn (fun vs H Q E h => ?_) (fun cdv A outer s H vs Q E hr h => ?_)
  · obtain ⟨a, es, fs, v, d, rfl, _⟩ := h
    rfl
  · obtain ⟨a, es, fs, v, d, rfl, ra, lef, l100, tg, so, ld100, k⟩ := h
    have nd := scRIn.nd
    have hr1 : Room 1 _ := hr.mono (by decide)
    refine ⟨_, PSs.nox (pss_cons (ps_if (PW.pt (pw_or (pt_not (pt_val (pe_callB call_isi (by rfl) T.isi (by decide +kernel) (pa_cons (pv 1) (pa_cons (pe_bltn (v := .ty "tuple") (by rfl) T.tuple (by decide +kernel) rfl) pa_nil))))) (pw_or1 (pt_cmpR op_ne (pe_callB call_len_seq (by rfl) T.len PySem.boot_len (pa_cons (pv 1) pa_nil)) (pe_callB call_len_seq (by rfl) T.len PySem.boot_len (pa_cons (pe_fld (pv 0) rfl) pa_nil)) (nomark _))))) (pss_one (ps_ret pe_bl)) pss_nil)
      (pss_cons (ps_if (pt_not (pt_val (pe_callB (cr_all rfl) (by rfl) T.all (by decide +kernel) (pa_cons (pe_lc (own := [("value", 2)]) (g := gName 2) (tt := tYes) rfl nd (pi_tup (pv 1)) (blkOk_by (N := ["self", "x", "value"]) (sc := defScope sRIn) (by decide +kernel)) (fun _ _ _ _ _ => pg_name (i := 2) nd rfl (Or.inl rfl)) (fun _ _ _ _ _ => pts_nil)
          (fun _ _ _ _ _ => pe_or (pe_call GN hr1 rfl gN kN bN .nil pass0 (pa_cons (pv 2) pa_nil)) (pe_one (pe_call GW hr1 rfl gW kW bW .nil pass0 (pa_cons (pv 2) pa_nil))))) pa_nil)))) (pss_one (ps_ret pe_bl)) pss_nil)
      (pss_cons (ps_if (PW.pt (pw_or (pt_not (pt_val (pe_call GA hr rfl gA kA bA .nil pass0 (pa_cons (pv 1) (pa_cons (pe_fld (pv 0) rfl) pa_nil))))) (pw_or1 (pt_not (pt_val (pe_call GA hr rfl gA kA bA .nil pass0 (pa_cons (pv 1) (pa_cons (pe_fld (pv 0) rfl) pa_nil)))))))) (pss_one (ps_ret pe_bl)) pss_nil)
      (pss_one (ps_ret (pe_chain (op_lePr (hu_of hr)) (op_ltPr (hu_of hr)) (pe_call GL hr1 rfl gL kL bL .nil pass0 (pa_cons (pe_fld (pv 0) rfl) pa_nil)) (pe_call GL hr1 rfl gL kL bL .nil pass0 (pa_cons (pv 1) pa_nil)) (pe_call GL hr1 rfl gL kL bL .nil pass0 (pa_cons (pe_fld (pv 0) rfl) pa_nil)))))))), ?_⟩
    obtain ⟨⟨dx, p, q, ha, h1, h2⟩, oe, of_⟩ := ra
    have no : ∀ {H'}, Same H H' → inR es fs d = false → Q (.bl false) H' := fun s' e => by
      have kk := k _ s'
      rw [e] at kk
      exact kk
    cases tg with
    | oth t hn =>
      refine ⟨_, rfl, v, .ty "tuple", _, _, false, rfl, .ty _, th_ty t, kit_ty (by rw [kit_tupD, hn]), _, rfl, ?_⟩
      refine iteT ?_
      refine iteT ?_
      exact no (Same.refl H) (by unfold inR; rw [hn]; rfl)
    | @tup b xs ds hs lx th =>
      refine ⟨_, rfl, _, .ty "tuple", _, _, true, rfl, .ty _, sqT_ty hs, kit_tup, _, rfl, ?_⟩
      refine iteF ?_
      have ld100 : ds.length ≤ 100 := ld100
      refine ⟨_, rfl, b, xs, rfl, .inr hs, _, rfl, a, _, dx, _, _, rfl, ha, C.cl, nL, rfl, p, _, rfl, .inr h1, rfl, _, rfl, ?_⟩
      have elen : decide (V.int (xs.length : Nat) = V.int ((es.map enV).length : Nat)) = decide (ds.length = es.length) := by
        rw [List.length_map, lx]
        exact decide_eq_decide.mpr ⟨fun z => by have := V.int.inj z; omega, fun z => by rw [z]⟩
      by_cases el : ds.length = es.length
      · refine itF (by rw [elen, decide_eq_true el]; rfl) ?_
        have eI : inR es fs (.tuple ds) = (ds.all nwD && ((agr (ds.map enOf) es && agr (ds.map enOf) fs) && (leEs es (ds.map enOf) && ltEs (ds.map enOf) fs))) := by
          show ((true && decide (ds.length = es.length)) && _) = _
          rw [decide_eq_true el]
          rfl
        refine ⟨_, rfl, b, rfl, ⟨xs, hs⟩, fun D hD => ?_⟩
        have hD : H D = none := hD
        refine lc_it (walk_tup (K := K) (a := b) (xs := xs)) (fun i H6 => H6 D = some (.lst (((ds.take i).map nwD).map V.bl)) ∧ Same H H6) ⟨upd_same, same_new (Same.refl H) hD⟩ (fun i H3 _ y => sqT_same hs y.2) ?_ ?_
        · rintro i x H6 H7 hi ⟨y1, y2⟩ ⟨rfl, hx⟩
          have hi : i < xs.length := hi
          have ld : i < ds.length := by omega
          have hd : ds[i]? = some ds[i] := List.getElem?_eq_getElem ld
          have t := (th i x _ hx hd).same y2
          have sk := so.2 ds[i] (List.getElem_mem ld)
          refine ⟨rfl, ?_⟩
          unfold tYes
          dsimp only
          refine iteT ?_
          have more : ∀ {H8 : Hp}, Same H7 H8 → ∃ acc, H8 D = some (.lst acc) ∧ acc.length < sizeLine ∧ ((upd H8 D (.lst (acc ++ [V.bl (nwD ds[i])]))) D = some (.lst (((ds.take (i + 1)).map nwD).map V.bl)) ∧ Same H (upd H8 D (.lst (acc ++ [V.bl (nwD ds[i])])))) := fun {H8} s8 =>
            push_ok (A := fun i => ((ds.take i).map nwD).map V.bl) (i := i) (y := V.bl (nwD ds[i])) hD (s8 _ _ y1) (y2.trans s8) (by rw [List.map_map, List.map_map]; exact take_map (f := V.bl ∘ nwD) hd) (by simp only [List.length_map, List.length_take]; omega)
          refine ⟨_, rfl, x, ds[i], rfl, t, _, rfl, ?_⟩
          cases e2 : isN ds[i] with
          | true =>
            refine iteT ?_
            have e : nwD ds[i] = true := by unfold nwD; rw [e2]; rfl
            have z := more (Same.refl H7)
            rw [e] at z
            exact z
          | false =>
            refine iteF ?_
            have e : nwD ds[i] = isW ds[i] := by unfold nwD; rw [e2]; rfl
            refine ⟨_, rfl, x, ds[i], rfl, t, sk, fun H8 s8 => ?_⟩
            have z := more s8
            rw [e] at z
            exact z
        · rintro H6 ⟨y1, y2⟩
          rw [lx, List.take_length] at y1
          refine ⟨D, ds.map nwD, rfl, SqL.of y1, _, rfl, ?_⟩
          rw [List.all_map]
          have eall : (ds.all (id ∘ nwD)) = ds.all nwD := rfl
          cases ha2 : ds.all nwD with
          | false =>
            refine itT (by show (!(ds.all (id ∘ nwD))) = true; rw [eall, ha2]; rfl) ?_
            exact no y2 (by rw [eI, ha2]; rfl)
          | true =>
            refine itF (by show (!(ds.all (id ∘ nwD))) = false; rw [eall, ha2]; rfl) ?_
            obtain ⟨ex, oxs⟩ := nw_en lx th ha2
            rw [ex] at hs
            rw [ha2, Bool.true_and] at eI
            generalize hgs : ds.map enOf = gs at hs oxs eI
            have lgs : gs.length ≤ 100 := by rw [← hgs, List.length_map]; exact ld100
            refine ⟨_, rfl, _, rfl, a, _, dx, _, _, rfl, y2 _ _ ha, C.cl, nL, rfl, b, p, gs, es, rfl, sqT_same hs y2, sqT_same h1 y2, oxs, oe, lgs, fun H7 s7 => ⟨_, rfl, ?_⟩⟩
            have s7' := y2.trans s7
            cases g1 : agr gs es with
            | false =>
              refine iteT ?_
              refine iteT ?_
              exact no s7' (by rw [eI, g1]; rfl)
            | true =>
              refine iteF ?_
              refine ⟨_, rfl, _, rfl, a, _, dx, _, _, rfl, s7' _ _ ha, C.cl, nH, rfl, b, q, gs, fs, rfl, sqT_same hs s7', sqT_same h2 s7', oxs, of_, lgs, fun H8 s8 => ⟨_, rfl, ?_⟩⟩
              have s8' := s7'.trans s8
              cases g2 : agr gs fs with
              | false =>
                refine iteT ?_
                exact no s8' (by rw [eI, g1, g2]; rfl)
              | true =>
                refine iteF ?_
                rw [g1, g2, Bool.and_self, Bool.true_and] at eI
                refine ⟨_, rfl, a, _, dx, _, _, rfl, s8' _ _ ha, C.cl, nL, rfl, p, es, rfl, sqT_same h1 s8', oe, l100, fun p1 as1 H9 s9 hp1 pa1 => ?_⟩
                have s9' := s8'.trans s9
                refine ⟨_, rfl, b, gs, rfl, sqT_same hs s9', oxs, lgs, fun p2 as2 H10 s10 hp2 pa2 => ?_⟩
                have s10' := s9'.trans s10
                have g1' : agr es gs = true := agr_comm g1
                refine ⟨p1, p2, as1, as2, es, gs, rfl, rfl, SqL.of (s10 _ _ hp1), SqL.of hp2, pa1.same s10, pa2, g1', ?_⟩
                refine ⟨_, rfl, ?_⟩
                cases g3 : leEs es gs with
                | false =>
                  refine iteF ?_
                  exact no s10' (by rw [eI, g3]; rfl)
                | true =>
                  refine iteT ?_
                  rw [g3, Bool.true_and] at eI
                  refine ⟨_, rfl, a, _, dx, _, _, rfl, s10' _ _ ha, C.cl, nH, rfl, q, fs, rfl, sqT_same h2 s10', of_, by omega, fun p3 as3 H11 s11 hp3 pa3 => ?_⟩
                  refine ⟨p2, p3, as2, as3, gs, fs, rfl, rfl, SqL.of (s11 _ _ hp2), SqL.of hp3, pa2.same s11, pa3, g2, ?_⟩
                  have kk := k H11 (s10'.trans s11)
                  rw [eI] at kk
                  exact kk
      · refine itT (by rw [elen, decide_eq_false el]; rfl) ?_
        exact no (Same.refl H) (by
          show ((true && decide (ds.length = es.length)) && _) = _
          rw [decide_eq_false el]
          rfl)
end
end K26
set_option Elab.async false
set_option linter.all false
set_option maxRecDepth 100000
set_option maxHeartbeats 4000000
/-! Values.__contains__, Rest.__contains__ -/
namespace K26
open K34 PySem PySem.Spec PyProof.Rows L2
def oneD (p : PyData → Bool) : PyData → Bool
  | .tuple [d] => p d
  | _ => false
def inVd (es : List V) (d : PyData) : Bool := oneD (fun x => valD x && inV (vD x) es) d
def restE (m r : Int) : PyData → Bool
  | .int i => isN (.int i) && decide (i % m = r)
  | _ => false
def inT (m r : Int) (d : PyData) : Bool := oneD (restE m r) d
def spVIn (K : PySem.W.Frag) : Sp := fun vs H Q _ => ∃ (a : Addr) (es : List V) (v : V) (d : PyData), vs = [.ref a, v] ∧ VlAt K H a es ∧ Tg K H v d ∧ sOkT d ∧ (itemsD d).length ≤ 100 ∧ ∀ H', Same H H' → Q (.bl (inVd es d)) H'
def spTIn (K : PySem.W.Frag) : Sp := fun vs H Q _ => ∃ (a : Addr) (m r : Int) (v : V) (d : PyData), vs = [.ref a, v] ∧ RsAt K H a m r ∧ 1 < m ∧ Tg K H v d ∧ sOkT d ∧ (itemsD d).length ≤ 100 ∧ ∀ H', Same H H' → Q (.bl (inT m r d)) H'
theorem oneD_len {p : PyData → Bool} {ds : List PyData} (h : ds.length ≠ 1) : oneD p (.tuple ds) = false := by
  match ds, h with
  | [], _ => rfl
  | [_], h => exact absurd rfl h
  | _ :: _ :: _, _ => rfl
theorem oneD_not {p : PyData → Bool} {d : PyData} (h : isTup d = false) : oneD p d = false := by
  cases d <;> first | rfl | exact Bool.noConfusion h
theorem len1 {ds : List PyData} {xs : List V} (lx : xs.length = ds.length) : decide (V.int (xs.length : Nat) = V.int 1) = decide (ds.length = 1) := by
  rw [lx]
  exact decide_eq_decide.mpr ⟨fun z => by have := V.int.inj z; omega, fun z => by rw [z]; rfl⟩
section
variable {P : Program} {w : World} {K : PySem.W.Frag} {mg : Str → Option Value} {base : Heap} {f fN fV : Addr} {fd fdN fdV : FuncData}
theorem ok_vin (F : FunD K "__contains__" "Values.__contains__" (defArgs sVIn) (defBody sVIn) (defScope sVIn) [] [] f fd) (C : KC K mg "Values") (T : TxP mg) (nE : NoAttr K (He.ga K "Values") "_entries")
    (GV : FnOk P w K mg base CX0 2 fV fdV ["value"] (spIsV K)) (gV : mg "_is_value" = some (.ref fV)) (kV : PySem.W.keepIn K (.ref fV) = true) (bV : Binds K fdV ["value"] []) : FnOk P w K mg base CX0 3 f fd ["self", "x"] (spVIn K) := by
  refine F.ok scVIn (fun vs H Q E h => ?_) (fun cdv A outer s H vs Q E hr h => ?_)
  · obtain ⟨a, es, v, d, rfl, _⟩ := h
    rfl
  · obtain ⟨a, es, v, d, rfl, ra, tg, so, ld100, k⟩ := h
    refine ⟨_, PSs.nox (pss_cons (ps_if (PW.pt (pw_or (pt_not (pt_val (pe_callB call_isi (by rfl) T.isi (by decide +kernel) (pa_cons (pv 1) (pa_cons (pe_bltn (v := .ty "tuple") (by rfl) T.tuple (by decide +kernel) rfl) pa_nil))))) (pw_or (pt_cmpR op_ne (pe_callB call_len_seq (by rfl) T.len PySem.boot_len (pa_cons (pv 1) pa_nil)) pe_int (nomark _)) (pw_or1 (pt_not (pt_val (pe_call GV hr rfl gV kV bV .nil pass0 (pa_cons (pe_ix (ix_tupK (K := K) rfl) (pv 1) pe_int (fun _ _ => rfl)) pa_nil)))))))) (pss_one (ps_ret pe_bl)) pss_nil)
      (pss_one (ps_ret (pe_cmpR op_in_seq (pe_ix (ix_tupK (K := K) rfl) (pv 1) pe_int (fun _ _ => rfl)) (pe_fld (pv 0) rfl) (by rfl))))), ?_⟩
    obtain ⟨⟨dx, p, ha, h1⟩, fl⟩ := ra
    have no : ∀ H' : Hp, Same H H' → inVd es d = false → Q (.bl false) H' := fun _ s' e => by
      have kk := k _ s'
      rw [e] at kk
      exact kk
    cases tg with
    | oth t hn =>
      refine ⟨_, rfl, v, .ty "tuple", _, _, false, rfl, .ty _, th_ty t, kit_ty (by rw [kit_tupD, hn]), _, rfl, ?_⟩
      refine iteT ?_
      refine iteT ?_
      exact no _ (Same.refl H) (oneD_not hn)
    | @tup b xs ds hs lx th =>
      refine ⟨_, rfl, _, .ty "tuple", _, _, true, rfl, .ty _, sqT_ty hs, kit_tup, _, rfl, ?_⟩
      refine iteF ?_
      refine ⟨_, rfl, b, xs, rfl, .inr hs, rfl, _, rfl, ?_⟩
      by_cases el : ds.length = 1
      · match ds, el, lx, th, so, no, k with
        | [d0], _, lx, th, so, no, k =>
          match xs, lx, hs, th with
          | [x0], _, hs, th =>
            refine itF (by rfl) ?_
            have t0 := th 0 x0 d0 rfl rfl
            refine ⟨_, rfl, b, [x0], 0, x0, rfl, rfl, hs, rfl, x0, d0, rfl, t0, so.2 d0 List.mem_cons_self, fun H1 s1 => ⟨_, rfl, ?_⟩⟩
            cases e : valD d0 with
            | false =>
              refine iteT ?_
              exact no _ s1 (by show (valD d0 && _) = false; rw [e]; rfl)
            | true =>
              refine iteF ?_
              obtain ⟨ex, fx⟩ := th_val t0 e
              refine ⟨_, rfl, b, [x0], 0, x0, rfl, rfl, sqT_same hs s1, rfl, _, rfl, a, _, dx, _, _, rfl, s1 _ _ ha, C.cl, nE, rfl, p, es, rfl, .inl (sqL_same h1 s1), ?_, fl, ?_⟩
              · cases x0 <;> first | rfl | exact Bool.noConfusion fx
              · have kk := k H1 s1
                have e2 : inVd es (.tuple [d0]) = inV x0 es := by
                  show (valD d0 && inV (vD d0) es) = _
                  rw [e, ← ex]
                  rfl
                rw [e2] at kk
                exact kk
      · refine itT (by rw [len1 lx, decide_eq_false el]; rfl) ?_
        exact no _ (Same.refl H) (oneD_len el)
theorem ok_tin (F : FunD K "__contains__" "Rest.__contains__" (defArgs sTIn) (defBody sTIn) (defScope sTIn) [] [] f fd) (C : KC K mg "Rest") (T : TxP mg) (nM : NoAttr K (He.ga K "Rest") "_modulus") (nR : NoAttr K (He.ga K "Rest") "_remainder")
    (FN : FnP K "is_number" sIsNumber fN fdN) (gN : mg "is_number" = some (.ref fN)) : FnOk P w K mg base CX0 2 f fd ["self", "x"] (spTIn K) := by
  have GN : FnOk P w K mg base CX0 1 fN fdN ["value"] (spNum K) := ok_num FN T.toTxW
  have bN : Binds K fdN ["value"] [] := FN.bindsN fun _ _ _ _ _ _ us hl => match us, hl with | [_], _ => rfl
  have kN := FN.kp
  refine F.ok scTIn (fun vs H Q E h => ?_) (fun cdv A outer s H vs Q E hr h => ?_)
  · obtain ⟨a, m, r, v, d, rfl, _⟩ := h
    rfl
  · obtain ⟨a, m, r, v, d, rfl, ra, m1, tg, so, ld100, k⟩ := h
    refine ⟨_, PSs.nox (pss_cons (ps_if (PW.pt (pw_or (pt_not (pt_val (pe_callB call_isi (by rfl) T.isi (by decide +kernel) (pa_cons (pv 1) (pa_cons (pe_bltn (v := .ty "tuple") (by rfl) T.tuple (by decide +kernel) rfl) pa_nil))))) (pw_or (pt_cmpR op_ne (pe_callB call_len_seq (by rfl) T.len PySem.boot_len (pa_cons (pv 1) pa_nil)) pe_int (nomark _)) (pw_or1 (pt_not (pt_val (pe_call GN hr rfl gN kN bN .nil pass0 (pa_cons (pe_ix (ix_tupK (K := K) rfl) (pv 1) pe_int (fun _ _ => rfl)) pa_nil)))))))) (pss_one (ps_ret pe_bl)) pss_nil)
      (pss_one (ps_ret (pe_cmpR op_eq (pe_op op_mod (pe_ix (ix_tupK (K := K) rfl) (pv 1) pe_int (fun _ _ => rfl)) (pe_fld (pv 0) rfl)) (pe_fld (pv 0) rfl) (nomark _))))), ?_⟩
    obtain ⟨dx, ha⟩ := ra
    have no : ∀ H' : Hp, Same H H' → inT m r d = false → Q (.bl false) H' := fun _ s' e => by
      have kk := k _ s'
      rw [e] at kk
      exact kk
    cases tg with
    | oth t hn =>
      refine ⟨_, rfl, v, .ty "tuple", _, _, false, rfl, .ty _, th_ty t, kit_ty (by rw [kit_tupD, hn]), _, rfl, ?_⟩
      refine iteT ?_
      refine iteT ?_
      exact no _ (Same.refl H) (oneD_not hn)
    | @tup b xs ds hs lx th =>
      refine ⟨_, rfl, _, .ty "tuple", _, _, true, rfl, .ty _, sqT_ty hs, kit_tup, _, rfl, ?_⟩
      refine iteF ?_
      refine ⟨_, rfl, b, xs, rfl, .inr hs, rfl, _, rfl, ?_⟩
      by_cases el : ds.length = 1
      · match ds, el, lx, th, so, no, k with
        | [d0], _, lx, th, so, no, k =>
          match xs, lx, hs, th with
          | [x0], _, hs, th =>
            refine itF (by rfl) ?_
            have t0 := th 0 x0 d0 rfl rfl
            refine ⟨_, rfl, b, [x0], 0, x0, rfl, rfl, hs, rfl, x0, d0, rfl, t0, _, rfl, ?_⟩
            cases e : isN d0 with
            | false =>
              refine iteT ?_
              exact no _ (Same.refl H) (by cases d0 <;> first | rfl | (show (isN _ && _) = false; rw [e]; rfl))
            | true =>
              refine iteF ?_
              have ei : ∃ i : Int, d0 = .int i := by cases d0 <;> first | exact ⟨_, rfl⟩ | exact Bool.noConfusion e
              obtain ⟨i, rfl⟩ := ei
              have x0e : x0 = .int i := (th_val t0 (by show (isN _ || isW _) = true; rw [e]; rfl)).1
              subst x0e
              refine ⟨_, rfl, b, [.int i], 0, .int i, rfl, rfl, hs, rfl, _, rfl, a, _, dx, _, _, rfl, ha, C.cl, nM, rfl, i, m, rfl, rfl, (by omega), _, rfl, a, _, dx, _, _, rfl, ha, C.cl, nR, rfl, ?_⟩
              refine ⟨rfl, ?_⟩
              have kk := k H (Same.refl H)
              have e2 : inT m r (.tuple [.int i]) = decide (V.int (i % m) = V.int r) := by
                show (isN (.int i) && decide (i % m = r)) = _
                rw [e, Bool.true_and]
                exact decide_eq_decide.mpr ⟨fun z => by rw [z], fun z => V.int.inj z⟩
              rw [e2] at kk
              exact kk
      · refine itT (by rw [len1 lx, decide_eq_false el]; rfl) ?_
        exact no _ (Same.refl H) (oneD_len el)
end
end K26
set_option Elab.async false
set_option linter.all false
set_option maxRecDepth 100000
set_option maxHeartbeats 4000000
/-! the order of ends as an order of items -/
namespace K26
open K34 PySem PySem.Spec PyProof.Rows L2
def secT : En → Int ⊕ List Nat
  | .num i => .inl i | .wrd s => .inr s.cps.toList | _ => .inl 0
def tokE (e : En) : List (Int ⊕ List Nat) := [.inl (rankE e), secT e]
def toks : List En → List (Int ⊕ List Nat)
  | [] => []
  | e :: es => .inl (rankE e) :: secT e :: toks es
theorem first_succ {e r : Nat → Bool} {fin : Bool} : ∀ l : List Nat, SeqAt.firstLt e r fin (l.map Nat.succ) = SeqAt.firstLt (fun j => e (j + 1)) (fun j => r (j + 1)) fin l
  | [] => rfl
  | j :: l => by
    rw [List.map_cons]
    cases h : e (j + 1) with
    | true => rw [SeqAt.firstLt_yes h, SeqAt.firstLt_yes (e := fun j => e (j + 1)) h, first_succ l]
    | false => rw [SeqAt.firstLt_no h, SeqAt.firstLt_no (e := fun j => e (j + 1)) h]
theorem ltEs_cons (e f : En) (es fs : List En) : ltEs (e :: es) (f :: fs) = if e = f then ltEs es fs else ltE e f := by
  unfold ltEs
  rw [List.length_cons, List.length_cons, Nat.succ_min_succ, List.range_succ_eq_map]
  by_cases h : e = f
  · rw [if_pos h, SeqAt.firstLt_yes (by exact decide_eq_true h), first_succ]
    have e1 : decide (es.length + 1 < fs.length + 1) = decide (es.length < fs.length) := decide_eq_decide.mpr (by omega)
    rw [e1]
    rfl
  · rw [if_neg h, SeqAt.firstLt_no (by exact decide_eq_false h)]
    rfl
theorem leEs_cons (e f : En) (es fs : List En) : leEs (e :: es) (f :: fs) = if e = f then leEs es fs else leE e f := by
  unfold leEs
  rw [List.length_cons, List.length_cons, Nat.succ_min_succ, List.range_succ_eq_map]
  by_cases h : e = f
  · rw [if_pos h, SeqAt.firstLt_yes (by exact decide_eq_true h), first_succ]
    have e1 : decide (es.length + 1 ≤ fs.length + 1) = decide (es.length ≤ fs.length) := decide_eq_decide.mpr (by omega)
    rw [e1]
    rfl
  · rw [if_neg h, SeqAt.firstLt_no (by exact decide_eq_false h)]
    rfl
theorem agr_cons {e f : En} {es fs : List En} : agr (e :: es) (f :: fs) = (agr1 (e, f) && agr es fs) := rfl
theorem sec_lt {e f : En} (h : rankE e = rankE f) (g : agr1 (e, f) = true) (ne : e ≠ f) : itemLt (secT e) (secT f) = ltE e f ∧ secT e ≠ secT f := by
  cases e <;> cases f <;> first | exact n01 h | exact n02 h | exact n10 h | exact n12 h | exact n20 h | exact n21 h | exact absurd rfl ne | exact Bool.noConfusion (show false = true from g) | skip
  · exact ⟨rfl, fun z => ne (by injection z with z; rw [z])⟩
  · refine ⟨rfl, fun z => ne ?_⟩
    injection z with z
    rw [str_ext z]
theorem lt_toks : ∀ {es fs : List En}, es.length = fs.length → agr es fs = true → PyProof.Rows.lexLt itemOrd (toks es) (toks fs) = ltEs es fs
  | [], [], _, _ => rfl
  | e :: es, f :: fs, l, g => by
    rw [agr_cons, Bool.and_eq_true] at g
    obtain ⟨g1, g2⟩ := g
    have ih := lt_toks (es := es) (fs := fs) (by simpa using l) g2
    rw [ltEs_cons]
    show PyProof.Rows.lexLt itemOrd (.inl (rankE e) :: secT e :: toks es) (.inl (rankE f) :: secT f :: toks fs) = _
    by_cases h : e = f
    · subst h
      rw [if_pos rfl, lex_self, lex_self, ih]
    · rw [if_neg h]
      by_cases hr : rankE e = rankE f
      · obtain ⟨a, b⟩ := sec_lt hr g1 h
        rw [hr, lex_self, lex_diff b]
        exact a
      · rw [lex_diff (fun z => hr (by injection z))]
        show decide (rankE e < rankE f) = _
        cases e <;> cases f <;> first | rfl | exact absurd rfl hr
theorem toks_inj : ∀ {es fs : List En}, es.all enOk = true → fs.all enOk = true → toks es = toks fs → es = fs
  | [], [], _, _, _ => rfl
  | [], f :: fs, _, _, h => by cases h
  | e :: es, [], _, _, h => by cases h
  | e :: es, f :: fs, o1, o2, h => by
    rw [List.all_cons, Bool.and_eq_true] at o1 o2
    injection h with h1 h2
    injection h2 with h2 h3
    injection h1 with h1
    rw [toks_inj o1.2 o2.2 h3]
    congr 1
    cases e <;> cases f <;> first | rfl | exact n01 h1 | exact n02 h1 | exact n10 h1 | exact n12 h1 | exact n20 h1 | exact n21 h1 | skip
    · injection h2 with h2
      rw [h2]
    · cases h2
    · cases h2
    · injection h2 with h2
      rw [str_ext h2]
theorem leE_not {e f : En} (g : agr1 (e, f) = true) (ne : e ≠ f) : leE e f = !ltE f e := by
  cases e <;> cases f <;> first | rfl | exact absurd rfl ne | exact Bool.noConfusion (show false = true from g) | skip
  · show decide _ = !decide _
    rw [Bool.eq_iff_iff]
    simp
theorem leEs_not : ∀ {es fs : List En}, es.length = fs.length → agr es fs = true → leEs es fs = !ltEs fs es
  | [], [], _, _ => rfl
  | e :: es, f :: fs, l, g => by
    rw [agr_cons, Bool.and_eq_true] at g
    rw [ltEs_cons, leEs_cons]
    by_cases h : e = f
    · rw [if_pos h, if_pos h.symm]
      exact leEs_not (by simpa using l) g.2
    · rw [if_neg h, if_neg (fun z => h z.symm)]
      exact leE_not g.1 h
/-- two ends that are not alike: one is below the other -/
theorem lt_or {es fs : List En} (l : es.length = fs.length) (g : agr es fs = true) (o1 : es.all enOk = true) (o2 : fs.all enOk = true) (ne : es ≠ fs) (h : ltEs fs es = false) : ltEs es fs = true := by
  cases q : ltEs es fs with
  | true => rfl
  | false =>
    rw [← lt_toks l g] at q
    rw [← lt_toks l.symm (agr_comm g)] at h
    exact absurd (toks_inj o1 o2 (lex_total _ _ q h)) ne
end K26
set_option Elab.async false
set_option linter.all false
set_option maxRecDepth 100000
set_option maxHeartbeats 4000000
/-! sorted by a key that gives lists of pairs -/
namespace K26
open K34 PySem PySem.Spec PyProof.Rows L2
def spPlF (K : PySem.W.Frag) : Sp := fun vs H Q _ => ∃ (a : Addr) (es : List En), vs = [.ref a] ∧ SqT K H a (es.map enV) ∧ es.all enOk = true ∧ es.length ≤ 100 ∧ ∀ (p : Addr) (as : List Addr) (H' : Hp), H p = none → Same H H' → H' p = some (.lst (as.map V.ref)) → PrAt K H' as es → Q (.ref p) H'
section
variable {P : Program} {w : World} {K : PySem.W.Frag} {mg : Str → Option Value} {base : Heap} {f fO : Addr} {fd fdO : FuncData}
theorem ok_endordF (F : FnP K "_law_end_order" sEndOrder f fd) (GO : FnOk P w K mg base CX0 1 fO fdO ["_law_entry"] (spEO K)) (gO : mg "_law_entry_order" = some (.ref fO)) (kO : PySem.W.keepIn K (.ref fO) = true) (bO : Binds K fdO ["_law_entry"] []) : FnOk P w K mg base CX0 2 f fd ["_law_end_here"] (spPlF K) := by
  refine F.ok scEndO (fun vs H Q E h => ?_) (fun cdv A outer s H vs Q E hr h => ?_)
  · obtain ⟨a, es, rfl, _⟩ := h
    rfl
  · obtain ⟨a, es, rfl, ha, oke, l100, k⟩ := h
    have nd := scEndO.nd
    have oe := List.all_eq_true.mp oke
    refine ⟨_, PSs.nox (pss_one (ps_ret (pe_lc (own := [("_law_entry", 1)]) (g := gName 1) (tt := tYes) rfl nd (pi_tup (pv 0)) (blkOk_by (N := ["_law_end_here", "_law_entry"]) (sc := defScope sEndOrder) (by decide +kernel)) (fun _ _ _ _ _ => pg_name (i := 1) nd rfl (Or.inl rfl)) (fun _ _ _ _ _ => pts_nil) (fun _ _ _ _ _ => pe_call GO hr rfl gO kO bO .nil pass0 (pa_cons (pv 1) pa_nil))))), ?_⟩
    refine ⟨_, rfl, a, rfl, ⟨_, ha⟩, fun D hD => ?_⟩
    have hD : H D = none := hD
    refine lc_it (walk_tup (K := K) (a := a) (xs := es.map enV)) (fun i H6 => ∃ ts : List Addr, H6 D = some (.lst (ts.map V.ref)) ∧ PrAt K H6 ts (es.take i) ∧ Same H H6) ⟨[], upd_same, ⟨rfl, fun i a p h => by simp at h⟩, same_new (Same.refl H) hD⟩ (fun i H3 _ y => by obtain ⟨_, _, _, y⟩ := y; exact sqT_same ha y) ?_ ?_
    · rintro i x H6 H7 hi ⟨ts, y1, y2, y3⟩ ⟨rfl, hx⟩
      have hx : (es.map enV)[i]? = some x := hx
      rw [List.getElem?_map] at hx
      obtain ⟨e, he, rfl⟩ := Option.map_eq_some_iff.mp hx
      refine ⟨rfl, ?_⟩
      unfold tYes
      dsimp only
      refine iteT ?_
      refine ⟨_, rfl, e, rfl, oe e (List.mem_of_getElem? he), fun q H8 s8 tq => ?_⟩
      have lts : ts.length ≤ 100 := by
        have := y2.l
        rw [List.length_take] at this
        omega
      have pr := (y2.same s8).snoc (q := e) tq
      refine ⟨_, s8 _ _ y1, by rw [List.length_map, sizeLine_eq]; omega, ts ++ [q], by rw [upd_same, List.map_append]; rfl, ?_, fun b o z => ?_⟩
      · rw [List.take_add_one, he]
        refine ⟨pr.l, fun j b r h1 h2 => ?_⟩
        have z := pr.t j b r h1 h2
        rcases z with (z | ⟨o, z⟩) | z
        · exact .inl (.inl (by rw [upd_ne (ne_of z (s8 _ _ y1) (by intro q; cases q))]; exact z))
        · exact .inl (.inr ⟨o, by rw [upd_ne (ne_of z (s8 _ _ y1) (by intro q; cases q))]; exact z⟩)
        · exact .inr z
      · rw [upd_ne (ne_of_none z hD)]
        exact s8 _ _ (y3 _ _ z)
    · rintro H6 ⟨ts, y1, y2, y3⟩
      have e : (es.map enV).length = es.length := List.length_map ..
      rw [e, List.take_length] at y2
      exact k D ts H6 hD y3 y1 y2
end
section
variable {X : Cx} {f : Addr} {fd : FuncData} {k : Nat} {ps : List Str} {sp : Sp} {pins : List (Addr × Obj)} {σ : L2.St} {H : Hp} {s : Shared}
/-- a def that raises nothing, called somewhere below -/
theorem own_call0 {E' : Value → Shared → Prop} (F : FnOk X.prog X.w X.K X.mg X.base CX0 k f fd ps sp) (hb : Binds X.K fd ps []) {A : Around} (hr : Room k A) (hf : A.frames = X.A.frames) (I : Inv X pins σ H s) {us : List Value} {vs : List V} (r : Vals vs us) {Q : VK} (h : sp vs H Q E0)
    {R : Value → Shared → Prop} (q : ∀ z u H' s', Inv X pins σ H' s' → RelV z u → Q z H' → R u s') : wpAny (model X.prog X.w) A (call (.ref f) us) R E' s := by
  have hl := F.len _ _ _ _ h
  refine wpAny_call (codeAny_mono (F.run A X.stack s H ⟨us, []⟩ us vs Q E0 hr (env_in1 I hf) (by
    have z := hb s us I.kIn (by rw [List.append_nil, ← r.length]; exact hl)
    rw [List.append_nil] at z
    exact z) r h) fun r' s' hq => ?_)
  cases r' with
  | error e => exact False.elim hq
  | ok fl =>
    cases fl with
    | ret u =>
      obtain ⟨z, H', I', rz, ez⟩ := I.after hq
      exact q z u H' s' I' rz ez
    | next => exact False.elim hq
    | brk => exact False.elim hq
    | cont => exact False.elim hq
/-- keys as they stand: lists of pairs -/
structure KyAt (K : PySem.W.Frag) (H : Hp) (ts : List Addr) (ess : List (List En)) : Prop where
  l : ts.length = ess.length
  t : ∀ (i : Nat) (p : Addr) (es : List En), ts[i]? = some p → ess[i]? = some es → ∃ as : List Addr, H p = some (.lst (as.map V.ref)) ∧ PrAt K H as es
theorem lt_kv {A : Around} {a b : Addr} {as bs : List Addr} {es fs : List En} (I : Inv X pins σ H s) (h1 : H a = some (.lst (as.map V.ref))) (h2 : H b = some (.lst (bs.map V.ref))) (p1 : PrAt X.K H as es) (p2 : PrAt X.K H bs fs) (hu : A.units + 1 < cLine) (g : agr es fs = true) {E : Value → Shared → Prop} {Q : Bool → Shared → Prop} (q : Q (ltEs es fs) s) :
    wpAny (model X.prog X.w) A (oneLt' true (.ref a) (.ref b)) Q E s := by
  obtain ⟨its, r, pl, hz⟩ := I.list (SqL.of h1)
  obtain ⟨its2, r2, pl2, hz2⟩ := I.list (SqL.of h2)
  have l1 : its.length = es.length := by rw [← r.length, List.length_map, p1.l]
  have l2 : its2.length = fs.length := by rw [← r2.length, List.length_map, p2.l]
  have at1 : ∀ {xs : List Addr} {is : List Value} {gs : List En} (r : Vals (xs.map V.ref) is) (p : PrAt X.K H xs gs) (l : is.length = gs.length) (j : Nat) (k : j < is.length), ∃ c, is[j] = Value.ref c ∧ SqT X.K H c (prV (gs.getD j .lo)) := fun {xs is gs} r p l j k => by
    have z := vals_getD r j k
    have ka : j < xs.length := by have := p.l; omega
    have ke : j < gs.length := by omega
    have e : (xs.map V.ref).getD j .non = .ref xs[j] := by rw [List.getD_eq_getElem?_getD, List.getElem?_map, List.getElem?_eq_getElem ka]; rfl
    rw [e] at z
    refine ⟨xs[j], z, ?_⟩
    have e2 : gs.getD j .lo = gs[j] := by rw [List.getD_eq_getElem?_getD, List.getElem?_eq_getElem ke]; rfl
    rw [e2]
    exact p.t j _ _ (List.getElem?_eq_getElem ka) (List.getElem?_eq_getElem ke)
  obtain ⟨o1, ho1, c1, n1, d1⟩ := id pl.isList
  rw [oneLt'_eq]
  simp only [if_true]
  refine wpAny_bind (wpAny_cRoomFor (by omega) ?_)
  refine wpAny_bind (wpAny_callSpecialIfBound?_slot (T := "list") ⟨_, ho1, c1⟩ F.slot_list_lt (SeqAt.call_list_lt (e := fun j => decide (es.getD j .lo = fs.getD j .lo)) (r := fun j => ltE (es.getD j .lo) (fs.getD j .lo)) pl.isList pl2.isList (fun j k1 k2 => ?_) (fun j k1 k2 ne => ?_) ?_))
  · have k1 : j < its.length := by simpa using k1
    have k2 : j < its2.length := by simpa using k2
    obtain ⟨c, z1, z2⟩ := at1 r p1 l1 j k1
    obtain ⟨d, y1, y2⟩ := at1 r2 p2 l2 j k2
    have e1 : its.toArray[j] = Value.ref c := by simpa using z1
    have e2 : its2.toArray[j] = Value.ref d := by simpa using y1
    rw [e1, e2]
    exact pr_eq I z2 y2 (by show A.units + 1 < cLine; exact hu)
  · have k1 : j < its.length := by simpa using k1
    have k2 : j < its2.length := by simpa using k2
    obtain ⟨c, z1, z2⟩ := at1 r p1 l1 j k1
    obtain ⟨d, y1, y2⟩ := at1 r2 p2 l2 j k2
    have e1 : its.toArray[j] = Value.ref c := by simpa using z1
    have e2 : its2.toArray[j] = Value.ref d := by simpa using y1
    rw [e1, e2]
    refine pr_lt I z2 y2 (by show A.units + 1 < cLine; exact hu) ?_ (of_decide_eq_false ne)
    have ka : j < es.length := by omega
    have kb : j < fs.length := by omega
    rw [List.getD_eq_getElem?_getD, List.getD_eq_getElem?_getD, List.getElem?_eq_getElem ka, List.getElem?_eq_getElem kb]
    exact List.all_eq_true.mp g _ (List.mem_iff_getElem.mpr ⟨j, by rw [List.length_zip]; omega, by rw [List.getElem_zip]; rfl⟩)
  · have e1 : its.toArray.size = es.length := by rw [List.size_toArray, l1]
    have e2 : its2.toArray.size = fs.length := by rw [List.size_toArray, l2]
    rw [e1, e2]
    exact wpAny_truthy_bool q
end
end K26
set_option Elab.async false
set_option linter.all false
set_option maxRecDepth 100000
set_option maxHeartbeats 4000000
/-! sorted(xs, key=f), f's keys lists of pairs -/
namespace K26
open K34 PySem PySem.Spec PyProof.Rows L2
section
variable {X : Cx} {pins : List (Addr × Obj)} {σ : L2.St} {H : Hp} {s : Shared}
theorem pr_uniq {a : Addr} {e f : En} (I : Inv X pins σ H s) (h1 : SqT X.K H a (prV e)) (h2 : SqT X.K H a (prV f)) : e = f := by
  obtain ⟨t1, u1, p1, r1⟩ := pr_two I h1
  obtain ⟨t2, u2, p2, r2⟩ := pr_two I h2
  have e0 : (#[.int (rankE e) t1, u1] : Array Value) = #[.int (rankE f) t2, u2] := by
    obtain ⟨o1, q1, _, n1, d1⟩ := p1
    obtain ⟨o2, q2, _, n2, d2⟩ := p2
    rw [q1] at q2
    cases q2
    rw [d1] at d2
    injection d2
  have e1 : (.int (rankE e) t1 : Value) = .int (rankE f) t2 ∧ u1 = u2 := by
    have z := congrArg Array.toList e0
    injection z with z1 z2
    injection z2 with z2 _
    exact ⟨z1, z2⟩
  obtain ⟨e1, rfl⟩ := e1
  have hr : rankE e = rankE f := by injection e1
  cases e <;> cases f <;> first | exact n01 hr | exact n02 hr | exact n10 hr | exact n12 hr | exact n20 hr | exact n21 hr | rfl | skip
  · obtain ⟨_, rfl⟩ := r1
    obtain ⟨_, z⟩ := r2
    injection z with z _
    rw [z]
  · obtain ⟨_, rfl⟩ := r1
    obtain ⟨_, z⟩ := r2
    cases z
  · obtain ⟨_, rfl⟩ := r1
    obtain ⟨_, z⟩ := r2
    cases z
  · obtain ⟨_, rfl⟩ := r1
    obtain ⟨_, z⟩ := r2
    injection z with z _
    rw [z]
/-- v is the key of es -/
def KvIs (K : PySem.W.Frag) (H : Hp) (v : Value) (es : List En) : Prop := ∃ (p : Addr) (as : List Addr), v = .ref p ∧ H p = some (.lst (as.map V.ref)) ∧ PrAt K H as es
theorem ref_inj : ∀ {as bs : List Addr}, as.map V.ref = bs.map V.ref → as = bs
  | [], [], _ => rfl
  | a :: as, b :: bs, h => by
    injection h with h1 h2
    injection h1 with h1
    rw [h1, ref_inj h2]
theorem kv_uniq {v : Value} {es fs : List En} (I : Inv X pins σ H s) (h1 : KvIs X.K H v es) (h2 : KvIs X.K H v fs) : es = fs := by
  obtain ⟨p, as, rfl, hp, pa⟩ := h1
  obtain ⟨p2, bs, e, hp2, pb⟩ := h2
  injection e with e
  subst e
  rw [hp] at hp2
  injection hp2 with z
  injection z with z
  have e := ref_inj z
  subst e
  refine List.ext_getElem (by rw [← pa.l, pb.l]) fun i k1 k2 => ?_
  have ka : i < as.length := by rw [pa.l]; exact k1
  exact pr_uniq I (pa.t i _ _ (List.getElem?_eq_getElem ka) (List.getElem?_eq_getElem k1)) (pb.t i _ _ (List.getElem?_eq_getElem ka) (List.getElem?_eq_getElem k2))
noncomputable def kvKind (R : Value → List En → Prop) (ess : List (List En)) : PyProof.Rows.KeyKind where
  toKeyOrd := listOrd itemOrd
  keyOf v := open Classical in if q : ∃ es, es ∈ ess ∧ R v es then some (toks q.choose) else none
  dflt := ([] : List (Int ⊕ List Nat))
theorem kv_some {ess : List (List En)} {v : Value} {es : List En} (I : Inv X pins σ H s) (hm : es ∈ ess) (h : KvIs X.K H v es) : (kvKind (KvIs X.K H) ess).keyOf v = some (toks es) := by
  have q : ∃ es, es ∈ ess ∧ KvIs X.K H v es := ⟨es, hm, h⟩
  have e : (kvKind (KvIs X.K H) ess).keyOf v = some (toks q.choose) := by
    show (open Classical in if q : ∃ es, es ∈ ess ∧ KvIs X.K H v es then some (toks q.choose) else none) = _
    rw [dif_pos q]
  rw [e, kv_uniq I q.choose_spec.2 h]
theorem kv_inv {ess : List (List En)} {v : Value} {k : List (Int ⊕ List Nat)} (e : (kvKind (KvIs X.K H) ess).keyOf v = some k) : ∃ es, es ∈ ess ∧ KvIs X.K H v es ∧ k = toks es := by
  by_cases q : ∃ es, es ∈ ess ∧ KvIs X.K H v es
  · have e' : (kvKind (KvIs X.K H) ess).keyOf v = some (toks q.choose) := by
      show (open Classical in if q : ∃ es, es ∈ ess ∧ KvIs X.K H v es then some (toks q.choose) else none) = _
      rw [dif_pos q]
    rw [e'] at e
    exact ⟨_, q.choose_spec.1, q.choose_spec.2, (Option.some.inj e).symm⟩
  · have e' : (kvKind (KvIs X.K H) ess).keyOf v = none := by
      show (open Classical in if q : ∃ es, es ∈ ess ∧ KvIs X.K H v es then some (toks q.choose) else none) = _
      rw [dif_neg q]
      rfl
    rw [e'] at e
    cases e
theorem sorts_kv {A : Around} {ts : List Addr} {ess : List (List En)} (I : Inv X pins σ H s) (hk : KyAt X.K H ts ess) (al : ∀ es ∈ ess, ∀ fs ∈ ess, es.length = fs.length ∧ agr es fs = true) (hu : A.units + 1 < cLine) : PySem.W.SortsAt X.prog X.w A s (kvKind (KvIs X.K H) ess) (ts.map Value.ref) := by
  have one : ∀ v ∈ ts.map Value.ref, ∃ es, es ∈ ess ∧ KvIs X.K H v es := fun v hv => by
    obtain ⟨t, ht, rfl⟩ := List.mem_map.mp hv
    obtain ⟨i, hi, rfl⟩ := List.mem_iff_getElem.mp ht
    have ki : i < ess.length := by rw [← hk.l]; exact hi
    obtain ⟨as, h1, h2⟩ := hk.t i _ _ (List.getElem?_eq_getElem hi) (List.getElem?_eq_getElem ki)
    exact ⟨ess[i], List.getElem_mem ki, ts[i], as, rfl, h1, h2⟩
  refine ⟨fun v hv => ?_, oneType', ?_, fun h2 E Q hq => ?_⟩
  · obtain ⟨es, hm, h⟩ := one v hv
    exact ⟨_, kv_some I hm h⟩
  · intro E x y a b Q ha hb hq
    obtain ⟨es, m1, ⟨p1, as, rfl, h1, q1⟩, rfl⟩ := kv_inv ha
    obtain ⟨fs, m2, ⟨p2, bs, rfl, h2, q2⟩, rfl⟩ := kv_inv hb
    obtain ⟨l, g⟩ := al es m1 fs m2
    rw [keyLt'_oneType]
    refine lt_kv I h1 h2 q1 q2 hu g ?_
    have hq' : Q (PyProof.Rows.lexLt itemOrd (toks es) (toks fs)) s := hq
    rw [lt_toks l g] at hq'
    exact hq'
  · refine PySem.W.kas_kind (T := .type "list") h2 (fun v hv => ?_) (by decide) (beq_self_eq_true _) hq
    obtain ⟨es, _, p, as, rfl, h1, _⟩ := one v hv
    obtain ⟨its, r, pl, hz⟩ := I.list (SqL.of h1)
    obtain ⟨o, ho, hc, n, hd⟩ := pl.isList
    show PySem.W.Looks _ s.heap (typeOf (Value.ref _)) (Value.type "list")
    exact hc ▸ (PySem.W.Looks.ld ho).andThen .now
end
end K26
set_option Elab.async false
set_option linter.all false
set_option maxRecDepth 100000
set_option maxHeartbeats 4000000
/-! sorted(xs, key=f): the calls -/
namespace K26
open K34 PySem PySem.Spec PyProof.Rows L2
/-- the heap without the object at c -/
def gone (h : Heap) (c : Addr) : Heap := { h with objs := h.objs.setIfInBounds c { cls := .none, data := .freed } }
theorem gone_same {h : Heap} {b c : Addr} (ne : b ≠ c) : (gone h c).get? b = h.get? b := by
  unfold gone Heap.get?
  rw [Array.getElem?_setIfInBounds_ne (Ne.symm ne)]
theorem gone_at {h : Heap} {c : Addr} : (gone h c).get? c = none := by
  unfold gone Heap.get?
  rw [Array.getElem?_setIfInBounds_self]
  by_cases l : c < h.objs.size
  · rw [if_pos l]
  · rw [if_neg l]
theorem hok_fin {P : Program} {w : World} {H : Hp} {h h' : Heap} {a c : Addr} {xs ys : List V} (ok : HOk P w H h) (ha : H a = none) (hc : H c = some (.lst xs)) (k : ∀ b u, b ≠ a → b ≠ c → h.get? b = some u → h'.get? b = some u)
    (new : ∃ (its : List Value) (n : Nat), ys.length ≤ sizeLine ∧ Vals ys its ∧ h'.get? a = some { cls := .type "list", data := .seq its.toArray n }) : HOk P w (fun b => if b = a then some (.lst ys) else if b = c then none else H b) h' := fun b u q => by
  by_cases e1 : b = a
  · have q : (if b = a then some (HO.lst ys) else if b = c then none else H b) = some u := q
    rw [if_pos e1] at q
    cases q
    obtain ⟨its, n, z, r, e⟩ := new
    exact ⟨z, its, n, r, by rw [e1]; exact e⟩
  · have q : (if b = a then some (HO.lst ys) else if b = c then none else H b) = some u := q
    rw [if_neg e1] at q
    by_cases e2 : b = c
    · rw [if_pos e2] at q
      cases q
    · rw [if_neg e2] at q
      have na : ∀ {x o}, H x = some o → x ≠ a := fun z y => by rw [y, ha] at z; cases z
      have nc : ∀ {x o}, H x = some o → (∀ l, o ≠ HO.lst l) → x ≠ c := fun z n y => by rw [y, hc] at z; cases z; exact n _ rfl
      refine (ok b u q).stay (fun d v hd r => ?_) (fun d r => ?_) fun d zs r => ?_
      · rcases hd with rfl | hd
        · exact k _ _ e1 e2 r
        · exact k _ _ (na hd) (nc hd fun l z => by cases z) r
      · show (if d = a then some (HO.lst ys) else if d = c then none else H d) = _
        rw [if_neg (na r), if_neg (nc r fun l z => by cases z)]
        exact r
      · show (if d = a then some (HO.lst ys) else if d = c then none else H d) = _
        rw [if_neg (na r), if_neg (nc r fun l z => by cases z)]
        exact r
section
variable {X : Cx} {pins : List (Addr × Obj)} {σ : L2.St} {H : Hp} {s : Shared} {f : Addr} {fd : FuncData} {k : Nat} {ps : List Str} {sp : Sp}
/-- a def that raises nothing, called somewhere below: what it says of the heap -/
theorem own_callU {E' : Value → Shared → Prop} (F : FnOk X.prog X.w X.K X.mg X.base CX0 k f fd ps sp) (hb : Binds X.K fd ps []) {A : Around} (hr : Room k A) (hf : A.frames = X.A.frames) (I : Inv X pins σ H s) {us : List Value} {vs : List V} (r : Vals vs us) {Q : VK} (h : sp vs H Q E0)
    {R : Value → Shared → Prop} (q : ∀ z u H' s', s'.os = s.os → AllBare s'.gens → Un (frs X.stack) [] H H' s.heap s'.heap → HOk X.prog X.w H' s'.heap → RelV z u → Q z H' → R u s') : wpAny (model X.prog X.w) A (call (.ref f) us) R E' s := by
  have hl := F.len _ _ _ _ h
  refine wpAny_call (codeAny_mono (F.run A X.stack s H ⟨us, []⟩ us vs Q E0 hr (env_in1 I hf) (by
    have z := hb s us I.kIn (by rw [List.append_nil, ← r.length]; exact hl)
    rw [List.append_nil] at z
    exact z) r h) fun r' s' hq => ?_)
  cases r' with
  | error e => exact False.elim hq
  | ok fl =>
    cases fl with
    | ret u =>
      obtain ⟨z, H', e1, e2, e3, e4, e5, e6⟩ := hq
      exact q z u H' s' e1 e2 e3 e4 e5 e6
    | next => exact False.elim hq
    | brk => exact False.elim hq
    | cont => exact False.elim hq
theorem pr_upd {K : PySem.W.Frag} {c : Addr} {xs ys : List V} {as : List Addr} {es : List En} (hc : H c = some (.lst xs)) (h : PrAt K H as es) : PrAt K (upd H c (.lst ys)) as es := ⟨h.l, fun i a e h1 h2 => by
  rcases h.t i a e h1 h2 with (z | ⟨o, z⟩) | z
  · exact .inl (.inl (by rw [upd_ne (ne_of z hc (by intro q; cases q))]; exact z))
  · exact .inl (.inr ⟨o, by rw [upd_ne (ne_of z hc (by intro q; cases q))]; exact z⟩)
  · exact .inr z⟩
theorem vals_refs : ∀ {ts : List Addr} {us : List Value}, Vals (ts.map V.ref) us → us = ts.map Value.ref
  | [], [], _ => rfl
  | t :: ts, u :: us, h => by
    cases h with
    | cons h1 h2 =>
      have e1 : u = Value.ref t := h1
      rw [e1, vals_refs h2]
      rfl
/-- what stands while the keys are made -/
structure Kw (X : Cx) (H : Hp) (s : Shared) (a kS : Addr) (e1 : Nat) (bs : List (Addr × List En)) (s' : Shared) (H' : Hp) (ts : List Addr) (i : Nat) : Prop where
  os : s'.os = s.os
  bare : AllBare s'.gens
  un : Un (frs X.stack) [] H H' s.heap s'.heap
  ok : HOk X.prog X.w H' s'.heap
  same : Same H H'
  at_ : s'.heap.get? a = some (PyProof.Rows.seqObj "list" #[] e1)
  na : H' a = none
  hk : H' kS = some (.lst (ts.map V.ref))
  ky : KyAt X.K H' ts ((bs.take i).map (·.2))
  nk : ∀ t ∈ ts, t ≠ kS
theorem keys_run {A : Around} {a kS : Addr} {e1 : Nat} {bs : List (Addr × List En)} {E : Value → Shared → Prop} {P : PySem.Fin → Shared → Prop} {s1 : Shared} {H1 : Hp}
    (F : FnOk X.prog X.w X.K X.mg X.base CX0 k f fd ["_law_end_here"] (spPlF X.K)) (hb : Binds X.K fd ["_law_end_here"] []) (hr : Room k A) (hf : A.frames = X.A.frames) (hu : A.units + 1 < cLine)
    (I : Inv X pins σ H s) (W : Kw X H s a kS e1 bs s1 H1 [] 0) (la : s.heap.objs.size ≤ a) (lk : s.heap.objs.size ≤ kS) (hka : kS ≠ a)
    (hx : ∀ c ∈ bs, SqT X.K H c.1 (c.2.map enV) ∧ c.2.all enOk = true ∧ c.2.length ≤ 100) (al : ∀ c ∈ bs, ∀ d ∈ bs, c.2.length = d.2.length ∧ agr c.2 d.2 = true) (l100 : bs.length ≤ 100)
    (h : ∀ s' H', s'.os = s.os → AllBare s'.gens → Un (frs X.stack) [] H H' s.heap s'.heap → HOk X.prog X.w H' s'.heap → Same H H' → H' a = some (.lst ((bs.mergeSort (PySem.W.sortLe (listOrd itemOrd) false fun c : Addr × List En => toks c.2)).map fun c => V.ref c.1)) → P (.done (.ret .none)) s') :
    wpAny (model X.prog X.w) A (PyProof.Rows.ksk_rest a (.ref f) false (bs.map fun c => Value.ref c.1).toArray e1 (.ref kS)) P E s1 := by
  have inv : ∀ {s' H' ts i}, Kw X H s a kS e1 bs s' H' ts i → Inv X pins σ H' s' := fun W => I.call' W.os W.un W.ok W.bare (ch := []) (fun b z => absurd z (by simp))
  have afs : a ∉ frs X.stack := fun z => by
    rcases List.mem_cons.mp (I.stkSub a z) with e | e
    · exact Nat.ne_of_gt (Nat.lt_of_lt_of_le I.lt la) e
    · exact I.nofs la e
  unfold PyProof.Rows.ksk_rest
  refine wpAny_bind (wpAny_rule ?_)
  first
    | rw [List.forIn_toArray]
    | (rw [← Array.forIn_toList]; simp only [List.toList_toArray])
    | rw [← Array.forIn_toList]
  refine wpAny_bind (PyProof.Rows.ksk_fold (fun i s' => ∃ (H' : Hp) (ts : List Addr), Kw X H s a kS e1 bs s' H' ts i) _ 0 s1 ⟨H1, [], W⟩ ?step ?done)
  case step =>
    rintro j x s' hx' ⟨H', ts, W⟩
    simp only [Nat.zero_add] at W ⊢
    rw [List.getElem?_map] at hx'
    obtain ⟨c, hc, rfl⟩ := Option.map_eq_some_iff.mp hx'
    obtain ⟨c1, c2, c3⟩ := hx c (List.mem_of_getElem? hc)
    have hj : j < bs.length := (List.getElem?_eq_some_iff.mp hc).1
    refine wpAny_bind (wpAny_attempt (own_callU F hb hr hf (inv W) (vs := [.ref c.1]) (Q := fun z H2 => ∃ (p : Addr) (as : List Addr), z = .ref p ∧ H' p = none ∧ Same H' H2 ∧ H2 p = some (.lst (as.map V.ref)) ∧ PrAt X.K H2 as c.2) (.cons rfl .nil)
      ⟨c.1, c.2, rfl, sqT_same c1 W.same, c2, c3, fun p as H2 fp s2 hp pa => ⟨p, as, rfl, fp, s2, hp, pa⟩⟩ (fun z u H2 s2 o2 b2 u2 k2 rz q => ?_)))
    obtain ⟨p, as, rfl, fp, sm, hp, pa⟩ := q
    cases rz
    have pk : p ≠ kS := fun z => by rw [z, W.hk] at fp; cases fp
    have at2 := u2.keep a _ W.at_ W.na afs (by simp)
    have na2 := u2.free a _ W.at_ W.na (by simp)
    have hk2 := sm _ _ W.hk
    obtain ⟨z, its, n, r, nk2⟩ := k2 kS _ hk2
    have lts : ts.length ≤ 100 := by
      have := W.ky.l
      rw [List.length_map, List.length_take] at this
      omega
    have li : its.length = ts.length := by rw [← r.length, List.length_map]
    have sb := Heap.SameBut.update s2.heap kS (Obj.mapSeq (·.push (Value.ref p)))
    obtain ⟨n2, hn2⟩ : ∃ n2, (s2.heap.update kS (Obj.mapSeq (·.push (Value.ref p)))).get? kS = some (PyProof.Rows.seqObj "list" (its.toArray.push (.ref p)) n2) := ⟨_, PyProof.Rows.get?_update_seq nk2 (·.push (Value.ref p))⟩
    refine wpAny_bind (PyProof.Rows.listUpdate_at nk2 rfl ?_ (by rw [List.size_toArray, sizeLine_eq]; omega) (by rw [Array.size_push, List.size_toArray, sizeLine_eq]; omega))
    refine wpAny_pure ⟨rfl, upd H2 kS (.lst ((ts ++ [p]).map V.ref)), ts ++ [p], ?_⟩
    have new : ObjOk X.prog X.w (upd H2 kS (.lst ((ts ++ [p]).map V.ref))) (s2.heap.update kS (Obj.mapSeq (·.push (Value.ref p)))) kS (.lst ((ts ++ [p]).map V.ref)) := by
      refine ⟨by rw [List.length_map, List.length_append, List.length_singleton, sizeLine_eq]; omega, its ++ [.ref p], n2, ?_, ?_⟩
      · rw [List.map_append]
        exact r.append (.cons rfl .nil)
      · rw [← List.push_toArray]
        exact hn2
    have kk : ∀ b u, b ≠ kS → s2.heap.get? b = some u → (s2.heap.update kS (Obj.mapSeq (·.push (Value.ref p)))).get? b = some u := fun b u hb e => (sb.2 b hb).trans e
    have mu : Mut (H2 kS) := by rw [hk2]; trivial
    refine ⟨o2.trans W.os, b2, (W.un.trans u2).trans (Un.write mu (.inl rfl) kk ⟨_, hn2⟩), k2.write mu (.inl rfl) kk ⟨_, hn2⟩ new, fun b o e => ?_, kk _ _ (Ne.symm hka) at2, by rw [upd_ne (Ne.symm hka)]; exact na2, upd_same, ⟨?_, fun i t es t1 t2 => ?_⟩, fun t ht => ?_⟩
    · rw [upd_ne (fun z => by rw [z, I.hok.fresh lk] at e; cases e)]
      exact sm _ _ (W.same _ _ e)
    · rw [List.length_append, W.ky.l, List.length_map, List.length_map, List.length_take, List.length_take, List.length_singleton]
      omega
    · by_cases hi : i < ts.length
      · rw [List.getElem?_append_left hi] at t1
        have hl := W.ky.l
        rw [List.length_map, List.length_take] at hl
        have t2' : ((bs.take j).map (·.2))[i]? = some es := by
          rw [List.getElem?_map, List.getElem?_take_of_lt (by omega)] at t2 ⊢
          exact t2
        obtain ⟨ds, a1, a2⟩ := W.ky.t i t es t1 t2'
        refine ⟨ds, by rw [upd_ne (W.nk t (List.mem_of_getElem? t1))]; exact sm _ _ a1, pr_upd hk2 (a2.same sm)⟩
      · have hl := W.ky.l
        rw [List.length_map, List.length_take] at hl
        have hl2 : i < (ts ++ [p]).length := (List.getElem?_eq_some_iff.mp t1).1
        rw [List.length_append, List.length_singleton] at hl2
        have hi' : i = ts.length := by omega
        subst hi'
        rw [List.getElem?_concat_length] at t1
        cases t1
        have e : ts.length = j := by omega
        rw [List.getElem?_map, e, List.getElem?_take_of_lt (by omega), hc] at t2
        cases t2
        exact ⟨as, by rw [upd_ne pk]; exact hp, pr_upd hk2 pa⟩
    · rcases List.mem_append.mp ht with ht | ht
      · exact W.nk t ht
      · rw [List.mem_singleton.mp ht]
        exact pk
  case done =>
    rintro s' ⟨H', ts, W⟩
    have ky := W.ky
    rw [List.length_map, Nat.zero_add, List.take_length] at ky
    obtain ⟨z, its, n, r, nk⟩ := W.ok kS _ W.hk
    have ei := vals_refs r
    subst ei
    have lt : ts.length = bs.length := by rw [ky.l, List.length_map]
    refine wpAny_bind (PyProof.Rows.listItems_at nk rfl ?_)
    have S := sorts_kv (A := A) (inv W) ky (fun es he fs hf => by
      obtain ⟨c, hc, rfl⟩ := List.mem_map.mp he
      obtain ⟨d, hd, rfl⟩ := List.mem_map.mp hf
      exact al c hc d hd) hu
    refine PySem.W.keyH_end (κ := kvKind (KvIs X.K H') (bs.map (·.2))) (h₁ := gone s'.heap kS) (fun b o hb e => ?_) gone_at nk W.at_ hka (by rw [List.toList_toArray]; exact S) (by rw [List.size_toArray, List.length_map, List.length_map, lt]) (by rw [List.length_map, sizeLine_eq]; omega) fun h3 tk3 c3 k3 n3 => ?_
    · by_cases e2 : b = kS
      · rw [e2, gone_at] at e
        cases e
      · rw [gone_same e2] at e
        exact e
    · have go2 : ∀ cs : List (Addr × List En), PySem.W.EachIs (fun v (c : Addr × List En) => v = Value.ref c.1) (cs.map fun c => Value.ref c.1) cs := by
        intro cs
        induction cs with
        | nil => exact .nil
        | cons c r ih => exact .cons rfl ih
      have ea : PySem.W.EachIs (fun v (c : Addr × List En) => v = Value.ref c.1) (bs.map fun c => Value.ref c.1) bs := by
        exact go2 bs
      have eb : PySem.W.EachIs (fun v (c : Addr × List En) => (kvKind (KvIs X.K H') (bs.map (·.2))).keyOf v = some (toks c.2)) (ts.map Value.ref) bs := by
        refine PySem.W.EachIs.of_zip (by rw [List.length_map, lt]) fun q hq => ?_
        obtain ⟨i, hi, rfl⟩ := List.mem_iff_getElem.mp hq
        rw [List.length_zip, List.length_map] at hi
        have h1 : i < ts.length := by omega
        have h2 : i < bs.length := by omega
        rw [List.getElem_zip, List.getElem_map]
        obtain ⟨as, a1, a2⟩ := ky.t i ts[i] bs[i].2 (List.getElem?_eq_getElem h1) (by rw [List.getElem?_map, List.getElem?_eq_getElem h2]; rfl)
        exact kv_some (inv W) (List.mem_map_of_mem (List.getElem_mem h2)) ⟨_, as, rfl, a1, a2⟩
      have es := PySem.W.sortVals_each (κ := kvKind (KvIs X.K H') (bs.map (·.2))) (rev := false) (fun c : Addr × List En => toks c.2) ea eb
      have eo : PySem.W.sortVals (kvKind (KvIs X.K H') (bs.map (·.2))) false (ts.map Value.ref) (bs.map fun c => Value.ref c.1) = (bs.mergeSort (PySem.W.sortLe (listOrd itemOrd) false fun c : Addr × List En => toks c.2)).map fun c => Value.ref c.1 := by
        have go : ∀ {us : List Value} {cs : List (Addr × List En)}, PySem.W.EachIs (fun v (c : Addr × List En) => v = Value.ref c.1) us cs → us = cs.map fun c => Value.ref c.1 := by
          intro us cs q
          induction q with
          | nil => rfl
          | cons h1 _ ih => rw [h1, ih]; rfl
        exact go es
      rw [List.toList_toArray, eo] at n3
      refine h { s' with heap := h3, toks := tk3 } (fun b => if b = a then some (.lst ((bs.mergeSort (PySem.W.sortLe (listOrd itemOrd) false fun c : Addr × List En => toks c.2)).map fun c => V.ref c.1)) else if b = kS then none else H' b) W.os W.bare ?_ ?_ (fun b o e => ?_) (if_pos rfl)
      · have hold : ∀ b o, s.heap.get? b = some o → b ≠ a ∧ b ≠ kS := fun b o e => ⟨Nat.ne_of_lt (Nat.lt_of_lt_of_le (Heap.lt_size e) la), Nat.ne_of_lt (Nat.lt_of_lt_of_le (Heap.lt_size e) lk)⟩
        have hnew : ∀ b o, s.heap.get? b = some o → ∀ u, s'.heap.get? b = some u → h3.get? b = some u := fun b o e u e2 => k3 b u (hold b o e).1 (by rw [gone_same (hold b o e).2]; exact e2)
        exact {
          keep := fun b o e n f x => hnew b o e _ (W.un.keep b o e n f x)
          slot := fun b o e n f x => by
            obtain ⟨sl, q⟩ := W.un.slot b o e n f x
            exact ⟨sl, hnew b o e _ q⟩
          free := fun b o e n x => by
            show (if b = a then _ else if b = kS then none else H' b) = none
            rw [if_neg (hold b o e).1, if_neg (hold b o e).2]
            exact W.un.free b o e n x
          there := fun b o e x => by
            obtain ⟨u, q⟩ := W.un.there b o e x
            exact ⟨u, hnew b o e _ q⟩
          tups := fun b xs e => by
            have l : b < s.heap.objs.size := I.hok.lt e
            show (if b = a then _ else if b = kS then none else H' b) = _
            rw [if_neg (Nat.ne_of_lt (Nat.lt_of_lt_of_le l la)), if_neg (Nat.ne_of_lt (Nat.lt_of_lt_of_le l lk))]
            exact W.un.tups b xs e
          frzs := fun b o u e => by
            have l : b < s.heap.objs.size := I.hok.lt e
            show (if b = a then _ else if b = kS then none else H' b) = _
            rw [if_neg (Nat.ne_of_lt (Nat.lt_of_lt_of_le l la)), if_neg (Nat.ne_of_lt (Nat.lt_of_lt_of_le l lk))]
            exact W.un.frzs b o u e
          tbls := fun b ps e => by
            have l : b < s.heap.objs.size := I.hok.lt e
            obtain ⟨more, q⟩ := W.un.tbls b ps e
            refine ⟨more, ?_⟩
            show (if b = a then _ else if b = kS then none else H' b) = _
            rw [if_neg (Nat.ne_of_lt (Nat.lt_of_lt_of_le l la)), if_neg (Nat.ne_of_lt (Nat.lt_of_lt_of_le l lk))]
            exact q }
      · refine hok_fin W.ok W.na W.hk (fun b u n1 n2 e => k3 b u n1 (by rw [gone_same n2]; exact e)) ⟨_, c3, ?_, ?_, n3⟩
        · rw [List.length_map, List.length_mergeSort, sizeLine_eq]
          omega
        · have go : ∀ cs : List (Addr × List En), Vals (cs.map fun c => V.ref c.1) (cs.map fun c => Value.ref c.1) := by
            intro cs
            induction cs with
            | nil => exact .nil
            | cons c r ih => exact .cons rfl ih
          exact go _
      · have l : b < s.heap.objs.size := I.hok.lt e
        show (if b = a then _ else if b = kS then none else H' b) = _
        rw [if_neg (Nat.ne_of_lt (Nat.lt_of_lt_of_le l la)), if_neg (Nat.ne_of_lt (Nat.lt_of_lt_of_le l lk))]
        exact W.same b o e
end
end K26
set_option Elab.async false
set_option linter.all false
set_option maxRecDepth 100000
set_option maxHeartbeats 4000000
/-! sorted(xs, key=f): the rule -/
namespace K26
open K34 PySem PySem.Spec PyProof.Rows L2
def keyB (c : Addr × List En) : List (Int ⊕ List Nat) := toks c.2
def bLe : Addr × List En → Addr × List En → Bool := PySem.W.sortLe (listOrd itemOrd) false keyB
def rSortPl (K : PySem.W.Frag) (fO : Addr) : List V → List V → Hp → VK → Prop := fun vs zs H Q => ∃ (a : Addr) (bs : List (Addr × List En)), vs = [.ref a] ∧ zs = [.ref fO] ∧ SqL K H a (bs.map fun c => V.ref c.1) ∧
  (∀ c ∈ bs, SqT K H c.1 (c.2.map enV) ∧ c.2.all enOk = true ∧ c.2.length ≤ 100) ∧ (∀ c ∈ bs, ∀ d ∈ bs, c.2.length = d.2.length ∧ agr c.2 d.2 = true) ∧ bs.length ≤ 100 ∧
  ∀ (q : Addr) (H' : Hp), Same H H' → H' q = some (.lst ((bs.mergeSort bLe).map fun c => V.ref c.1)) → Q (.ref q) H'
section
variable {X : Cx} {fO : Addr} {fd : FuncData} {k : Nat}
theorem cr_sortPl (F : FnOk X.prog X.w X.K X.mg X.base CX0 k fO fd ["_law_end_here"] (spPlF X.K)) (hb : Binds X.K fd ["_law_end_here"] []) (hr : Room (k + 2) X.A) (hu : X.A.units + 3 < cLine) : CallRK X (.builtin "sorted") [Str.ofString "key"] (rSortPl X.K fO) := by
  intro pins s σ H vs zs us ws Q I r rz h
  obtain ⟨l, bs, rfl, rfl, hs, hx, al, l100, q⟩ := h
  obtain rfl := Vals.ref1 r
  obtain ⟨w1, rfl, e1⟩ := vals1 rz
  obtain rfl : w1 = Value.ref fO := e1
  obtain ⟨its, rv, hl, hz⟩ := I.list hs
  have ei : its = bs.map fun c => Value.ref c.1 := by
    have z := vals_refs (ts := bs.map (·.1)) (us := its) (by rw [List.map_map]; exact rv)
    rw [z, List.map_map]
    rfl
  subst ei
  have hZ : (bs.map fun c => Value.ref c.1).length ≤ sizeLine := by rw [List.length_map, sizeLine_eq]; omega
  refine PySem.W.sorted_of_sort hl.isList hZ (PyProof.Rows.ksk_s1 _ _) (fun _ => PyProof.Rows.ksk_l1 _ _) fun E' => ?_
  rw [show Builtin.«list.sort» ⟨[.ref (s.heap.objs.size + 1)], [Str.ofString "key"].zip [Value.ref fO]⟩ = PyProof.Rows.ksk_tree (s.heap.objs.size + 1) (.ref fO) false from PyProof.Rows.ksk_t1 _ _]
  have ho := PySem.W.copyHeap_at s.heap (bs.map fun c => Value.ref c.1)
  have kc : ∀ b o, s.heap.get? b = some o → (PySem.W.copyHeap s.heap (bs.map fun c => Value.ref c.1)).get? b = some o := fun b o e => PySem.W.copyHeap_old e
  generalize PySem.W.copyHeap s.heap (bs.map fun c => Value.ref c.1) = hC at ho kc ⊢
  have la : s.heap.objs.size ≤ s.heap.objs.size + 1 := Nat.le_succ _
  have nD : s.heap.get? (s.heap.objs.size + 1) = none := Heap.get?_none_of_le la
  generalize s.heap.objs.size + 1 = D at ho la nD ⊢
  obtain ⟨e1, ho1⟩ : ∃ e1, (hC.update D (Obj.mapSeq fun _ => (#[] : Array Value))).get? D = some (PyProof.Rows.seqObj "list" #[] e1) := ⟨_, PyProof.Rows.get?_update_seq ho fun _ => #[]⟩
  have sb := Heap.SameBut.update hC D (Obj.mapSeq fun _ => (#[] : Array Value))
  have sz : s.heap.objs.size ≤ hC.objs.size := Nat.le_of_lt (Nat.lt_of_le_of_lt la (Heap.lt_size ho))
  unfold PyProof.Rows.ksk_tree
  refine wpAny_bind (PyProof.Rows.listItems_at ho rfl ?_)
  refine wpAny_bind (PyProof.Rows.listUpdate_at ho rfl ?_ (by rw [List.size_toArray]; exact hZ) (Nat.zero_le _))
  refine wpAny_bind (PyProof.Rows.seqEpoch_at ho1 rfl ?_)
  refine wpAny_bind (wpAny_newTuple ?_ (by show (bs.map fun c => Value.ref c.1).length ≤ _; exact hZ))
  refine wpAny_bind (wpAny_newList ?_ (Nat.zero_le _))
  refine wpAny_holding ?_
  have hU : (hC.update D (Obj.mapSeq fun _ => (#[] : Array Value))).objs.size = hC.objs.size := Heap.size_update ..
  generalize hC.update D (Obj.mapSeq fun _ => (#[] : Array Value)) = hD at ho1 sb hU ⊢
  have kD : ∀ b o, s.heap.get? b = some o → hD.get? b = some o := fun b o e => (sb.2 b (fun z => by rw [z, nD] at e; cases e)).trans (kc b o e)
  have hD1 : D < hD.objs.size := Heap.lt_size ho1
  have e2 : (hD.push (PyProof.Rows.seqObj "tuple" (bs.map fun c => Value.ref c.1).toArray 0)).objs.size = hD.objs.size + 1 := PyProof.Rows.size_push' ..
  have at2 : ((hD.push (PyProof.Rows.seqObj "tuple" (bs.map fun c => Value.ref c.1).toArray 0)).push (PyProof.Rows.seqObj "list" #[] 0)).get? D = some (PyProof.Rows.seqObj "list" #[] e1) := Heap.get?_push_of_some _ (Heap.get?_push_of_some _ ho1)
  have kk : ∀ b o, s.heap.get? b = some o → ((hD.push (PyProof.Rows.seqObj "tuple" (bs.map fun c => Value.ref c.1).toArray 0)).push (PyProof.Rows.seqObj "list" #[] 0)).get? b = some o := fun b o e => Heap.get?_push_of_some _ (Heap.get?_push_of_some _ (kD b o e))
  have atS : ((hD.push (PyProof.Rows.seqObj "tuple" (bs.map fun c => Value.ref c.1).toArray 0)).push (PyProof.Rows.seqObj "list" #[] 0)).get? (hD.push (PyProof.Rows.seqObj "tuple" (bs.map fun c => Value.ref c.1).toArray 0)).objs.size = some (PyProof.Rows.seqObj "list" #[] 0) := Heap.get?_push_size _ rfl
  have lk : s.heap.objs.size ≤ (hD.push (PyProof.Rows.seqObj "tuple" (bs.map fun c => Value.ref c.1).toArray 0)).objs.size := by rw [e2]; omega
  have nk : (hD.push (PyProof.Rows.seqObj "tuple" (bs.map fun c => Value.ref c.1).toArray 0)).objs.size ≠ D := by rw [e2]; exact Nat.ne_of_gt (Nat.lt_succ_of_lt hD1)
  refine keys_run (A := X.A.in1.in1) (H1 := upd H (hD.push (PyProof.Rows.seqObj "tuple" (bs.map fun c => Value.ref c.1).toArray 0)).objs.size (.lst [])) F hb hr.in1.in1 rfl (by show X.A.units + 1 + 1 + 1 < cLine; omega) I ⟨rfl, I.bare, Un.laid kk lk (I.hok.fresh lk), I.hok.laid kk lk ⟨Nat.zero_le _, [], 0, .nil, atS⟩, fun b o e => ?_, at2, ?_, upd_same, ⟨rfl, fun i t es h1 => by cases h1⟩, fun t ht => by cases ht⟩ la lk nk hx al l100 fun s' H' o1 o2 o3 o4 o5 o6 => ⟨rfl, ?_⟩
  · rw [upd_ne (fun z => by rw [z, I.hok.fresh lk] at e; cases e)]
    exact e
  · rw [upd_ne (Ne.symm nk)]
    exact I.hok.fresh la
  · exact ⟨.ref D, H', I.call' o1 o3 o4 o2 (ch := []) (fun b z => absurd z (by simp)), rfl, q D H' o5 o6⟩
end
end K26
set_option Elab.async false
set_option linter.all false
set_option maxRecDepth 100000
set_option maxHeartbeats 4000000
/-! != of a list and the empty list -/
namespace LstM
open PySem PySem.SeqAt
open AutoSeq1 (wpAny_loadPart')
open MeetsSeq MeetsSeq2 MeetsSeq3 SeqRoads2
section
variable {prog : Program} {w : World} {A : Around} {R : Result → Shared → Prop}
theorem ne_len {l b : Addr} {xs ys : Array Value} {n n2 : Nat} {d1 d2 : Option Addr} {c1 c2 : Array (Option Value)} {s : Shared} (hl : s.heap.get? l = some { cls := .type "list", dict := d1, data := .seq xs n, slots := c1 })
    (hb : s.heap.get? b = some { cls := .type "list", dict := d2, data := .seq ys n2, slots := c2 }) (ne : (xs.size != ys.size) = true) (h : R (.ok (.ret (.bool true))) s) :
    wpAny (model prog w) A.in1 (Builtin.«list.__ne__» ⟨[.ref l, .ref b], []⟩) (GQ.FinOf prog w A R) (fun e s' => R (.error e) s') s := by
  have f3 := AutoSeq1.sub_list_list
  obtain ⟨hp, g, d, tk, os⟩ := s
  wp_walk using wpAny_loadPart' hb, wpAny_load' hl, wpAny_load' hb
  exact h
theorem rc_len {E : Value → Shared → Prop} {s : Shared} {l b : Addr} {xs ys : Array Value} {Q : Value → Shared → Prop} (hu : A.units < cLine) (hl : s.heap.IsList l xs) (hb : s.heap.IsList b ys) (ne : (xs.size != ys.size) = true) (h : Q (.bool true) s) :
    wpAny (model prog w) A (richCompare .NotEq (.ref l) (.ref b)) Q E s := by
  obtain ⟨⟨k1, d1, u1, c1⟩, o1, e1, n, f1⟩ := id hl
  obtain ⟨⟨k2, d2, u2, c2⟩, o2, e2, n2, f2⟩ := id hb
  simp only at e1 f1 e2 f2
  subst e1 f1 e2 f2
  exact wpAny_richCompare_same_room (op := .NotEq) ⟨_, o1, rfl⟩ ⟨_, o2, rfl⟩ F.slot_list_ne (GQ.call_here F.slot_list_ne ⟨_, o1, rfl⟩ F.entry_list_ne (F.args_list_ne_2 _ _) (ne_len (R := wants (fun v s' => v ≠ .notImplemented ∧ Q v s') E) o1 o2 ne ⟨(fun z => nomatch z), h⟩)) hu
theorem rc_nil {E : Value → Shared → Prop} {s : Shared} {l b : Addr} {Q : Value → Shared → Prop} (hu : A.units < cLine) (hl : s.heap.IsList l #[]) (hb : s.heap.IsList b #[]) (h : Q (.bool false) s) :
    wpAny (model prog w) A (richCompare .NotEq (.ref l) (.ref b)) Q E s := by
  obtain ⟨⟨k1, d1, u1, c1⟩, o1, e1, n, f1⟩ := id hl
  obtain ⟨⟨k2, d2, u2, c2⟩, o2, e2, n2, f2⟩ := id hb
  simp only at e1 f1 e2 f2
  subst e1 f1 e2 f2
  exact LstN.rc_ne (N := 0) hu (fun i s' => s' = s) (fun i s' e => by
    subst e
    exact ⟨#[], #[], n, n2, d1, d2, c1, c2, o1, o2, rfl, rfl, fun h1 => absurd h1 (Nat.not_lt_zero _)⟩) (fun s' e => by rw [e]; exact h) rfl
end
end LstM
namespace K26
open K34 PySem PySem.Spec PyProof.Rows L2
theorem op_neNil {X : Cx} (hu : X.A.units < cLine) : OpR X (compareOp .NotEq) (rEqNil X.K not) := by
  intro pins s σ H x y v u Q I rx ry h
  obtain ⟨a, b, xs, rfl, rfl, h1, h2, q⟩ := h
  cases rx
  cases ry
  obtain ⟨its, r, pl, hz⟩ := I.list h1
  obtain ⟨its2, r2, pl2, hz2⟩ := I.list h2
  cases r2
  cases r with
  | nil => exact LstM.rc_nil hu pl.isList pl2.isList ⟨.bl _, H, I, rfl, q⟩
  | cons r1 r2 => exact LstM.rc_len hu pl.isList pl2.isList (by simp) ⟨.bl _, H, I, rfl, q⟩
end K26
set_option Elab.async false
set_option linter.all false
set_option maxRecDepth 100000
set_option maxHeartbeats 4000000
/-! _law_shuffled -/
namespace K26
open K34 PySem PySem.Spec PyProof.Rows L2
def spShuf (K : PySem.W.Frag) : Sp := fun vs H Q _ => ∃ (p c o : Addr) (ns : List Int) (t l : Int) (xs : List V), vs = [.ref p, .ref o] ∧ PenAt H p c ns t l ∧ t + 200 < 1000000000000 ∧ (SqL K H o xs ∨ SqT K H o xs) ∧ xs.length ≤ 100 ∧
  ∀ (q : Addr) (ys : List V) (t' l' : Int) (H' : Hp), ys.Perm xs → t' ≤ t + 100 → PenAt H' p c ns t' l' → But p H H' → H q = none → H' q = some (.lst ys) → Q (.ref q) H'
theorem scShuf : FnScope ["_law_pen_here", "_law_items", "_law_left", "_law_found"] ["_law_pen_here", "_law_items"] (defScope sShuf) := ⟨rfl, rfl, rfl, by decide +kernel, rfl, by decide +kernel, by decide +kernel⟩
theorem erase_perm {α : Type} {l : List α} {i : Nat} (h : i < l.length) : (l[i] :: l.eraseIdx i).Perm l := by
  have e : l = l.take i ++ l[i] :: l.drop (i + 1) := by
    rw [← List.drop_eq_getElem_cons h, List.take_append_drop]
  rw [List.eraseIdx_eq_take_drop_succ]
  refine (List.perm_middle.symm).trans ?_
  rw [← e]
section
variable {P : Program} {w : World} {K : PySem.W.Frag} {mg : Str → Option Value} {base : Heap} {f : Addr} {fd : FuncData}
theorem ok_shuf (F : FnP K "_law_shuffled" sShuf f fd) (T : TxB mg) (GD : Fn1 P w K mg base 1 "_law_draw" ["_law_pen_here", "_law_many"] spDraw) : FnOk P w K mg base CX0 2 f fd ["_law_pen_here", "_law_items"] (spShuf K) := by
  refine F.ok scShuf (fun vs H Q E h => ?_) (fun cdv A outer s H vs Q E hr h => ?_)
  · obtain ⟨p, c, o, ns, t, l, xs, rfl, _⟩ := h
    rfl
  · obtain ⟨p, c, o, ns, t, l, xs, rfl, D, ht, hs, l100, k⟩ := h
    have nd := scShuf.nd
    have hu := hr.units0
    refine ⟨_, PSs.nox (pss_cons (ps_par (i := 2) (j := 3) rfl nd rfl rfl (by decide) rfl rfl (pa_cons (pe_callTy call_list_of (by rfl) T.list (by decide +kernel) (pa_cons (pv 1) pa_nil)) (pa_cons (pe_lst pa_nil) pa_nil)) (by rfl))
      (pss_cons (ps_while PassesOwn.never (pt_cmpR (op_neNil hu) (pv 2) (pe_lst pa_nil) (nomark _))
        (pss_one (ps_expr (pe_bm PySem.F.plainAttrs_list PySem.F.slot_list_append PySem.F.type_list_append mt_append (pv 3) (pa_cons (pe_bm PySem.F.plainAttrs_list PySem.F.slot_list_pop PySem.F.type_list_pop mt_popAt (pv 2) (pa_cons (pe_call GD.ok hr rfl GD.g GD.k GD.b .nil pass0 (pa_cons (pv 0) (pa_cons (pe_callB call_len_seq (by rfl) T.len PySem.boot_len (pa_cons (pv 2) pa_nil)) pa_nil))) pa_nil)) pa_nil)))))
      (pss_one (ps_ret (pv 3))))), ?_⟩
    refine ⟨_, rfl, o, xs, rfl, hs, fun q1 n1 => ⟨(by show 0 ≤ sizeLine; decide), fun q2 n2 => ?_⟩⟩
    have s1 := same_new (o := .lst xs) (Same.refl H) n1
    have s2 := same_new (o := .lst []) s1 n2
    have a1 : (upd (upd H q1 (.lst xs)) q2 (.lst [])) q1 = some (.lst xs) := up upd_same n2
    have a2 : (upd (upd H q1 (.lst xs)) q2 (.lst [])) q2 = some (.lst []) := upd_same
    have ne : q1 ≠ q2 := fun z => by rw [z, upd_same] at n2 <;> cases n2
    have n2' : H q2 = none := by
      rw [upd_ne (Ne.symm ne)] at n2
      exact n2
    generalize upd (upd H q1 (.lst xs)) q2 (.lst []) = H2 at s2 a1 a2 ⊢
    refine ⟨_, _, rfl, fun m σ H' => ∃ (ls fs : List V) (t' l' : Int), σ = [some (.ref p), some (.ref o), some (.ref q1), some (.ref q2)] ∧ m = ls.length ∧ H' q1 = some (.lst ls) ∧ H' q2 = some (.lst fs) ∧ (fs ++ ls).Perm xs ∧ PenAt H' p c ns t' l' ∧ t' + (ls.length : Int) ≤ t + (xs.length : Int) ∧ But p H H',
      ⟨xs.length, xs, [], t, l, rfl, rfl, a1, a2, List.Perm.refl _, D.same s2, Int.le_refl _, But.of s2⟩, ?_⟩
    rintro m σ H3 ⟨ls, fs, t3, l3, rfl, rfl, b1, b2, pm, D3, ht3, bu⟩
    have plen := pm.length_eq
    rw [List.length_append] at plen
    refine ⟨_, rfl, (by show 0 ≤ sizeLine; decide), fun r hr3 => ?_⟩
    have s4 := same_new (o := .lst []) (Same.refl H3) hr3
    refine ⟨q1, r, ls, rfl, rfl, SqL.of (up b1 hr3), SqL.of upd_same, _, rfl, ?_⟩
    generalize upd H3 r (.lst []) = H4 at s4 ⊢
    cases ls with
    | nil =>
      refine itF rfl ?_
      refine ⟨_, rfl, ?_⟩
      rw [List.append_nil] at pm
      exact k q2 fs t3 l3 H4 pm (by omega) (D3.same s4) (bu.trans (But.of s4)) n2' (s4 _ _ b2)
    | cons y0 ys0 =>
      refine itT rfl ?_
      refine ⟨fun σ' H' => ∃ m', m' < (y0 :: ys0).length ∧ ∃ (ls fs : List V) (t' l' : Int), σ' = [some (.ref p), some (.ref o), some (.ref q1), some (.ref q2)] ∧ m' = ls.length ∧ H' q1 = some (.lst ls) ∧ H' q2 = some (.lst fs) ∧ (fs ++ ls).Perm xs ∧ PenAt H' p c ns t' l' ∧ t' + (ls.length : Int) ≤ t + (xs.length : Int) ∧ But p H H', fun _ _ z => z, ?_⟩
      refine ⟨_, rfl, .inl ⟨rfl, _, SqL.of (s4 _ _ b2)⟩, _, rfl, .inl ⟨rfl, _, SqL.of (s4 _ _ b1)⟩, _, rfl, _, rfl, q1, y0 :: ys0, rfl, .inl (SqL.of (s4 _ _ b1)), ?_⟩
      refine ⟨p, c, ns, t3, l3, _, rfl, D3.same s4, by omega, (by show (0 : Int) < ((ys0.length + 1 : Nat) : Int); omega), (by rw [List.length_cons] at plen; show ((ys0.length + 1 : Nat) : Int) < 1073741824; omega), fun j t5 l5 H5 j0 j1 h5 D5 b5 => ?_⟩
      have hp4 := (D3.same s4).d
      have np1 : q1 ≠ p := fun z => by rw [← z, s4 _ _ b1] at hp4; cases hp4
      have np2 : q2 ≠ p := fun z => by rw [← z, s4 _ _ b2] at hp4; cases hp4
      have c1 := b5 _ _ np1 (s4 _ _ b1)
      have c2 := b5 _ _ np2 (s4 _ _ b2)
      have j1 : j < ((ys0.length + 1 : Nat) : Int) := j1
      have jn : j.toNat < (y0 :: ys0).length := by rw [List.length_cons]; omega
      have hy : (y0 :: ys0)[j.toNat]? = some (y0 :: ys0)[j.toNat] := List.getElem?_eq_getElem jn
      refine ⟨q1, y0 :: ys0, j, j.toNat, _, rfl, rfl, c1, by omega, by rw [List.length_cons] at plen; omega, ?_, hy, ?_⟩
      · unfold seqIndex?
        have e1 : ¬ j < 0 := by omega
        simp [e1]
        omega
      · generalize (y0 :: ys0)[j.toNat] = y at hy
        have ne' : q2 ≠ q1 := Ne.symm ne
        refine ⟨q2, fs, y, rfl, rfl, by rw [upd_ne ne']; exact c2, by rw [sizeLine_eq]; omega, ?_⟩
        have pe : (y :: (y0 :: ys0).eraseIdx j.toNat).Perm (y0 :: ys0) := by
          have z := erase_perm jn
          rw [List.getElem?_eq_getElem jn] at hy
          injection hy with hy
          rw [hy] at z
          exact z
        have le : ((y0 :: ys0).eraseIdx j.toNat).length + 1 = (y0 :: ys0).length := by
          have := pe.length_eq
          rw [List.length_cons] at this
          exact this
        refine ⟨((y0 :: ys0).eraseIdx j.toNat).length, by omega, (y0 :: ys0).eraseIdx j.toNat, fs ++ [y], t5, l5, rfl, rfl, by rw [upd_ne ne]; exact upd_same, upd_same, ?_, ?_, by omega, ?_⟩
        · rw [List.append_assoc]
          exact ((List.Perm.refl fs).append pe).trans pm
        · have nc : ∀ {b o}, H b = some o → b ≠ q1 ∧ b ≠ q2 := fun e => And.intro (fun z => by rw [z, n1] at e; cases e) (fun z => by rw [z, n2'] at e; cases e)
          have np := nc D.d
          have ncc := nc D.c
          exact ⟨by rw [upd_ne np.2, upd_ne np.1]; exact D5.d, by rw [upd_ne ncc.2, upd_ne ncc.1]; exact D5.c, D5.ht, D5.hl, D5.hn⟩
        · intro b o nb e
          have e1 : b ≠ q1 := fun z => by rw [z, n1] at e; cases e
          have e2 : b ≠ q2 := fun z => by rw [z, n2'] at e; cases e
          rw [upd_ne e2, upd_ne e1]
          exact b5 b o nb (s4 _ _ (bu b o nb e))
end
end K26
set_option Elab.async false
set_option linter.all false
set_option maxRecDepth 100000
set_option maxHeartbeats 4000000
/-! == of ends; an end not among ends -/
namespace K26
open K34 PySem PySem.Spec PyProof.Rows L2
theorem en_rel {e f : En} {u : Value} (r1 : RelV (enV e) u) (r2 : RelV (enV f) u) (o1 : enOk e = true) (o2 : enOk f = true) : e = f := by
  have ev : enV e = enV f := by
    cases e <;> cases f <;> (obtain ⟨_, rfl⟩ := r1; obtain ⟨_, z⟩ := r2; first | (injection z with z1 z2; first | rfl | (show V.str _ = V.str _; rw [z1]) | (show V.int _ = V.int _; rw [z1])) | cases z)
  have z := eqV_en e f o1 o2
  rw [ev] at z
  have z2 : eqV (enV f) (enV f) = true := by
    have := eqV_en f f o2 o2
    rw [this]
    exact decide_eq_true rfl
  rw [z2] at z
  exact of_decide_eq_true z.symm
theorem ens_rel : ∀ {es fs : List En} {us : List Value}, Vals (es.map enV) us → Vals (fs.map enV) us → es.all enOk = true → fs.all enOk = true → es = fs
  | [], [], _, _, _, _, _ => rfl
  | [], _ :: _, us, h1, h2, _, _ => by cases h1; cases h2
  | _ :: _, [], us, h1, h2, _, _ => by cases h2; cases h1
  | e :: es, f :: fs, us, h1, h2, o1, o2 => by
    rw [List.all_cons, Bool.and_eq_true] at o1 o2
    cases h1 with
    | cons a1 a2 =>
      cases h2 with
      | cons b1 b2 => rw [en_rel a1 b1 o1.1 o2.1, ens_rel a2 b2 o1.2 o2.2]
section
variable {X : Cx} {pins : List (Addr × Obj)} {σ : L2.St} {H : Hp} {s : Shared}
theorem en_fl (l : List En) : (l.map enV).all flatV = true := by
  rw [List.all_map]
  exact List.all_eq_true.mpr fun e _ => flat_en e
theorem end_uniq {a : Addr} {es fs : List En} (I : Inv X pins σ H s) (h1 : SqT X.K H a (es.map enV)) (h2 : SqT X.K H a (fs.map enV)) (o1 : es.all enOk = true) (o2 : fs.all enOk = true) : es = fs := by
  obtain ⟨its, r, pl, hz⟩ := I.tuple h1
  obtain ⟨its2, r2, pl2, hz2⟩ := I.tuple h2
  have e : its = its2 := by
    obtain ⟨o, q1, _, n1, d1⟩ := pl
    obtain ⟨o2, q2, _, n2, d2⟩ := pl2
    rw [q1] at q2
    cases q2
    rw [d1] at d2
    injection d2 with z
    exact congrArg Array.toList z
  subst e
  exact ens_rel r r2 o1 o2
theorem end_eqAt {A : Around} {a b : Addr} {es fs : List En} (I : Inv X pins σ H s) (h1 : SqT X.K H a (es.map enV)) (h2 : SqT X.K H b (fs.map enV)) (o1 : es.all enOk = true) (o2 : fs.all enOk = true) (l : es.length = fs.length) (hu : A.units < cLine) : SeqAt.EqAt A s (.ref a) (.ref b) (decide (es = fs)) := by
  by_cases ab : a = b
  · subst ab
    rw [decide_eq_true (end_uniq I h1 h2 o1 o2)]
    exact SeqAt.EqAt.same _
  · obtain ⟨its, r, pl, hz⟩ := I.tuple h1
    obtain ⟨its2, r2, pl2, hz2⟩ := I.tuple h2
    refine SeqAt.EqAt.of_refs ab ?_
    have z := SeqAt.RcAt.tuples (A := A) (s := s) (e := fun j => eqV ((es.map enV).getD j .non) ((fs.map enV).getD j .non)) pl pl2 hu (fun j k1 k2 => ?_)
    · have e1 : its.toArray.size = (es.map enV).length := by rw [List.size_toArray, r.length]
      have e2 : its2.toArray.size = (fs.map enV).length := by rw [List.size_toArray, r2.length]
      rw [e1, e2] at z
      have e3 := eqVs_en o1 o2 l
      unfold eqVs at e3
      rw [e3] at z
      exact z
    · have k1 : j < its.length := by simpa using k1
      have k2 : j < its2.length := by simpa using k2
      have z := eqAt_V (A := A.in1) (s := s) (vals_getD r j k1) (vals_getD r2 j k2) (flat_getD (en_fl es) j) (flat_getD (en_fl fs) j)
      simpa using z
/-- an end not in a list of ends -/
def rNotInE (K : PySem.W.Frag) : R2 := fun x y H Q => ∃ (r a : Addr) (es : List En) (bs : List (Addr × List En)), x = .ref r ∧ y = .ref a ∧ SqT K H r (es.map enV) ∧ es.all enOk = true ∧ SqL K H a (bs.map fun c => V.ref c.1) ∧
  (∀ c ∈ bs, SqT K H c.1 (c.2.map enV) ∧ c.2.all enOk = true ∧ c.2.length = es.length) ∧ Q (.bl (!bs.any fun c => decide (c.2 = es))) H
theorem op_notInE (hu : X.A.in1.units < cLine) : OpR X (compareOp .NotIn) (rNotInE X.K) := by
  intro pins s σ H x y v u Q I rx ry h
  obtain ⟨r, a, es, bs, rfl, rfl, hr, oe, hs, hb, q⟩ := h
  cases rx
  cases ry
  obtain ⟨its, rv, pl, hz⟩ := I.list hs
  have ei : its = bs.map fun c => Value.ref c.1 := by
    have z := vals_refs (ts := bs.map (·.1)) (us := its) (by rw [List.map_map]; exact rv)
    rw [z, List.map_map]
    rfl
  subst ei
  have key : ∀ c ∈ bs, (open Classical in decide (∃ d ∈ bs, Value.ref c.1 = Value.ref d.1 ∧ d.2 = es)) = decide (c.2 = es) := fun c hc => by
    refine decide_eq_decide.mpr ⟨fun ⟨d, hd, e1, e2⟩ => ?_, fun e => ⟨c, hc, rfl, e⟩⟩
    injection e1 with e1
    rw [← e2]
    have h1 := hb c hc
    have h2 := hb d hd
    rw [e1] at h1
    exact end_uniq I h1.1 h2.1 h1.2.1 h2.2.1
  refine SeqAt.notIn_listAt (fun w => open Classical in decide (∃ d ∈ bs, w = Value.ref d.1 ∧ d.2 = es)) pl.isList (fun w hw => ?_) ⟨.bl _, H, I, rfl, ?_⟩
  · have hw : w ∈ bs.map fun c => Value.ref c.1 := by simpa using hw
    obtain ⟨c, hc, rfl⟩ := List.mem_map.mp hw
    have h1 := hb c hc
    have z := end_eqAt (A := X.A.in1) I h1.1 hr h1.2.1 oe h1.2.2 hu
    rw [← key c hc] at z
    exact z
  · have e : ((bs.map fun c => Value.ref c.1).toArray.any fun w => open Classical in decide (∃ d ∈ bs, w = Value.ref d.1 ∧ d.2 = es)) = bs.any fun c => decide (c.2 = es) := by
      rw [List.any_toArray, List.any_map]
      rw [Bool.eq_iff_iff, List.any_eq_true, List.any_eq_true]
      refine ⟨fun ⟨c, hc, z⟩ => ⟨c, hc, ?_⟩, fun ⟨c, hc, z⟩ => ⟨c, hc, ?_⟩⟩
      · rw [← key c hc]
        exact z
      · rw [← key c hc] at z
        exact z
    rw [e]
    exact q
end
end K26
set_option Elab.async false
set_option linter.all false
set_option maxRecDepth 100000
set_option maxHeartbeats 4000000
/-! _law_ends -/
namespace K26
open K34 PySem PySem.Spec PyProof.Rows L2
abbrev refsB (bs : List (Addr × List En)) : List V := bs.map fun c => V.ref c.1
/-- ends at their addresses -/
def EndsAt (K : PySem.W.Frag) (H : Hp) (ks : List Bool) (bs : List (Addr × List En)) : Prop := ∀ c ∈ bs, SqT K H c.1 (c.2.map enV) ∧ c.2.all enOk = true ∧ endOk c.2 = true ∧ Fits c.2 ks
def spEnds (K : PySem.W.Frag) : Sp := fun vs H Q _ => ∃ (p c o : Addr) (ns : List Int) (t l m : Int) (ks : List Bool), vs = [.ref p, .ref o, .int m] ∧ PenAt H p c ns t l ∧ t + 400 < 1000000000000 ∧ SqL K H o (ks.map kV) ∧ 1 ≤ ks.length ∧ ks.length ≤ 2 ∧ 0 ≤ m ∧ m ≤ 6 ∧
  ∀ (q : Addr) (bs : List (Addr × List En)) (t' l' : Int) (H' : Hp), EndsAt K H' ks bs → bs.Pairwise (fun c d => ltEs c.2 d.2 = true) → 1 ≤ bs.length → bs.length ≤ 7 → t' ≤ t + 200 → PenAt H' p c ns t' l' → But p H H' → H' q = some (.lst (refsB bs)) → Q (.ref q) H'
theorem scEnds : FnScope ["_law_pen_here", "_law_sorts", "_law_many", "_law_found", "_law_k", "_law_end_here"] ["_law_pen_here", "_law_sorts", "_law_many"] (defScope sEnds) := ⟨rfl, rfl, rfl, by decide +kernel, rfl, by decide +kernel, by decide +kernel⟩
theorem sqT_lst {K : PySem.W.Frag} {H : Hp} {q a : Addr} {zs ys xs : List V} (hq : H q = some (.lst zs)) (h : SqT K H a xs) : SqT K (upd H q (.lst ys)) a xs := by
  rcases h with (h | ⟨o, h⟩) | h
  · exact .inl (.inl (by rw [upd_ne (ne_of h hq (by intro z; cases z))]; exact h))
  · exact .inl (.inr ⟨o, by rw [upd_ne (ne_of h hq (by intro z; cases z))]; exact h⟩)
  · exact .inr h
theorem EndsAt.same {K : PySem.W.Frag} {H H' : Hp} {ks : List Bool} {bs : List (Addr × List En)} (h : EndsAt K H ks bs) (s : Same H H') : EndsAt K H' ks bs := fun c hc => ⟨sqT_same (h c hc).1 s, (h c hc).2⟩
theorem EndsAt.but {K : PySem.W.Frag} {H H' : Hp} {ks : List Bool} {bs : List (Addr × List En)} {p c : Addr} {t l : Int} (h : EndsAt K H ks bs) (hp : H p = some (.dK (penK c t l))) (b : But p H H') : EndsAt K H' ks bs := fun c hc => ⟨sqT_but hp b (h c hc).1, (h c hc).2⟩
theorem sorted_lt {bs : List (Addr × List En)} {ks : List Bool} (hf : ∀ c ∈ bs, c.2.all enOk = true ∧ Fits c.2 ks) (hd : bs.Pairwise fun c d => c.2 ≠ d.2) : (bs.mergeSort bLe).Pairwise fun c d => ltEs c.2 d.2 = true := by
  have T := PySem.W.sortLe_total (listOrd itemOrd) false keyB
  have h1 := List.pairwise_mergeSort (le := bLe) T.trans (fun a b => by rcases T.total a b with h | h <;> (unfold bLe; simp [h])) bs
  have pm := List.mergeSort_perm bs bLe
  have h2 : (bs.mergeSort bLe).Pairwise fun c d => c.2 ≠ d.2 := (pm.pairwise_iff (fun h => Ne.symm h)).mpr hd
  have h3 : (bs.mergeSort bLe).Pairwise fun c d => c ∈ bs ∧ d ∈ bs := List.Pairwise.imp_of_mem (fun ha hb _ => ⟨pm.mem_iff.mp ha, pm.mem_iff.mp hb⟩) h1
  refine (h1.and (h2.and h3)).imp fun {a b} h => ?_
  obtain ⟨z1, z2, z3, z4⟩ := h
  have fa := hf a z3
  have fb := hf b z4
  have l : a.2.length = b.2.length := by rw [fa.2.l, fb.2.l]
  refine lt_or l (fa.2.agr fb.2) fa.1 fb.1 z2 ?_
  have z1 : (!PyProof.Rows.lexLt itemOrd (toks b.2) (toks a.2)) = true := z1
  rw [lt_toks l.symm (fb.2.agr fa.2)] at z1
  simpa using z1
section
variable {P : Program} {w : World} {K : PySem.W.Frag} {mg : Str → Option Value} {base : Heap} {f : Addr} {fd : FuncData}
theorem ok_ends (F : FnP K "_law_ends" sEnds f fd) (hR : mg "range" = none) (hS : mg "sorted" = none) (GE : Fn1 P w K mg base 4 "_law_end" ["_law_pen_here", "_law_sorts"] (spEnd K)) (GO : Fn1 P w K mg base 2 "_law_end_order" ["_law_end_here"] (spPlF K)) :
    FnOk P w K mg base CX0 5 f fd ["_law_pen_here", "_law_sorts", "_law_many"] (spEnds K) := by
  refine F.ok scEnds (fun vs H Q E h => ?_) (fun cdv A outer s H vs Q E hr h => ?_)
  · obtain ⟨p, c, o, ns, t, l, m, ks, rfl, _⟩ := h
    rfl
  · obtain ⟨p, c, o, ns, t, l, m, ks, rfl, D, ht, hs, k1, k2, m0, m6, k⟩ := h
    have nd := scEnds.nd
    have hu := hu_of hr
    refine ⟨_, PSs.nox (pss_cons (ps_set (i := 3) nd rfl (Or.inl rfl) (pe_lst (pa_cons (pe_call GE.ok hr rfl GE.g GE.k GE.b .nil pass0 (pa_cons (pv 0) (pa_cons (pv 1) pa_nil))) pa_nil)))
      (pss_cons (ps_for PassesOwn.never rfl (pi_range1 rfl hR (pa_cons (pv 2) pa_nil)) (pg_name (i := 4) nd rfl (Or.inl rfl))
        (pss_cons (ps_set (i := 5) nd rfl (Or.inl rfl) (pe_call GE.ok hr rfl GE.g GE.k GE.b .nil pass0 (pa_cons (pv 0) (pa_cons (pv 1) pa_nil))))
        (pss_one (ps_if (pt_cmpR (op_notInE hu) (pv 5) (pv 3) (by rfl)) (pss_one (ps_expr (pe_bm PySem.F.plainAttrs_list PySem.F.slot_list_append PySem.F.type_list_append mt_append (pv 3) (pa_cons (pv 5) pa_nil)))) pss_nil))))
      (pss_one (ps_ret (pe_callBK (cr_sortPl GO.ok GO.b hr (by show (A.deeper (envOfC "_law_ends" (defScope sEnds) s.heap.objs.size f cdv)).units + 3 < cLine; have := hu64_of hr; omega)) (by rfl) hS (by decide +kernel) (pa_cons (pv 3) pa_nil) (pk_cons (pe_glob (v := .ref GO.a) rfl GO.g rfl) pk_nil)))))), ?_⟩
    refine ⟨_, rfl, _, rfl, p, c, o, ns, t, l, ks, rfl, D, by omega, hs, k1, k2, fun r1 e1 t1 l1 H1 f1 o1 ad1 h1 D1 b1 q1 => ?_⟩
    refine ⟨(by show 1 ≤ sizeLine; decide), fun q nq => ?_⟩
    have nqH : H q = none := by
      cases z : H q with
      | none => rfl
      | some u =>
        by_cases qp : q = p
        · rw [qp, D1.d] at nq
          cases nq
        · rw [b1 q u qp z] at nq
          cases nq
    have s1 := same_new (o := .lst [.ref r1]) (Same.refl H1) nq
    refine ⟨_, rfl, m, rfl, (by omega), (by omega), for_range (lo := 0) (n := m.toNat) (fun i σ H' => ∃ (bs : List (Addr × List En)) (v4 v5 : Option V) (t' l' : Int), σ = [some (.ref p), some (.ref o), some (.int m), some (.ref q), v4, v5] ∧ EndsAt K H' ks bs ∧ (bs.Pairwise fun c d => c.2 ≠ d.2) ∧ 1 ≤ bs.length ∧ bs.length ≤ i + 1 ∧ t' ≤ t + 20 * ((i : Int) + 1) ∧ PenAt H' p c ns t' l' ∧ But p H H' ∧ H' q = some (.lst (refsB bs)))
      ⟨[(r1, e1)], none, none, t1, l1, rfl, fun c hc => ?_, List.pairwise_singleton _ _, Nat.le_refl _, Nat.le_refl _, by omega, D1.same s1, b1.trans (But.of s1), upd_same⟩ ?_ ?_⟩
    · rw [List.mem_singleton.mp hc]
      exact ⟨sqT_same q1 s1, o1, ad1, f1⟩
    · rintro i σ H2 hi ⟨bs, v4, v5, t2, l2, rfl, ea, pw, lb1, lb2, ht2, D2, bu, hq2⟩
      have i6 : i < 6 := by omega
      refine ⟨_, rfl, _, rfl, p, c, o, ns, t2, l2, ks, rfl, D2, by omega, sqL_but D.d bu hs, k1, k2, fun r3 e3 t3 l3 H3 f3 o3 ad3 h3 D3 b3 q3 => ?_⟩
      have qp : q ≠ p := fun z => by rw [z, D2.d] at hq2; cases hq2
      have hq3 := b3 _ _ qp hq2
      have ea3 := ea.but D2.d b3
      have bu3 := bu.trans b3
      refine ⟨_, rfl, _, rfl, r3, q, e3, bs, rfl, rfl, q3, o3, SqL.of hq3, fun c hc => ⟨(ea3 c hc).1, (ea3 c hc).2.1, by rw [(ea3 c hc).2.2.2.l, f3.l]⟩, _, rfl, ?_⟩
      cases ha : bs.any fun c => decide (c.2 = e3) with
      | true =>
        refine itF rfl ?_
        exact ⟨bs, _, _, t3, l3, rfl, ea3, pw, lb1, by omega, by push_cast; omega, D3, bu3, hq3⟩
      | false =>
        refine itT rfl ?_
        have nb : ∀ c ∈ bs, c.2 ≠ e3 := fun c hc z => by
          have := List.any_eq_false.mp ha c hc
          exact this (decide_eq_true z)
        refine ⟨_, rfl, .inl ⟨rfl, _, SqL.of hq3⟩, _, rfl, q, refsB bs, .ref r3, rfl, rfl, hq3, by rw [List.length_map, sizeLine_eq]; omega, ?_⟩
        refine ⟨bs ++ [(r3, e3)], _, _, t3, l3, rfl, fun c hc => ?_, ?_, by rw [List.length_append]; omega, by rw [List.length_append, List.length_singleton]; omega, by push_cast; omega, ?_, fun b o' nb' e' => ?_, ?_⟩
        · rcases List.mem_append.mp hc with hc | hc
          · exact ⟨sqT_lst hq3 (ea3 c hc).1, (ea3 c hc).2⟩
          · rw [List.mem_singleton.mp hc]
            exact ⟨sqT_lst hq3 q3, o3, ad3, f3⟩
        · rw [List.pairwise_append]
          refine ⟨pw, List.pairwise_singleton _ _, fun c hc d hd => ?_⟩
          rw [List.mem_singleton.mp hd]
          exact nb c hc
        · have ncc : c ≠ q := fun z => by
            have := D.c
            rw [z, nqH] at this
            cases this
          exact ⟨by rw [upd_ne (Ne.symm qp)]; exact D3.d, by rw [upd_ne ncc]; exact D3.c, D3.ht, D3.hl, D3.hn⟩
        · rw [upd_ne (fun z => by rw [z, nqH] at e'; cases e')]
          exact bu3 b o' nb' e'
        · rw [upd_same]
          show some (HO.lst (bs.map (fun c => V.ref c.1) ++ [V.ref r3])) = some (HO.lst ((bs ++ [(r3, e3)]).map fun c => V.ref c.1))
          rw [List.map_append]
          rfl
    · rintro σ H2 ⟨bs, v4, v5, t2, l2, rfl, ea, pw, lb1, lb2, ht2, D2, bu, hq2⟩
      refine ⟨_, rfl, q, bs, rfl, rfl, SqL.of hq2, fun c hc => ⟨(ea c hc).1, (ea c hc).2.1, by have := (ea c hc).2.2.2.l; omega⟩, fun c hc d hd => ⟨by rw [(ea c hc).2.2.2.l, (ea d hd).2.2.2.l], (ea c hc).2.2.2.agr (ea d hd).2.2.2⟩, by omega, fun z H4 s4 h4 => ?_⟩
      have pm := List.mergeSort_perm bs bLe
      refine k z (bs.mergeSort bLe) t2 l2 H4 (fun c hc => (ea.same s4) c (pm.mem_iff.mp hc)) (sorted_lt (fun c hc => ⟨(ea c hc).2.1, (ea c hc).2.2.2⟩) pw) (by rw [pm.length_eq]; exact lb1) (by rw [pm.length_eq]; omega) (by omega) (D2.same s4) (bu.trans (But.of s4)) h4
end
end K26
set_option Elab.async false
set_option linter.all false
set_option maxRecDepth 100000
set_option maxHeartbeats 4000000
/-! the law's own bounds; _law_bound -/
namespace K26
open K34 PySem PySem.Spec PyProof.Rows L2 StX
inductive Bd where
  | rng (es fs : List En) | rst (m r : Int) | vls (ds : List PyData)
def BdAt (K : PySem.W.Frag) (H : Hp) (a : Addr) : Bd → Prop
  | .rng es fs => ∃ x y : Addr, SqT K H a [.str "range", .ref x, .ref y] ∧ SqT K H x (es.map enV) ∧ SqT K H y (fs.map enV)
  | .rst m r => SqT K H a [.str "rest", .int m, .int r]
  | .vls ds => ∃ x : Addr, SqT K H a [.str "values", .ref x] ∧ SqT K H x (ds.map vD)
/-- a value for a column of this kind -/
def valK (b : Bool) : PyData → Bool
  | .none => true
  | .int i => !b && isN (.int i)
  | .str s => b && wordS s
  | _ => false
def BdOk (ks : List Bool) : Bd → Prop
  | .rng es fs => (Fits es ks ∧ Fits fs ks) ∧ (es.all enOk = true ∧ fs.all enOk = true) ∧ (endOk es = true ∧ endOk fs = true) ∧ ltEs es fs = true ∧ 1 ≤ ks.length ∧ ks.length ≤ 2
  | .rst m r => restD (.int m) (.int r) = true ∧ ks = [false]
  | .vls ds => valsD ds = true ∧ ∃ b, ks = [b] ∧ ds.all (valK b) = true
def MdAt (K : PySem.W.Frag) (H : Hp) (o : Addr) : Bd → Prop
  | .rng es fs => RgAt K H o es fs
  | .rst m r => RsAt K H o m r
  | .vls ds => ∃ es, VEnt (ds.map vD) es ∧ VlAt K H o es
theorem BdAt.same {K : PySem.W.Frag} {H H' : Hp} {a : Addr} {b : Bd} (h : BdAt K H a b) (s : Same H H') : BdAt K H' a b := by
  cases b with
  | rng es fs =>
    obtain ⟨x, y, h1, h2, h3⟩ := h
    exact ⟨x, y, sqT_same h1 s, sqT_same h2 s, sqT_same h3 s⟩
  | rst m r => exact sqT_same h s
  | vls ds =>
    obtain ⟨x, h1, h2⟩ := h
    exact ⟨x, sqT_same h1 s, sqT_same h2 s⟩
theorem BdAt.but {K : PySem.W.Frag} {H H' : Hp} {a p c : Addr} {t l : Int} {b : Bd} (h : BdAt K H a b) (hp : H p = some (.dK (penK c t l))) (s : But p H H') : BdAt K H' a b := by
  cases b with
  | rng es fs =>
    obtain ⟨x, y, h1, h2, h3⟩ := h
    exact ⟨x, y, sqT_but hp s h1, sqT_but hp s h2, sqT_but hp s h3⟩
  | rst m r => exact sqT_but hp s h
  | vls ds =>
    obtain ⟨x, h1, h2⟩ := h
    exact ⟨x, sqT_but hp s h1, sqT_but hp s h2⟩
theorem entsD_en {es : List En} (ok : es.all enOk = true) : entsD (.tuple (es.map enD)) = es := by
  show (es.map enD).map enOf = es
  rw [List.map_map]
  have : ∀ e ∈ es, (enOf ∘ enD) e = e := fun e he => enD_of (List.all_eq_true.mp ok e he)
  rw [List.map_congr_left this, List.map_id']
theorem endD_en {es : List En} (ok : es.all enOk = true) (e1 : endOk es = true) (l1 : 1 ≤ es.length) (l2 : es.length ≤ 2) : endD (.tuple (es.map enD)) = true := by
  show ((decide (1 ≤ (es.map enD).length) && decide ((es.map enD).length ≤ 2)) && ((es.map enD).all entD && endOk ((es.map enD).map enOf))) = true
  have z : (es.map enD).map enOf = es := entsD_en ok
  rw [z, e1, List.length_map, decide_eq_true l1, decide_eq_true l2, List.all_map]
  have : es.all (entD ∘ enD) = true := List.all_eq_true.mpr fun e he => (ent_of (List.all_eq_true.mp ok e he)).1
  rw [this]
  rfl
theorem rng_ok {es fs : List En} {ks : List Bool} (h : BdOk ks (.rng es fs)) : rngD (.tuple (es.map enD)) (.tuple (fs.map enD)) = true := by
  obtain ⟨⟨f1, f2⟩, ⟨o1, o2⟩, ⟨e1, e2⟩, lt, l1, l2⟩ := h
  unfold rngD
  rw [endD_en o1 e1 (by rw [f1.l]; exact l1) (by rw [f1.l]; exact l2), endD_en o2 e2 (by rw [f2.l]; exact l1) (by rw [f2.l]; exact l2), entsD_en o1, entsD_en o2, f1.agr f2, lt]
  show (true && (true && decide ((es.map enD).length = (fs.map enD).length))) && (true && true) = true
  rw [List.length_map, List.length_map, f1.l, f2.l, decide_eq_true rfl]
  rfl
theorem valK_val {b : Bool} {d : PyData} (h : valK b d = true) : valD d = true := by
  cases d with
  | none => rfl
  | int i =>
    have h := (Bool.and_eq_true_iff.mp h).2
    show (isN (.int i) || isW _) = true
    rw [h]
    rfl
  | str s =>
    have h : isW (.str s) = true := (Bool.and_eq_true_iff.mp h).2
    show (isN (.str s) || isW (.str s)) = true
    rw [h]
    rfl
  | _ => exact Bool.noConfusion h
theorem th_vD {K : PySem.W.Frag} {H : Hp} {b : Bool} {d : PyData} (h : valK b d = true) : Th K H (vD d) d ∧ sOk d = true := by
  cases d with
  | none => exact ⟨.dp .non rfl, rfl⟩
  | int i => exact ⟨.dp (.int i) rfl, rfl⟩
  | str s =>
    have h : wordS s = true := (Bool.and_eq_true_iff.mp h).2
    exact ⟨.dp (.str s) rfl, en_sok (e := .wrd s) h⟩
  | _ => exact Bool.noConfusion h
theorem thl_vD {K : PySem.W.Frag} {H : Hp} {b : Bool} {ds : List PyData} (h : ds.all (valK b) = true) : ThL K H (ds.map vD) ds := ⟨List.length_map .., fun i x d e1 e2 => by
  rw [List.getElem?_map, e2] at e1
  cases e1
  exact th_vD (List.all_eq_true.mp h d (List.mem_of_getElem? e2))⟩
def spBnd (K : PySem.W.Frag) : Sp := fun vs H Q _ => ∃ (a : Addr) (b : Bd) (ks : List Bool), vs = [.ref a] ∧ BdAt K H a b ∧ BdOk ks b ∧ ∀ (o : Addr) (H' : Hp), Same H H' → MdAt K H' o b → Q (.ref o) H'
theorem scBnd : FnScope ["_law_held"] ["_law_held"] (defScope sBnd) := ⟨rfl, rfl, rfl, by decide +kernel, rfl, by decide +kernel, by decide +kernel⟩
structure VofF (P : Program) (w : World) (K : PySem.W.Frag) (mg : Str → Option Value) (base : Heap) where
  a : Addr
  fd : FuncData
  ok : FnOk P w K mg base (L2.CX P w) 6 a fd ["_law_some"] (spVof K)
  g : mg "_law_values_of" = some (.ref a)
  k : PySem.W.keepIn K (.ref a) = true
  b : Binds K fd ["_law_some"] []
section
variable {P : Program} {w : World} {K : PySem.W.Frag} {mg : Str → Option Value} {base : Heap} {f : Addr} {fd : FuncData}
theorem ok_bnd (F : FnP K "_law_bound" sBnd f fd) (hL : mg "list" = none) (R : RngF P w K mg base) (S : RstF P w K mg base) (D : DftF P w K mg base) (O : VofF P w K mg base) : FnOk P w K mg base CX0 7 f fd ["_law_held"] (spBnd K) := by
  refine F.ok scBnd (fun vs H Q E h => ?_) (fun cdv A outer s H vs Q E hr h => ?_)
  · obtain ⟨a, b, ks, rfl, _⟩ := h
    rfl
  · obtain ⟨a, b, ks, rfl, ha, hb, k⟩ := h
    have hr4 : Room 4 _ := hr.mono (by decide)
    have bR := bindR R.F
    have bT := bindT S.F
    refine ⟨_, PSs.nox (pss_cons (ps_if (pt_cmpR op_eq (pe_ix (ix_tupK (K := K) rfl) (pv 0) pe_int (fun _ _ => rfl)) pe_str (nomark _)) (pss_one (ps_ret (pe_make R.M R.G hr (by rfl) R.Q.T.g bR .nil passL (pa_cons (pe_ix (ix_tupK (K := K) rfl) (pv 0) pe_int (fun _ _ => rfl)) (pa_cons (pe_ix (ix_tupK (K := K) rfl) (pv 0) pe_int (fun _ _ => rfl)) pa_nil))))) pss_nil)
      (pss_cons (ps_if (pt_cmpR op_eq (pe_ix (ix_tupK (K := K) rfl) (pv 0) pe_int (fun _ _ => rfl)) pe_str (nomark _)) (pss_one (ps_ret (pe_call O.ok hr rfl O.g O.k O.b .nil passL (pa_cons (pe_callTy call_list_of (by rfl) hL (by decide +kernel) (pa_cons (pe_ix (ix_tupK (K := K) rfl) (pv 0) pe_int (fun _ _ => rfl)) pa_nil)) pa_nil)))) pss_nil)
      (pss_one (ps_ret (pe_ifExp (pt_cmpR op_eq (pe_ix (ix_tupK (K := K) rfl) (pv 0) pe_int (fun _ _ => rfl)) pe_str (nomark _)) (pe_mk0 D.M (by rfl) D.Q.T.g) (pe_make S.M S.G hr4 (by rfl) S.Q.T.g bT .nil passL (pa_cons (pe_ix (ix_tupK (K := K) rfl) (pv 0) pe_int (fun _ _ => rfl)) (pa_cons (pe_ix (ix_tupK (K := K) rfl) (pv 0) pe_int (fun _ _ => rfl)) pa_nil)))))))), ?_⟩
    cases b with
    | rng es fs =>
      obtain ⟨x, y, h1, h2, h3⟩ := ha
      refine ⟨_, rfl, a, _, 0, .str "range", rfl, rfl, h1, rfl, rfl, _, rfl, ?_⟩
      refine itT (by decide) ?_
      refine ⟨_, rfl, a, _, 1, .ref x, rfl, rfl, h1, rfl, _, rfl, a, _, 2, .ref y, rfl, rfl, h1, rfl, ?_⟩
      have hb' := rng_ok hb
      obtain ⟨⟨f1, f2⟩, ⟨o1, o2⟩, ⟨e1, e2⟩, lt, l1, l2⟩ := hb
      refine fun o dx n1 n2 ne => rd_mkR (cd_end h2 o1 (by rw [f1.l]; omega)) (cd_end h3 o2 (by rw [f2.l]; omega)) (fun e => absurd hb' (by rw [e]; exact Bool.false_ne_true)) n1 n2 ne fun _ H' s' R => ⟨rfl, k o H' s' ?_⟩
      rw [entsD_en o1, entsD_en o2] at R
      exact R
    | rst m r =>
      have h1 : SqT K H a [.str "rest", .int m, .int r] := ha
      obtain ⟨hb, _⟩ := hb
      refine ⟨_, rfl, a, _, 0, .str "rest", rfl, rfl, h1, rfl, rfl, _, rfl, ?_⟩
      refine itF (by decide +kernel) ?_
      refine ⟨_, rfl, a, _, 0, .str "rest", rfl, rfl, h1, rfl, rfl, _, rfl, ?_⟩
      refine itF (by decide +kernel) ?_
      refine ⟨_, rfl, a, _, 0, .str "rest", rfl, rfl, h1, rfl, rfl, _, rfl, ?_⟩
      refine itF (by decide +kernel) ?_
      refine ⟨_, rfl, a, _, 1, .int m, rfl, rfl, h1, rfl, _, rfl, a, _, 2, .int r, rfl, rfl, h1, rfl, ?_⟩
      refine fun o dx n1 n2 ne => rd_mkT (.dp (.int m) rfl) (.dp (.int r) rfl) (fun e => absurd hb (by rw [e]; exact Bool.false_ne_true)) n1 n2 ne fun _ m' r' H' z1 z2 s' R => ⟨rfl, ?_⟩
      cases z1
      cases z2
      exact k o H' s' R
    | vls ds =>
      obtain ⟨x, h1, h2⟩ := ha
      obtain ⟨hv, b0, _, hk⟩ := hb
      have l9 : ds.length ≤ 9 := by
        have z := (Bool.and_eq_true_iff.mp (Bool.and_eq_true_iff.mp hv).1).2
        have := of_decide_eq_true z
        omega
      refine ⟨_, rfl, a, _, 0, .str "values", rfl, rfl, h1, rfl, rfl, _, rfl, ?_⟩
      refine itF (by decide +kernel) ?_
      refine ⟨_, rfl, a, _, 0, .str "values", rfl, rfl, h1, rfl, rfl, _, rfl, ?_⟩
      refine itT (by decide +kernel) ?_
      refine ⟨_, rfl, a, _, 1, .ref x, rfl, rfl, h1, rfl, x, ds.map vD, rfl, .inr h2, fun l nl => ?_⟩
      have s1 := same_new (o := .lst (ds.map vD)) (Same.refl H) nl
      refine ⟨l, ds.map vD, ds, rfl, upd_same, (thl_vD hk).same s1, l9, fun e => absurd hv (by rw [e]; exact Bool.false_ne_true), fun _ o es H' s' ve R => k o H' (s1.trans s') ⟨es, ve, R⟩⟩
end
end K26
set_option Elab.async false
set_option linter.all false
set_option maxRecDepth 100000
set_option maxHeartbeats 4000000
/-! _law_holds -/
namespace K26
open K34 PySem PySem.Spec PyProof.Rows L2 StX
theorem pe_no {X : Cx} {e : Expr} : PE X e (fun _ _ _ => False) := ⟨fun _ _ _ _ _ _ h => h.elim⟩
theorem pss_no {X : Cx} {b : List Stmt} : PSs X b (fun _ _ _ => False) := ⟨fun _ _ _ _ _ _ h => h.elim⟩
/-- the values of a key -/
structure PtOk (ks : List Bool) (ds : List PyData) : Prop where
  l : ds.length = ks.length
  t : ∀ (i : Nat) (b : Bool) (d : PyData), ks[i]? = some b → ds[i]? = some d → valK b d = true
def nonD : PyData → Bool
  | .none => true | _ => false
def holdsB (b : Bd) (ds : List PyData) : Bool := match b with
  | .rng es fs => inR es fs (.tuple ds)
  | .rst m r => inT m r (.tuple ds)
  | .vls es => inVd (es.map vD) (.tuple ds)
theorem valK_nw {b : Bool} {d : PyData} (h : valK b d = true) : nwD d = !nonD d := by
  cases d with
  | none => rfl
  | int i =>
    have h := (Bool.and_eq_true_iff.mp h).2
    show (isN (.int i) || isW (.int i)) = true
    rw [h]
    rfl
  | str s =>
    have h : isW (.str s) = true := (Bool.and_eq_true_iff.mp h).2
    show (isN (.str s) || isW (.str s)) = true
    rw [h]
    rfl
  | _ => exact Bool.noConfusion h
theorem PtOk.any {ks : List Bool} {ds : List PyData} (h : PtOk ks ds) {d : PyData} (hd : d ∈ ds) : ∃ b ∈ ks, valK b d = true := by
  obtain ⟨i, hi, rfl⟩ := List.mem_iff_getElem.mp hd
  have ki : i < ks.length := by rw [← h.l]; exact hi
  exact ⟨ks[i], List.getElem_mem ki, h.t i _ _ (List.getElem?_eq_getElem ki) (List.getElem?_eq_getElem hi)⟩
theorem PtOk.flat {ks : List Bool} {ds : List PyData} (h : PtOk ks ds) : (ds.map vD).all flatV = true := by
  rw [List.all_map]
  refine List.all_eq_true.mpr fun d hd => ?_
  show flatV (vD d) = true
  cases d <;> rfl
theorem PtOk.non {ks : List Bool} {ds : List PyData} (h : PtOk ks ds) : inV .non (ds.map vD) = ds.any nonD := by
  unfold inV
  rw [List.any_map, Bool.eq_iff_iff, List.any_eq_true, List.any_eq_true]
  have e : ∀ d ∈ ds, eqV (vD d) .non = nonD d := fun d hd => by
    obtain ⟨b, _, hb⟩ := h.any hd
    cases d with
    | none => rfl
    | int i => rfl
    | str s => rfl
    | _ => exact Bool.noConfusion hb
  exact ⟨fun ⟨d, hd, z⟩ => ⟨d, hd, by rw [← e d hd]; exact z⟩, fun ⟨d, hd, z⟩ => ⟨d, hd, by rw [← e d hd] at z; exact z⟩⟩
theorem PtOk.nw {ks : List Bool} {ds : List PyData} (h : PtOk ks ds) : ds.all nwD = !ds.any nonD := by
  rw [Bool.eq_iff_iff]
  simp only [List.all_eq_true, Bool.not_eq_true', List.any_eq_false]
  refine ⟨fun z d hd => ?_, fun z d hd => ?_⟩
  · obtain ⟨b, _, hb⟩ := h.any hd
    have := z d hd
    rw [valK_nw hb] at this
    simpa using this
  · obtain ⟨b, _, hb⟩ := h.any hd
    rw [valK_nw hb]
    have := z d hd
    simpa using this
theorem PtOk.ens {ks : List Bool} {ds : List PyData} (h : PtOk ks ds) (n : ds.any nonD = false) : ds.map vD = (ds.map enOf).map enV ∧ (ds.map enOf).all enOk = true ∧ Fits (ds.map enOf) ks := by
  have one : ∀ {b d}, valK b d = true → nonD d = false → vD d = enV (enOf d) ∧ enOk (enOf d) = true ∧ fitE (enOf d) b = true := fun {b d} hb hn => by
    cases d with
    | none => cases hn
    | int i =>
      obtain ⟨z1, z2⟩ := Bool.and_eq_true_iff.mp hb
      refine ⟨rfl, z2, ?_⟩
      show (false || (false == b)) = true
      simpa using z1
    | str s =>
      obtain ⟨z1, z2⟩ := Bool.and_eq_true_iff.mp hb
      have e : enOf (.str s) = .wrd s := enOfS_w (wordS_sg z2).1 (wordS_sg z2).2
      rw [e]
      refine ⟨rfl, z2, ?_⟩
      show (false || (true == b)) = true
      rw [z1]
      rfl
    | _ => exact Bool.noConfusion hb
  have nn : ∀ d ∈ ds, nonD d = false := fun d hd => by
    have := List.any_eq_false.mp n d hd
    simpa using this
  refine ⟨?_, ?_, by rw [List.length_map]; exact h.l, fun i e b h1 h2 => ?_⟩
  · rw [List.map_map]
    refine List.map_congr_left fun d hd => ?_
    obtain ⟨b, _, hb⟩ := h.any hd
    exact (one hb (nn d hd)).1
  · rw [List.all_map]
    refine List.all_eq_true.mpr fun d hd => ?_
    obtain ⟨b, _, hb⟩ := h.any hd
    exact (one hb (nn d hd)).2.1
  · rw [List.getElem?_map] at h1
    obtain ⟨d, hd, rfl⟩ := Option.map_eq_some_iff.mp h1
    exact (one (h.t i b d h2 hd) (nn d (List.mem_of_getElem? hd))).2.2
def spHolds (K : PySem.W.Frag) : Sp := fun vs H Q _ => ∃ (a x o : Addr) (b : Bd) (ks : List Bool) (ds : List PyData), vs = [.ref a, .ref x, .ref o] ∧ BdAt K H a b ∧ BdOk ks b ∧ SqT K H x (ds.map vD) ∧ PtOk ks ds ∧ ∀ H', Same H H' → Q (.bl (holdsB b ds)) H'
theorem scHolds : FnScope ["_law_held", "_law_point", "_law_others", "_law_near"] ["_law_held", "_law_point", "_law_others"] (defScope sHolds) := ⟨rfl, rfl, rfl, by decide +kernel, rfl, by decide +kernel, by decide +kernel⟩
section
variable {P : Program} {w : World} {K : PySem.W.Frag} {mg : Str → Option Value} {base : Heap} {f : Addr} {fd : FuncData}
theorem ok_holds (F : FnP K "_law_holds" sHolds f fd) (hI : mg "int" = none) (GO : Fn1 P w K mg base 2 "_law_end_order" ["_law_end_here"] (spPlF K)) : FnOk P w K mg base CX0 3 f fd ["_law_held", "_law_point", "_law_others"] (spHolds K) := by
  refine F.ok scHolds (fun vs H Q E h => ?_) (fun cdv A outer s H vs Q E hr h => ?_)
  · obtain ⟨a, x, o, b, ks, ds, rfl, _⟩ := h
    rfl
  · obtain ⟨a, x, o, b, ks, ds, rfl, ha, hb, hx, hp, k⟩ := h
    refine ⟨_, PSs.nox (pss_cons (ps_if (pt_cmpR op_eq (pe_ix (ix_tupK (K := K) rfl) (pv 0) pe_int (fun _ _ => rfl)) pe_str (nomark _)) pss_no pss_nil)
      (pss_cons (ps_if (pt_cmpR op_eq (pe_ix (ix_tupK (K := K) rfl) (pv 0) pe_int (fun _ _ => rfl)) pe_str (nomark _)) (pss_one (ps_ret (pe_cmpR op_in_seq (pe_ix (ix_tupK (K := K) rfl) (pv 1) pe_int (fun _ _ => rfl)) (pe_ix (ix_tupK (K := K) rfl) (pv 0) pe_int (fun _ _ => rfl)) (by rfl)))) pss_nil)
      (pss_cons (ps_if (pt_cmpR (op_inK (K := K) rfl) pe_non (pv 1) (by rfl)) (pss_one (ps_ret pe_bl)) pss_nil)
      (pss_cons (ps_if (pt_cmpR op_eq (pe_ix (ix_tupK (K := K) rfl) (pv 0) pe_int (fun _ _ => rfl)) pe_str (nomark _)) (pss_one (ps_ret (pe_cmpR op_eq (pe_op op_mod (pe_callTy call_int1 (by rfl) hI (by decide +kernel) (pa_cons (pe_ix (ix_tupK (K := K) rfl) (pv 1) pe_int (fun _ _ => rfl)) pa_nil)) (pe_ix (ix_tupK (K := K) rfl) (pv 0) pe_int (fun _ _ => rfl))) (pe_ix (ix_tupK (K := K) rfl) (pv 0) pe_int (fun _ _ => rfl)) (nomark _)))) pss_nil)
      (pss_one (ps_ret (pe_chain (op_lePr (hu_of hr)) (op_ltPr (hu_of hr)) (pe_call GO.ok hr rfl GO.g GO.k GO.b .nil pass0 (pa_cons (pe_ix (ix_tupK (K := K) rfl) (pv 0) pe_int (fun _ _ => rfl)) pa_nil)) (pe_call GO.ok hr rfl GO.g GO.k GO.b .nil pass0 (pa_cons (pv 1) pa_nil)) (pe_call GO.ok hr rfl GO.g GO.k GO.b .nil pass0 (pa_cons (pe_ix (ix_tupK (K := K) rfl) (pv 0) pe_int (fun _ _ => rfl)) pa_nil))))))))), ?_⟩
    have fin : ∀ H' v, Same H H' → holdsB b ds = v → Q (.bl v) H' := fun H' v s' e => by
      rw [← e]
      exact k H' s'
    cases b with
    | vls es =>
      obtain ⟨y, h1, h2⟩ := ha
      obtain ⟨hv, b0, hk0, hk⟩ := hb
      subst hk0
      have ld : ds.length = 1 := hp.l
      match ds, ld, hp, hx, fin with
      | [d], _, hp, hx, fin =>
        have vk : valK b0 d = true := hp.t 0 _ _ rfl rfl
        refine ⟨_, rfl, a, _, 0, .str "values", rfl, rfl, h1, rfl, rfl, _, rfl, ?_⟩
        refine itF (by decide +kernel) ?_
        refine ⟨_, rfl, a, _, 0, .str "values", rfl, rfl, h1, rfl, rfl, _, rfl, ?_⟩
        refine itT (by decide +kernel) ?_
        refine ⟨_, rfl, x, _, 0, vD d, rfl, rfl, hx, rfl, _, rfl, a, _, 1, .ref y, rfl, rfl, h1, rfl, y, es.map vD, rfl, .inr h2, by cases d <;> rfl, ?_, fin _ _ (Same.refl H) ?_⟩
        · rw [List.all_map]
          exact List.all_eq_true.mpr fun d _ => by show flatV (vD d) = true; cases d <;> rfl
        · show (valD d && inV (vD d) (es.map vD)) = inV (vD d) (es.map vD)
          rw [valK_val vk, Bool.true_and]
    | rst m r =>
      have h1 : SqT K H a [.str "rest", .int m, .int r] := ha
      obtain ⟨hb, hk0⟩ := hb
      subst hk0
      have ld : ds.length = 1 := hp.l
      match ds, ld, hp, hx, fin with
      | [d], _, hp, hx, fin =>
        have vk : valK false d = true := hp.t 0 _ _ rfl rfl
        refine ⟨_, rfl, a, _, 0, .str "rest", rfl, rfl, h1, rfl, rfl, _, rfl, ?_⟩
        refine itF (by decide +kernel) ?_
        refine ⟨_, rfl, a, _, 0, .str "rest", rfl, rfl, h1, rfl, rfl, _, rfl, ?_⟩
        refine itF (by decide +kernel) ?_
        refine ⟨_, rfl, x, _, rfl, .inr hx, rfl, hp.flat, _, rfl, ?_⟩
        have m1 : 1 < m := by
          have z := (Bool.and_eq_true_iff.mp (Bool.and_eq_true_iff.mp (Bool.and_eq_true_iff.mp hb).2).1).1
          exact of_decide_eq_true z
        cases d with
        | none =>
          refine itT rfl ?_
          exact fin _ _ (Same.refl H) rfl
        | int i =>
          refine itF rfl ?_
          have ni : isN (.int i) = true := by
            have z : (true && isN (.int i)) = true := vk
            rw [Bool.true_and] at z
            exact z
          refine ⟨_, rfl, a, _, 0, .str "rest", rfl, rfl, h1, rfl, rfl, _, rfl, ?_⟩
          refine itT (by decide +kernel) ?_
          refine ⟨_, rfl, x, _, 0, .int i, rfl, rfl, hx, rfl, .inl ⟨i, rfl, ?_⟩⟩
          refine ⟨_, rfl, a, _, 1, .int m, rfl, rfl, h1, rfl, i, m, rfl, rfl, by omega, _, rfl, a, _, 2, .int r, rfl, rfl, h1, rfl, rfl, ?_⟩
          refine fin _ _ (Same.refl H) ?_
          show (isN (.int i) && decide (i % m = r)) = decide (V.int (i % m) = V.int r)
          rw [ni, Bool.true_and]
          exact decide_eq_decide.mpr ⟨fun z => by rw [z], fun z => V.int.inj z⟩
        | str s =>
          exact absurd (show (false && wordS s) = true from vk) (by rw [Bool.false_and]; exact Bool.false_ne_true)
        | bool _ => exact Bool.noConfusion vk
        | list _ => exact Bool.noConfusion vk
        | tuple _ => exact Bool.noConfusion vk
        | dict _ => exact Bool.noConfusion vk
    | rng es fs =>
      obtain ⟨y, z, h1, h2, h3⟩ := ha
      obtain ⟨⟨f1, f2⟩, ⟨o1, o2⟩, ⟨e1, e2⟩, lt, l1, l2⟩ := hb
      refine ⟨_, rfl, a, _, 0, .str "range", rfl, rfl, h1, rfl, rfl, _, rfl, ?_⟩
      refine itF (by decide +kernel) ?_
      refine ⟨_, rfl, a, _, 0, .str "range", rfl, rfl, h1, rfl, rfl, _, rfl, ?_⟩
      refine itF (by decide +kernel) ?_
      refine ⟨_, rfl, x, _, rfl, .inr hx, rfl, hp.flat, _, rfl, ?_⟩
      have eI : inR es fs (.tuple ds) = (ds.all nwD && ((agr (ds.map enOf) es && agr (ds.map enOf) fs) && (leEs es (ds.map enOf) && ltEs (ds.map enOf) fs))) := by
        show ((true && decide (ds.length = es.length)) && _) = _
        rw [hp.l, f1.l, decide_eq_true rfl]
        rfl
      show if inV .non (ds.map vD) = true then _ else _
      rw [hp.non]
      cases hn : ds.any nonD with
      | true =>
        refine iteT ?_
        refine fin _ _ (Same.refl H) ?_
        show inR es fs (.tuple ds) = false
        rw [eI, hp.nw, hn]
        rfl
      | false =>
        refine iteF ?_
        obtain ⟨ex, og, fg⟩ := hp.ens hn
        rw [hp.nw, hn] at eI
        rw [ex] at hx
        generalize ds.map enOf = gs at hx og fg eI
        rw [fg.agr f1, fg.agr f2, Bool.and_self, Bool.true_and] at eI
        refine ⟨_, rfl, a, _, 0, .str "range", rfl, rfl, h1, rfl, rfl, _, rfl, ?_⟩
        refine itF (by decide +kernel) ?_
        refine ⟨_, rfl, a, _, 1, .ref y, rfl, rfl, h1, rfl, y, es, rfl, h2, o1, by rw [f1.l]; omega, fun p1 as1 H1 _ s1 hp1 pa1 => ?_⟩
        refine ⟨_, rfl, x, gs, rfl, sqT_same hx s1, og, by rw [fg.l]; omega, fun p2 as2 H2 _ s2 hp2 pa2 => ?_⟩
        have s12 := s1.trans s2
        refine ⟨p1, p2, as1, as2, es, gs, rfl, rfl, SqL.of (s2 _ _ hp1), SqL.of hp2, pa1.same s2, pa2, f1.agr fg, _, rfl, ?_⟩
        cases g3 : leEs es gs with
        | false =>
          refine iteF ?_
          refine fin _ _ s12 ?_
          show inR es fs (.tuple ds) = false
          rw [eI, g3]
          rfl
        | true =>
          refine iteT ?_
          refine ⟨_, rfl, a, _, 2, .ref z, rfl, rfl, sqT_same h1 s12, rfl, z, fs, rfl, sqT_same h3 s12, o2, by rw [f2.l]; omega, fun p3 as3 H3 _ s3 hp3 pa3 => ?_⟩
          refine ⟨p2, p3, as2, as3, gs, fs, rfl, rfl, SqL.of (s3 _ _ hp2), SqL.of hp3, pa2.same s3, pa3, fg.agr f2, fin _ _ (s12.trans s3) ?_⟩
          show inR es fs (.tuple ds) = ltEs gs fs
          rw [eI, g3]
          rfl
end
end K26
set_option Elab.async false
set_option linter.all false
set_option maxRecDepth 100000
set_option maxHeartbeats 4000000
/-! _law_next -/
namespace K26
open K34 PySem PySem.Spec PyProof.Rows L2 StX
theorem tw_next {α : Type} {p : α → Bool} : ∀ (l : List α) (c : α), l[(l.takeWhile p).length]? = some c → p c = false
  | [], c, h => by cases h
  | x :: l, c, h => by
    cases hp : p x with
    | true =>
      rw [List.takeWhile_cons_of_pos hp, List.length_cons, List.getElem?_cons_succ] at h
      exact tw_next l c h
    | false =>
      rw [List.takeWhile_cons_of_neg (by rw [hp]; exact Bool.false_ne_true), List.length_nil, List.getElem?_cons_zero] at h
      cases h
      exact hp
theorem tw_le {α : Type} {p : α → Bool} (l : List α) : (l.takeWhile p).length ≤ l.length := (List.takeWhile_sublist p).length_le
theorem stem_of (x : Str) : ∃ n, n ≤ x.length ∧ (Txt.rstripChars x "z").cps.toList = x.cps.toList.take n ∧ ∀ c, 0 < n → x.cps.toList[n - 1]? = some c → c ≠ 122 := by
  have lx : x.cps.toList.length = x.length := Array.length_toList
  have tl := tw_le (p := ("z" : Str).cps.contains) x.cps.toList.reverse
  rw [List.length_reverse, lx] at tl
  refine ⟨x.length - (x.cps.toList.reverse.takeWhile ("z" : Str).cps.contains).length, Nat.sub_le _ _, ?_, fun c h0 hc => ?_⟩
  · unfold Txt.rstripChars Txt.stripBy
    have e0 : stripLo ("z" : Str).cps.contains false x = 0 := rfl
    have e1 : stripHi ("z" : Str).cps.contains true x 0 = x.length - (x.cps.toList.reverse.takeWhile ("z" : Str).cps.contains).length := rfl
    split
    · rename_i h
      unfold stripSame at h
      rw [e0, e1] at h
      have h2 := (Bool.and_eq_true_iff.mp h).2
      have h2 := eq_of_beq h2
      rw [h2, ← lx, List.take_length]
    · unfold stripped
      rw [e0, e1]
      show (x.cps.extract 0 _).toList = _
      rw [Array.toList_extract, List.extract_eq_drop_take]
      simp
  · have hc2 : x.cps.toList.reverse[(x.cps.toList.reverse.takeWhile ("z" : Str).cps.contains).length]? = some c := by
      rw [List.getElem?_reverse (by rw [lx]; omega), ← hc, lx]
      congr 1
      omega
    have z := tw_next _ _ hc2
    rintro rfl
    revert z
    decide +kernel
theorem occ_abc (c : Nat) (h : lowN c = true) : Builtin.Str.occurrences abcS ⟨#[c]⟩ 0 abcS.length 1 = [c - 97] := by
  have g : ∀ c : Fin 128, lowN c.val = true → Builtin.Str.occurrences abcS ⟨#[c.val]⟩ 0 abcS.length 1 = [c.val - 97] := by decide +kernel
  have l : c < 128 := by
    unfold lowN at h
    have := of_decide_eq_true (Bool.and_eq_true_iff.mp h).2
    omega
  exact g ⟨c, l⟩ h
theorem abc_at (c : Nat) (h : lowN c = true) (n : c ≠ 122) : abcS.cps.toList[c - 97 + 1]? = some (c + 1) := by
  have g : ∀ c : Fin 128, lowN c.val = true → c.val ≠ 122 → abcS.cps.toList[c.val - 97 + 1]? = some (c.val + 1) := by decide +kernel
  have l : c < 128 := by
    unfold lowN at h
    have := of_decide_eq_true (Bool.and_eq_true_iff.mp h).2
    omega
  exact g ⟨c, l⟩ h n
def spNext : Sp := fun vs H Q _ => ∃ s : Str, vs = [.str s] ∧ wordS s = true ∧ ∀ v, (v = .non ∨ ∃ r : Str, v = .str r ∧ wordS r = true) → Q v H
theorem scNext : FnScope ["_law_value_here", "_law_stem", "_law_letters"] ["_law_value_here"] (defScope sNext) := ⟨rfl, rfl, rfl, by decide +kernel, rfl, by decide +kernel, by decide +kernel⟩
theorem wordS_of {s : Str} (h : wordS s = true) : 1 ≤ s.length ∧ s.length ≤ 8 ∧ ∀ c ∈ s.cps.toList, lowN c = true := by
  unfold wordS at h
  obtain ⟨h1, h2⟩ := Bool.and_eq_true_iff.mp h
  obtain ⟨h2, h3⟩ := Bool.and_eq_true_iff.mp h2
  exact ⟨of_decide_eq_true h1, of_decide_eq_true h2, List.all_eq_true.mp h3⟩
theorem wordS_mk {s : Str} (h1 : 1 ≤ s.length) (h2 : s.length ≤ 8) (h3 : ∀ c ∈ s.cps.toList, lowN c = true) : wordS s = true := by
  unfold wordS
  rw [decide_eq_true h1, decide_eq_true h2, List.all_eq_true.mpr h3]
  rfl
section
variable {P : Program} {w : World} {K : PySem.W.Frag} {mg : Str → Option Value} {base : Heap} {f : Addr} {fd : FuncData}
theorem ok_next (F : FnP K "_law_next" sNext f fd) (T : TxW mg) : FnOk P w K mg base CX0 1 f fd ["_law_value_here"] spNext := by
  refine F.ok scNext (fun vs H Q E h => ?_) (fun cdv A outer s H vs Q E hr h => ?_)
  · obtain ⟨s, rfl, _⟩ := h
    rfl
  · obtain ⟨x, rfl, hw, k⟩ := h
    have nd := scNext.nd
    obtain ⟨w1, w2, w3⟩ := wordS_of hw
    refine ⟨_, PSs.nox (pss_cons (ps_if (pt_not (pt_val (pe_callB call_isi (by rfl) T.isi (by decide +kernel) (pa_cons (pv 0) (pa_cons (pe_bltn (v := .ty "str") (by rfl) T.str (by decide +kernel) rfl) pa_nil))))) pss_no pss_nil)
      (pss_cons (ps_if (pt_cmpR op_lt (pe_callB call_len_str (by rfl) T.len (by decide +kernel) (pa_cons (pv 0) pa_nil)) pe_int (nomark _)) (pss_one (ps_ret (pe_op op_add_str (pv 0) pe_str))) pss_nil)
      (pss_cons (ps_par (i := 1) (j := 2) rfl nd rfl rfl (by decide) rfl rfl (pa_cons (pe_bm PySem.F.plainAttrs_str PySem.F.slot_str_rstrip PySem.F.type_str_rstrip mt_rstripChars (pv 0) (pa_cons pe_str pa_nil)) (pa_cons pe_str pa_nil)) (by rfl))
      (pss_one (ps_ret (pe_ifExp (pt_cmpR op_ne (pv 1) pe_str (nomark _)) (pe_op op_add_str (pe_slice sl_str (pv 1) po_none (po_some (pe_un un_neg pe_int))) (pe_ix ix_str (pv 2) (pe_op op_add (pe_bm PySem.F.plainAttrs_str PySem.F.slot_str_index PySem.F.type_str_index mt_sindex (pv 2) (pa_cons (pe_ix ix_str (pv 1) (pe_un un_neg pe_int) (fun _ _ => rfl)) pa_nil)) pe_int) (fun _ _ => rfl))) pe_non)))))), ?_⟩
    refine ⟨_, rfl, .str x, .ty "str", .type "str", _, true, rfl, .ty _, th_ty (.dp (.str x) rfl), kit_ty (kit_str (.str x)), _, rfl, ?_⟩
    refine iteF ?_
    refine ⟨_, rfl, x, rfl, by rw [sizeLine_eq]; omega, _, _, rfl, rfl, _, rfl, ?_⟩
    by_cases l8 : x.length < 8
    · refine itT (decide_eq_true (by omega)) ?_
      refine ⟨_, rfl, x, "a", rfl, rfl, by rw [sizeLine_eq]; show x.length + 1 ≤ _; omega, k _ (.inr ⟨_, rfl, ?_⟩)⟩
      refine wordS_mk ?_ ?_ fun c hc => ?_
      · have z := congrArg List.length (cps_app x "a")
        rw [List.length_append, Array.length_toList, Array.length_toList] at z
        have z : (x ++ ("a" : Str)).length = x.length + 1 := z
        omega
      · have z := congrArg List.length (cps_app x "a")
        rw [List.length_append, Array.length_toList, Array.length_toList] at z
        have z : (x ++ ("a" : Str)).length = x.length + 1 := z
        omega
      · rw [cps_app] at hc
        rcases List.mem_append.mp hc with hc | hc
        · exact w3 c hc
        · have hc : c ∈ [97] := hc
          rw [List.mem_singleton.mp hc]
          decide
    · refine itF (decide_eq_false (by omega)) ?_
      refine ⟨_, rfl, rfl, x, "z", rfl, rfl, by rw [sizeLine_eq]; omega, _, _, rfl, ?_⟩
      obtain ⟨n, hn, et, hl⟩ := stem_of x
      generalize Txt.rstripChars x "z" = st at et ⊢
      have lx : x.cps.toList.length = x.length := Array.length_toList
      have ls : st.length = n := by
        have := congrArg List.length et
        rw [List.length_take, Array.length_toList] at this
        show st.cps.size = n
        omega
      refine ⟨_, rfl, rfl, _, rfl, ?_⟩
      by_cases n0 : n = 0
      · have e : st = "" := str_ext (by rw [et, n0]; rfl)
        refine itF (by rw [e]; rfl) ?_
        exact k _ (.inl rfl)
      · have ne : st ≠ "" := fun z => n0 (by rw [← ls, z]; rfl)
        refine itT (by rw [decide_eq_false (fun z => ne (V.str.inj z))]; rfl) ?_
        obtain ⟨c, hc⟩ : ∃ c, x.cps.toList[n - 1]? = some c := ⟨_, List.getElem?_eq_getElem (by omega)⟩
        have cl := w3 c (List.mem_of_getElem? hc)
        have cn := hl c (by omega) hc
        have hst : st.cps.toList[n - 1]? = some c := by rw [et, List.getElem?_take_of_lt (by omega)]; exact hc
        have n9 : n ≤ 8 := by omega
        have li : st.cps.toList.length = n := by rw [Array.length_toList]; exact ls
        have az : atI st.cps.toList (-1) = some c := by
          unfold atI ixN
          rw [if_neg (by decide), li]
          rw [if_pos (by omega)]
          show st.cps.toList[_]? = some c
          rw [← hst]
          congr 1
          omega
        have c97 : 97 ≤ c := by
          unfold lowN at cl
          exact of_decide_eq_true (Bool.and_eq_true_iff.mp cl).1
        refine ⟨_, rfl, np ⟨_, rfl, _, rfl, st, rfl, by rw [sizeLine_eq]; omega, ?_⟩⟩
        have a97 : atI abcS.cps.toList (((c - 97 : Nat) : Int) + 1) = some (c + 1) := by
          have z := abc_at c cl cn
          have e : (((c - 97 : Nat) : Int) + 1) = ((c - 97 + 1 : Nat) : Int) := by omega
          rw [e]
          exact atI_nat z
        refine ⟨_, rfl, _, rfl, rfl, _, rfl, _, rfl, st, -1, c, rfl, rfl, by rw [sizeLine_eq]; omega, az, abcS, ⟨#[c]⟩, c - 97, [], rfl, rfl, occ_abc c cl, _, _, rfl, rfl, abcS, _, c + 1, rfl, rfl, (by rw [sizeLine_eq]; decide +kernel), a97, ?_⟩
        have ec : (cutS st none (some (-1))).cps.toList = x.cps.toList.take (n - 1) := by
          unfold cutS
          have e1 : HT.sIx st.length 0 none = 0 := rfl
          have e2 : HT.sIx st.length st.length (some (-1)) = n - 1 := by
            rw [ls]
            unfold HT.sIx
            simp
            omega
          rw [e1, e2]
          show ((st.cps.toList.drop 0).take (n - 1 - 0)) = _
          rw [List.drop_zero, et, List.take_take]
          congr 1
          omega
        have lc : (cutS st none (some (-1))).length = n - 1 := by
          have := congrArg List.length ec
          rw [List.length_take, Array.length_toList] at this
          show (cutS st none (some (-1))).cps.size = n - 1
          omega
        refine ⟨_, _, rfl, rfl, by rw [lc, sizeLine_eq]; show n - 1 + 1 ≤ _; omega, k _ (.inr ⟨_, rfl, ?_⟩)⟩
        have la : (cutS st none (some (-1)) ++ (⟨#[c + 1]⟩ : Str)).length = n := by
          have z := congrArg List.length (cps_app (cutS st none (some (-1))) ⟨#[c + 1]⟩)
          rw [List.length_append, ec, List.length_take, Array.length_toList] at z
          show (cutS st none (some (-1)) ++ (⟨#[c + 1]⟩ : Str)).cps.size = n
          have e1 : ([c + 1] : List Nat).length = 1 := rfl
          have z : _ = min (n - 1) x.cps.toList.length + 1 := z
          omega
        refine wordS_mk (by omega) (by omega) fun d hd => ?_
        rw [cps_app, ec] at hd
        rcases List.mem_append.mp hd with hd | hd
        · exact w3 d (List.mem_of_mem_take hd)
        · have hd : d ∈ [c + 1] := hd
          rw [List.mem_singleton.mp hd]
          unfold lowN at cl ⊢
          obtain ⟨z1, z2⟩ := Bool.and_eq_true_iff.mp cl
          have z1 := of_decide_eq_true z1
          have z2 := of_decide_eq_true z2
          rw [decide_eq_true (by omega), decide_eq_true (by omega)]
          rfl
end
end K26
set_option Elab.async false
set_option linter.all false
set_option maxRecDepth 100000
set_option maxHeartbeats 4000000
/-! _law_cut_columns -/
namespace K26
open K34 PySem PySem.Spec PyProof.Rows L2 StX
inductive Mn where | rng | vls | rst
def mnS : Mn → Str
  | .rng => "range" | .vls => "values" | .rst => "rest"
def MnOk (ks : List Bool) : Mn → Prop
  | .rng => ks.length = 1 ∨ ks.length = 2
  | .vls => ks.length = 1
  | .rst => ks = [false]
/-- columns at their addresses -/
def ColAt (K : PySem.W.Frag) (H : Hp) (c : Addr × Bool) : Prop := ∃ (n : Str) (r : Bool), SqT K H c.1 [.str n, kV c.2, .bl r]
abbrev refsC (cs : List (Addr × Bool)) : List V := cs.map fun c => V.ref c.1
def spCols (K : PySem.W.Frag) : Sp := fun vs H Q _ => ∃ (p c : Addr) (ns : List Int) (t l : Int) (m : Mn), vs = [.ref p, .str (mnS m)] ∧ PenAt H p c ns t l ∧ t + 20 < 1000000000000 ∧
  ∀ (q : Addr) (cs : List (Addr × Bool)) (t' l' : Int) (H' : Hp), (∀ c ∈ cs, ColAt K H' c) → MnOk (cs.map (·.2)) m → t' ≤ t + 10 → PenAt H' p c ns t' l' → But p H H' → H' q = some (.lst (refsC cs)) → Q (.ref q) H'
theorem scCols : FnScope ["_law_pen_here", "_law_manner", "_law_names", "_law_many", "_law_name"] ["_law_pen_here", "_law_manner"] (defScope sCutCols) := ⟨rfl, rfl, rfl, by decide +kernel, rfl, by decide +kernel, by decide +kernel⟩
theorem ColAt.same {K : PySem.W.Frag} {H H' : Hp} {c : Addr × Bool} (h : ColAt K H c) (s : Same H H') : ColAt K H' c := let ⟨n, r, z⟩ := h; ⟨n, r, sqT_same z s⟩
theorem ColAt.but {K : PySem.W.Frag} {H H' : Hp} {c : Addr × Bool} {p cc : Addr} {t l : Int} (h : ColAt K H c) (hp : H p = some (.dK (penK cc t l))) (b : But p H H') : ColAt K H' c := let ⟨n, r, z⟩ := h; ⟨n, r, sqT_but hp b z⟩
section
variable {P : Program} {w : World} {K : PySem.W.Frag} {mg : Str → Option Value} {base : Heap} {f : Addr} {fd : FuncData}
theorem ok_cols (F : FnP K "_law_cut_columns" sCutCols f fd) (T : TxB mg) (GD : Fn1 P w K mg base 1 "_law_draw" ["_law_pen_here", "_law_many"] spDraw) (GP : Fn1 P w K mg base 2 "_law_pick" ["_law_pen_here", "_law_options"] (spPick K)) :
    FnOk P w K mg base CX0 3 f fd ["_law_pen_here", "_law_manner"] (spCols K) := by
  refine F.ok scCols (fun vs H Q E h => ?_) (fun cdv A outer s H vs Q E hr h => ?_)
  · obtain ⟨p, c, ns, t, l, m, rfl, _⟩ := h
    rfl
  · obtain ⟨p, c, ns, t, l, m, rfl, D, ht, k⟩ := h
    have nd := scCols.nd
    have hr1 : Room 1 _ := hr.mono (by decide)
    refine ⟨_, PSs.nox (pss_cons (ps_set (i := 2) nd rfl (Or.inl rfl) (pe_call GP.ok hr rfl GP.g GP.k GP.b .nil pass0 (pa_cons (pv 0) (pa_cons (pe_lst (pa_cons (pe_lst (pa_cons pe_str (pa_cons pe_str pa_nil))) (pa_cons (pe_lst (pa_cons pe_str (pa_cons pe_str pa_nil))) (pa_cons (pe_lst (pa_cons pe_str (pa_cons pe_str pa_nil))) pa_nil)))) pa_nil))))
      (pss_cons (ps_if (pt_cmpR op_eq (pv 1) pe_str (nomark _)) (pss_one (ps_ret (pe_lst (pa_cons (pe_tup (pa_cons (pe_ix ix_list (pv 2) pe_int (fun _ _ => rfl)) (pa_cons pe_str (pa_cons (pe_cmpR op_eq (pe_call GD.ok hr1 rfl GD.g GD.k GD.b .nil pass0 (pa_cons (pv 0) (pa_cons pe_int pa_nil))) pe_int (nomark _)) pa_nil)))) pa_nil)))) pss_nil)
      (pss_cons (ps_set (i := 3) nd rfl (Or.inl rfl) (pe_op op_add pe_int (pe_callTy call_int1 (by rfl) T.int (by decide +kernel) (pa_cons (pe_and (pe_cmpR op_eq (pv 1) pe_str (nomark _)) (pe_one (pe_cmpR op_eq (pe_call GD.ok hr1 rfl GD.g GD.k GD.b .nil pass0 (pa_cons (pv 0) (pa_cons pe_int pa_nil))) pe_int (nomark _)))) pa_nil))))
      (pss_one (ps_ret (pe_lc (own := [("_law_name", 4)]) (g := gName 4) (tt := tYes) rfl nd (pi_list (pe_slice sl_list (pv 2) po_none (po_some (pv 3)))) (blkOk_by (N := ["_law_pen_here", "_law_manner", "_law_names", "_law_many", "_law_name"]) (sc := defScope sCutCols) (by decide +kernel)) (fun _ _ _ _ _ => pg_name (i := 4) nd rfl (Or.inl rfl)) (fun _ _ _ _ _ => pts_nil)
        (fun _ _ _ _ _ => pe_tup (pa_cons (pv 4) (pa_cons (pe_call GP.ok hr rfl GP.g GP.k GP.b .nil pass0 (pa_cons (pv 0) (pa_cons (pe_lst (pa_cons pe_str (pa_cons pe_str (pa_cons pe_str pa_nil)))) pa_nil))) (pa_cons (pe_cmpR op_eq (pe_call GD.ok hr1 rfl GD.g GD.k GD.b .nil pass0 (pa_cons (pv 0) (pa_cons pe_int pa_nil))) pe_int (nomark _)) pa_nil)))))))))), ?_⟩
    refine ⟨_, rfl, (by show 2 ≤ sizeLine; decide), fun a1 n1 => ⟨(by show 2 ≤ sizeLine; decide), fun a2 n2 => ⟨(by show 2 ≤ sizeLine; decide), fun a3 n3 => ⟨(by show 3 ≤ sizeLine; decide), fun q nq => ?_⟩⟩⟩⟩
    have s1 := same_new (o := .lst [.str "a", .str "b"]) (Same.refl H) n1
    have x1 : (upd H a1 (.lst [.str "a", .str "b"])) a1 = some (.lst [.str "a", .str "b"]) := upd_same
    generalize upd H a1 (.lst [.str "a", .str "b"]) = H1 at s1 x1 n2 n3 nq ⊢
    have s2 := same_new (o := .lst [.str "size", .str "b"]) (Same.refl H1) n2
    have x2 : (upd H1 a2 (.lst [.str "size", .str "b"])) a2 = some (.lst [.str "size", .str "b"]) := upd_same
    generalize upd H1 a2 (.lst [.str "size", .str "b"]) = H2 at s2 x2 n3 nq ⊢
    have s3 := same_new (o := .lst [.str "zz", .str "zy"]) (Same.refl H2) n3
    have x3 : (upd H2 a3 (.lst [.str "zz", .str "zy"])) a3 = some (.lst [.str "zz", .str "zy"]) := upd_same
    generalize upd H2 a3 (.lst [.str "zz", .str "zy"]) = H3 at s3 x3 nq ⊢
    have s4 := same_new (o := .lst [.ref a1, .ref a2, .ref a3]) (Same.refl H3) nq
    have x4 : (upd H3 q (.lst [.ref a1, .ref a2, .ref a3])) q = some (.lst [.ref a1, .ref a2, .ref a3]) := upd_same
    generalize upd H3 q (.lst [.ref a1, .ref a2, .ref a3]) = H4 at s4 x4 ⊢
    have s14 := ((s1.trans s2).trans s3).trans s4
    refine ⟨p, c, q, ns, t, l, _, rfl, D.same s14, by omega, SqL.of x4, by simp, (by show 3 < 1000000; decide), fun x t5 l5 H5 hx h5 D5 b5 => ?_⟩
    obtain ⟨nm, w0, w1, rfl, hnm⟩ : ∃ (nm : Addr) (w0 w1 : Str), x = .ref nm ∧ H5 nm = some (.lst [.str w0, .str w1]) := by
      have np : ∀ {b o}, H4 b = some (.lst o) → b ≠ p := fun e z => by rw [z, (D.same s14).d] at e; cases e
      simp only [List.mem_cons, List.not_mem_nil, or_false] at hx
      rcases hx with h | h | h
      · have z := s4 _ _ (s3 _ _ (s2 _ _ x1))
        exact ⟨a1, _, _, h, b5 _ _ (np z) z⟩
      · have z := s4 _ _ (s3 _ _ x2)
        exact ⟨a2, _, _, h, b5 _ _ (np z) z⟩
      · have z := s4 _ _ x3
        exact ⟨a3, _, _, h, b5 _ _ (np z) z⟩
    have bu5 : But p H H5 := (But.of s14).trans b5
    refine ⟨_, rfl, rfl, _, rfl, ?_⟩
    cases m with
    | rst =>
      refine itT (by decide +kernel) ?_
      refine ⟨_, rfl, nm, [.str w0, .str w1], 0, .str w0, rfl, rfl, SqL.of hnm, rfl, ?_⟩
      refine ⟨_, rfl, p, c, ns, t5, l5, 2, rfl, D5, by omega, by decide, by decide, fun j t6 l6 H6 j0 j1 h6 D6 b6 => ?_⟩
      refine ⟨rfl, (by show 3 ≤ sizeLine; decide), fun r nr => ⟨(by show 1 ≤ sizeLine; decide), fun o no => ?_⟩⟩
      have s7 := same_new (o := .tup [.str w0, .str "number", .bl (decide (V.int j = V.int 0))]) (Same.refl H6) nr
      have s8 := same_new (o := .lst [.ref r]) (Same.refl (upd H6 r (.tup [.str w0, .str "number", .bl (decide (V.int j = V.int 0))]))) no
      refine k o [(r, false)] t6 l6 _ (fun d hd => ?_) rfl (by omega) (D6.same (s7.trans s8)) ((bu5.trans b6).trans (But.of (s7.trans s8))) upd_same
      rw [List.mem_singleton.mp hd]
      exact ⟨w0, _, sqT_same (SqT.of upd_same) s8⟩
    | rng =>
      refine itF (by decide +kernel) ?_
      have npm : nm ≠ p := fun z => by rw [z, D5.d] at hnm; cases hnm
      refine ⟨_, rfl, rfl, _, rfl, ?_⟩
      refine itT (by decide +kernel) ?_
      refine ⟨_, rfl, p, c, ns, t5, l5, 2, rfl, D5, by omega, by decide, by decide, fun j t6 l6 H6 j0 j1 h6 D6 b6 => ?_⟩
      refine ⟨rfl, .inr ⟨_, rfl, _, _, rfl, rfl, ?_⟩⟩
      refine ⟨_, rfl, np ⟨_, rfl, _, rfl, nm, _, rfl, SqL.of (b6 _ _ npm hnm), fun q4 n4 => ?_⟩⟩
      cases decide (V.int j = V.int 0) with
      | true =>
        have s7 := same_new (o := .lst [V.str w0, V.str w1]) (Same.refl H6) n4
        have x7 : (upd H6 q4 (.lst [V.str w0, V.str w1])) q4 = some (.lst [V.str w0, V.str w1]) := upd_same
        have ec : cutV [V.str w0, V.str w1] none (some ((1 : Int) + if true = true then 1 else 0)) = [V.str w0, V.str w1] := rfl
        rw [ec]
        generalize upd H6 q4 (.lst [V.str w0, V.str w1]) = H7 at s7 x7 ⊢
        refine ⟨q4, rfl, ⟨_, SqL.of x7⟩, fun D0 hD => ?_⟩
        have hD : H7 D0 = none := hD
        have D7 := D6.same s7
        have np4 : q4 ≠ p := fun z => by rw [z, D7.d] at x7; cases x7
        refine lc_it (walk_list (K := K) (a := q4) (xs := [V.str w0, V.str w1])) (fun i H8 => ∃ (cs : List (Addr × Bool)) (t8 l8 : Int), H8 D0 = some (.lst (refsC cs)) ∧ cs.length = i ∧ (∀ c ∈ cs, ColAt K H8 c) ∧ PenAt H8 p c ns t8 l8 ∧ t8 ≤ t6 + 2 * (i : Int) ∧ But p H7 H8)
          ⟨[], t6, l6, upd_same, rfl, (fun c hc => by cases hc), D7.same (same_new (Same.refl H7) hD), by omega, But.of (same_new (Same.refl H7) hD)⟩ (fun i H3 _ y => by obtain ⟨_, _, _, _, _, _, _, _, y⟩ := y; exact SqL.of (y _ _ np4 x7)) ?_ ?_
        · rintro i x Hz H8 hi ⟨cs, t8, l8, y1, y2, y3, y4, y5, y6⟩ ⟨rfl, hx⟩
          have hi : i < 2 := hi
          obtain ⟨w9, rfl⟩ : ∃ w9 : Str, x = .str w9 := by
            have hx : ([V.str w0, V.str w1] : List V)[i]? = some x := hx
            match i, hx with
              | 0, hx => cases hx; exact ⟨_, rfl⟩
              | 1, hx => cases hx; exact ⟨_, rfl⟩
          have nD : D0 ≠ p := fun z => by rw [z, y4.d] at y1; cases y1
          refine ⟨rfl, ?_⟩
          unfold tYes
          dsimp only
          refine iteT ?_
          refine ⟨_, rfl, _, rfl, (by show 3 ≤ sizeLine; decide), fun b nb => ?_⟩
          have s9 := same_new (o := .lst [.str "number", .str "number", .str "word"]) (Same.refl H8) nb
          refine ⟨p, c, b, ns, t8, l8, _, rfl, y4.same s9, by omega, SqL.of upd_same, by simp, (by show 3 < 1000000; decide), fun x' t9 l9 H9 hx' h9 D9 b9 => ?_⟩
          obtain ⟨bb, rfl⟩ : ∃ bb, x' = kV bb := by
            simp only [List.mem_cons, List.not_mem_nil, or_false] at hx'
            rcases hx' with h | h | h
            · exact ⟨false, h⟩
            · exact ⟨false, h⟩
            · exact ⟨true, h⟩
          refine ⟨_, rfl, p, c, ns, t9, l9, 2, rfl, D9, by omega, by decide, by decide, fun j2 t10 l10 H10 j3 j4 h10 D10 b10 => ?_⟩
          refine ⟨rfl, (by show 3 ≤ sizeLine; decide), fun r nr => ?_⟩
          have bu8 : But p H8 H10 := ((But.of s9).trans b9).trans b10
          have s11 := same_new (o := .tup [.str w9, kV bb, .bl (decide (V.int j2 = V.int 0))]) (Same.refl H10) nr
          have x11 : (upd H10 r (.tup [.str w9, kV bb, .bl (decide (V.int j2 = V.int 0))])) r = some (.tup [.str w9, kV bb, .bl (decide (V.int j2 = V.int 0))]) := upd_same
          generalize upd H10 r (.tup [.str w9, kV bb, .bl (decide (V.int j2 = V.int 0))]) = H11 at s11 x11 ⊢
          have z11 := s11 _ _ (bu8 _ _ nD y1)
          have D11 := D10.same s11
          refine ⟨refsC cs, z11, by rw [List.length_map, sizeLine_eq]; omega, cs ++ [(r, bb)], t10, l10, by rw [upd_same]; show some (HO.lst (cs.map (fun c => V.ref c.1) ++ [V.ref r])) = some (HO.lst ((cs ++ [(r, bb)]).map fun c => V.ref c.1)); rw [List.map_append]; rfl, by rw [List.length_append, y2]; rfl, fun d hd => ?_, ?_, by push_cast; omega, fun b' o' nb' e' => ?_⟩
          · rcases List.mem_append.mp hd with hd | hd
            · obtain ⟨n0, r0, z0⟩ := ((y3 d hd).but y4.d bu8).same s11
              exact ⟨n0, r0, sqT_lst z11 z0⟩
            · rw [List.mem_singleton.mp hd]
              exact ⟨w9, _, sqT_lst z11 (SqT.of x11)⟩
          · have ncc : c ≠ D0 := fun z => by
              have := D7.c
              rw [z, hD] at this
              cases this
            exact ⟨by rw [upd_ne (Ne.symm nD)]; exact D11.d, by rw [upd_ne ncc]; exact D11.c, D11.ht, D11.hl, D11.hn⟩
          · rw [upd_ne (fun z => by rw [z, hD] at e'; cases e')]
            exact s11 _ _ (bu8 _ _ nb' (y6 _ _ nb' e'))
        · rintro H8 ⟨cs, t8, l8, y1, y2, y3, y4, y5, y6⟩
          have y2 : cs.length = 2 := y2
          have y5 : t8 ≤ t6 + 2 * ((2 : Nat) : Int) := y5
          exact k D0 cs t8 l8 H8 y3 (.inr (by rw [List.length_map]; exact y2)) (by omega) y4 (((bu5.trans b6).trans (But.of s7)).trans y6) y1
      | false =>
        have s7 := same_new (o := .lst [V.str w0]) (Same.refl H6) n4
        have x7 : (upd H6 q4 (.lst [V.str w0])) q4 = some (.lst [V.str w0]) := upd_same
        have ec : cutV [V.str w0, V.str w1] none (some ((1 : Int) + if false = true then 1 else 0)) = [V.str w0] := rfl
        rw [ec]
        generalize upd H6 q4 (.lst [V.str w0]) = H7 at s7 x7 ⊢
        refine ⟨q4, rfl, ⟨_, SqL.of x7⟩, fun D0 hD => ?_⟩
        have hD : H7 D0 = none := hD
        have D7 := D6.same s7
        have np4 : q4 ≠ p := fun z => by rw [z, D7.d] at x7; cases x7
        refine lc_it (walk_list (K := K) (a := q4) (xs := [V.str w0])) (fun i H8 => ∃ (cs : List (Addr × Bool)) (t8 l8 : Int), H8 D0 = some (.lst (refsC cs)) ∧ cs.length = i ∧ (∀ c ∈ cs, ColAt K H8 c) ∧ PenAt H8 p c ns t8 l8 ∧ t8 ≤ t6 + 2 * (i : Int) ∧ But p H7 H8)
          ⟨[], t6, l6, upd_same, rfl, (fun c hc => by cases hc), D7.same (same_new (Same.refl H7) hD), by omega, But.of (same_new (Same.refl H7) hD)⟩ (fun i H3 _ y => by obtain ⟨_, _, _, _, _, _, _, _, y⟩ := y; exact SqL.of (y _ _ np4 x7)) ?_ ?_
        · rintro i x Hz H8 hi ⟨cs, t8, l8, y1, y2, y3, y4, y5, y6⟩ ⟨rfl, hx⟩
          have hi : i < 1 := hi
          obtain ⟨w9, rfl⟩ : ∃ w9 : Str, x = .str w9 := by
            have hx : ([V.str w0] : List V)[i]? = some x := hx
            match i, hx with
              | 0, hx => cases hx; exact ⟨_, rfl⟩
          have nD : D0 ≠ p := fun z => by rw [z, y4.d] at y1; cases y1
          refine ⟨rfl, ?_⟩
          unfold tYes
          dsimp only
          refine iteT ?_
          refine ⟨_, rfl, _, rfl, (by show 3 ≤ sizeLine; decide), fun b nb => ?_⟩
          have s9 := same_new (o := .lst [.str "number", .str "number", .str "word"]) (Same.refl H8) nb
          refine ⟨p, c, b, ns, t8, l8, _, rfl, y4.same s9, by omega, SqL.of upd_same, by simp, (by show 3 < 1000000; decide), fun x' t9 l9 H9 hx' h9 D9 b9 => ?_⟩
          obtain ⟨bb, rfl⟩ : ∃ bb, x' = kV bb := by
            simp only [List.mem_cons, List.not_mem_nil, or_false] at hx'
            rcases hx' with h | h | h
            · exact ⟨false, h⟩
            · exact ⟨false, h⟩
            · exact ⟨true, h⟩
          refine ⟨_, rfl, p, c, ns, t9, l9, 2, rfl, D9, by omega, by decide, by decide, fun j2 t10 l10 H10 j3 j4 h10 D10 b10 => ?_⟩
          refine ⟨rfl, (by show 3 ≤ sizeLine; decide), fun r nr => ?_⟩
          have bu8 : But p H8 H10 := ((But.of s9).trans b9).trans b10
          have s11 := same_new (o := .tup [.str w9, kV bb, .bl (decide (V.int j2 = V.int 0))]) (Same.refl H10) nr
          have x11 : (upd H10 r (.tup [.str w9, kV bb, .bl (decide (V.int j2 = V.int 0))])) r = some (.tup [.str w9, kV bb, .bl (decide (V.int j2 = V.int 0))]) := upd_same
          generalize upd H10 r (.tup [.str w9, kV bb, .bl (decide (V.int j2 = V.int 0))]) = H11 at s11 x11 ⊢
          have z11 := s11 _ _ (bu8 _ _ nD y1)
          have D11 := D10.same s11
          refine ⟨refsC cs, z11, by rw [List.length_map, sizeLine_eq]; omega, cs ++ [(r, bb)], t10, l10, by rw [upd_same]; show some (HO.lst (cs.map (fun c => V.ref c.1) ++ [V.ref r])) = some (HO.lst ((cs ++ [(r, bb)]).map fun c => V.ref c.1)); rw [List.map_append]; rfl, by rw [List.length_append, y2]; rfl, fun d hd => ?_, ?_, by push_cast; omega, fun b' o' nb' e' => ?_⟩
          · rcases List.mem_append.mp hd with hd | hd
            · obtain ⟨n0, r0, z0⟩ := ((y3 d hd).but y4.d bu8).same s11
              exact ⟨n0, r0, sqT_lst z11 z0⟩
            · rw [List.mem_singleton.mp hd]
              exact ⟨w9, _, sqT_lst z11 (SqT.of x11)⟩
          · have ncc : c ≠ D0 := fun z => by
              have := D7.c
              rw [z, hD] at this
              cases this
            exact ⟨by rw [upd_ne (Ne.symm nD)]; exact D11.d, by rw [upd_ne ncc]; exact D11.c, D11.ht, D11.hl, D11.hn⟩
          · rw [upd_ne (fun z => by rw [z, hD] at e'; cases e')]
            exact s11 _ _ (bu8 _ _ nb' (y6 _ _ nb' e'))
        · rintro H8 ⟨cs, t8, l8, y1, y2, y3, y4, y5, y6⟩
          have y2 : cs.length = 1 := y2
          have y5 : t8 ≤ t6 + 2 * ((1 : Nat) : Int) := y5
          exact k D0 cs t8 l8 H8 y3 (.inl (by rw [List.length_map]; exact y2)) (by omega) y4 (((bu5.trans b6).trans (But.of s7)).trans y6) y1
    | vls =>
      refine itF (by decide +kernel) ?_
      have npm : nm ≠ p := fun z => by rw [z, D5.d] at hnm; cases hnm
      refine ⟨_, rfl, rfl, _, rfl, ?_⟩
      refine itF (by decide +kernel) ?_
      refine .inr ⟨_, rfl, _, _, rfl, rfl, ?_⟩
      refine ⟨_, rfl, np ⟨_, rfl, _, rfl, nm, _, rfl, SqL.of hnm, fun q4 n4 => ?_⟩⟩
      have s7 := same_new (o := .lst [V.str w0]) (Same.refl H5) n4
      have x7 : (upd H5 q4 (.lst [V.str w0])) q4 = some (.lst [V.str w0]) := upd_same
      have ec : cutV [V.str w0, V.str w1] none (some ((1 : Int) + if false = true then 1 else 0)) = [V.str w0] := rfl
      rw [ec]
      generalize upd H5 q4 (.lst [V.str w0]) = H7 at s7 x7 ⊢
      refine ⟨q4, rfl, ⟨_, SqL.of x7⟩, fun D0 hD => ?_⟩
      have hD : H7 D0 = none := hD
      have D7 := D5.same s7
      have np4 : q4 ≠ p := fun z => by rw [z, D7.d] at x7; cases x7
      refine lc_it (walk_list (K := K) (a := q4) (xs := [V.str w0])) (fun i H8 => ∃ (cs : List (Addr × Bool)) (t8 l8 : Int), H8 D0 = some (.lst (refsC cs)) ∧ cs.length = i ∧ (∀ c ∈ cs, ColAt K H8 c) ∧ PenAt H8 p c ns t8 l8 ∧ t8 ≤ t5 + 2 * (i : Int) ∧ But p H7 H8)
        ⟨[], t5, l5, upd_same, rfl, (fun c hc => by cases hc), D7.same (same_new (Same.refl H7) hD), by omega, But.of (same_new (Same.refl H7) hD)⟩ (fun i H3 _ y => by obtain ⟨_, _, _, _, _, _, _, _, y⟩ := y; exact SqL.of (y _ _ np4 x7)) ?_ ?_
      · rintro i x Hz H8 hi ⟨cs, t8, l8, y1, y2, y3, y4, y5, y6⟩ ⟨rfl, hx⟩
        have hi : i < 1 := hi
        obtain ⟨w9, rfl⟩ : ∃ w9 : Str, x = .str w9 := by
          have hx : ([V.str w0] : List V)[i]? = some x := hx
          match i, hx with
            | 0, hx => cases hx; exact ⟨_, rfl⟩
        have nD : D0 ≠ p := fun z => by rw [z, y4.d] at y1; cases y1
        refine ⟨rfl, ?_⟩
        unfold tYes
        dsimp only
        refine iteT ?_
        refine ⟨_, rfl, _, rfl, (by show 3 ≤ sizeLine; decide), fun b nb => ?_⟩
        have s9 := same_new (o := .lst [.str "number", .str "number", .str "word"]) (Same.refl H8) nb
        refine ⟨p, c, b, ns, t8, l8, _, rfl, y4.same s9, by omega, SqL.of upd_same, by simp, (by show 3 < 1000000; decide), fun x' t9 l9 H9 hx' h9 D9 b9 => ?_⟩
        obtain ⟨bb, rfl⟩ : ∃ bb, x' = kV bb := by
          simp only [List.mem_cons, List.not_mem_nil, or_false] at hx'
          rcases hx' with h | h | h
          · exact ⟨false, h⟩
          · exact ⟨false, h⟩
          · exact ⟨true, h⟩
        refine ⟨_, rfl, p, c, ns, t9, l9, 2, rfl, D9, by omega, by decide, by decide, fun j2 t10 l10 H10 j3 j4 h10 D10 b10 => ?_⟩
        refine ⟨rfl, (by show 3 ≤ sizeLine; decide), fun r nr => ?_⟩
        have bu8 : But p H8 H10 := ((But.of s9).trans b9).trans b10
        have s11 := same_new (o := .tup [.str w9, kV bb, .bl (decide (V.int j2 = V.int 0))]) (Same.refl H10) nr
        have x11 : (upd H10 r (.tup [.str w9, kV bb, .bl (decide (V.int j2 = V.int 0))])) r = some (.tup [.str w9, kV bb, .bl (decide (V.int j2 = V.int 0))]) := upd_same
        generalize upd H10 r (.tup [.str w9, kV bb, .bl (decide (V.int j2 = V.int 0))]) = H11 at s11 x11 ⊢
        have z11 := s11 _ _ (bu8 _ _ nD y1)
        have D11 := D10.same s11
        refine ⟨refsC cs, z11, by rw [List.length_map, sizeLine_eq]; omega, cs ++ [(r, bb)], t10, l10, by rw [upd_same]; show some (HO.lst (cs.map (fun c => V.ref c.1) ++ [V.ref r])) = some (HO.lst ((cs ++ [(r, bb)]).map fun c => V.ref c.1)); rw [List.map_append]; rfl, by rw [List.length_append, y2]; rfl, fun d hd => ?_, ?_, by push_cast; omega, fun b' o' nb' e' => ?_⟩
        · rcases List.mem_append.mp hd with hd | hd
          · obtain ⟨n0, r0, z0⟩ := ((y3 d hd).but y4.d bu8).same s11
            exact ⟨n0, r0, sqT_lst z11 z0⟩
          · rw [List.mem_singleton.mp hd]
            exact ⟨w9, _, sqT_lst z11 (SqT.of x11)⟩
        · have ncc : c ≠ D0 := fun z => by
            have := D7.c
            rw [z, hD] at this
            cases this
          exact ⟨by rw [upd_ne (Ne.symm nD)]; exact D11.d, by rw [upd_ne ncc]; exact D11.c, D11.ht, D11.hl, D11.hn⟩
        · rw [upd_ne (fun z => by rw [z, hD] at e'; cases e')]
          exact s11 _ _ (bu8 _ _ nb' (y6 _ _ nb' e'))
      · rintro H8 ⟨cs, t8, l8, y1, y2, y3, y4, y5, y6⟩
        have y2 : cs.length = 1 := y2
        have y5 : t8 ≤ t5 + 2 * ((1 : Nat) : Int) := y5
        exact k D0 cs t8 l8 H8 y3 (by show (cs.map (·.2)).length = 1; rw [List.length_map]; exact y2) (by omega) y4 (((bu5.trans (But.refl p H5)).trans (But.of s7)).trans y6) y1
end
end K26
set_option Elab.async false
set_option linter.all false
set_option maxRecDepth 100000
set_option maxHeartbeats 4000000
/-! _law_constants -/
namespace K26
open K34 PySem PySem.Spec PyProof.Rows L2 StX
abbrev refsD (bs : List (Addr × Bd)) : List V := bs.map fun c => V.ref c.1
/-- the law's bounds at their addresses -/
def BdsAt (K : PySem.W.Frag) (H : Hp) (ks : List Bool) (bs : List (Addr × Bd)) : Prop := ∀ c ∈ bs, BdAt K H c.1 c.2 ∧ BdOk ks c.2
theorem BdsAt.same {K : PySem.W.Frag} {H H' : Hp} {ks : List Bool} {bs : List (Addr × Bd)} (h : BdsAt K H ks bs) (s : Same H H') : BdsAt K H' ks bs := fun c hc => ⟨(h c hc).1.same s, (h c hc).2⟩
/-- a constant for a column of this kind -/
def cstE (b : Bool) (e : En) : Bool := (!isSg e && enOk e) && (isWr e == b)
def spConsts (K : PySem.W.Frag) : Sp := fun vs H Q _ => ∃ (o : Addr) (i : Nat) (b : Bool) (ks : List Bool) (bs : List (Addr × Bd)), vs = [.ref o, .int (i : Nat)] ∧ SqL K H o (refsD bs) ∧ BdsAt K H ks bs ∧ bs.length ≤ 6 ∧ ks[i]? = some b ∧
  ∀ (q : Addr) (es : List En) (H' : Hp), Same H H' → es.all (cstE b) = true → es.length ≤ 100 → H' q = some (.lst (es.map enV)) → Q (.ref q) H'
theorem scConsts : FnScope ["_law_bounds_here", "_law_place", "_law_found", "_law_bound_here", "_law_end_here", "_law_value_here"] ["_law_bounds_here", "_law_place"] (defScope sConsts) := ⟨rfl, rfl, rfl, by decide +kernel, rfl, by decide +kernel, by decide +kernel⟩
section
variable {P : Program} {w : World} {K : PySem.W.Frag} {mg : Str → Option Value} {base : Heap} {f : Addr} {fd : FuncData}
theorem ok_consts (F : FnP K "_law_constants" sConsts f fd) : FnOk P w K mg base CX0 1 f fd ["_law_bounds_here", "_law_place"] (spConsts K) := by
  refine F.ok scConsts (fun vs H Q E h => ?_) (fun cdv A outer s H vs Q E hr h => ?_)
  · obtain ⟨o, i, b, ks, bs, rfl, _⟩ := h
    rfl
  · obtain ⟨o, i, b, ks, bs, rfl, hs, hb, l6, hk, k⟩ := h
    have nd := scConsts.nd
    have hu := hu_of hr
    refine ⟨_, PSs.nox (pss_cons (ps_set (i := 2) nd rfl (Or.inl rfl) (pe_lst pa_nil))
      (pss_cons (ps_for PassesOwn.never rfl (pi_list (pv 0)) (pg_name (i := 3) nd rfl (Or.inl rfl))
        (pss_cons (ps_if (pt_cmpR op_eq (pe_ix (ix_tupK (K := K) rfl) (pv 3) pe_int (fun _ _ => rfl)) pe_str (nomark _)) (pss_one (ps_expr (pe_bm PySem.F.plainAttrs_list PySem.F.slot_list_extend PySem.F.type_list_extend mt_extend (pv 2) (pa_cons
            (pe_lc (own := [("_law_end_here", 4)]) (g := gName 4) rfl nd (pi_tup (pe_slice sl_tupE (pv 3) (po_some pe_int) po_none)) (blkOk_by (N := ["_law_bounds_here", "_law_place", "_law_found", "_law_bound_here", "_law_end_here", "_law_value_here"]) (sc := defScope sConsts) (by decide +kernel)) (fun _ _ _ _ _ => pg_name (i := 4) nd rfl (Or.inl rfl))
              (fun _ _ _ _ _ => pts_one (pt_cmpR (op_notInSK (K := K) rfl hu) (pe_ix (ix_tupK (K := K) rfl) (pv 4) (pv 1) (fun _ _ => rfl)) (pe_tup (pa_cons pe_str (pa_cons pe_str pa_nil))) (by rfl))) (fun _ _ _ _ _ => pe_ix (ix_tupK (K := K) rfl) (pv 4) (pv 1) (fun _ _ => rfl))) pa_nil)))) pss_nil)
        (pss_one (ps_if (pt_cmpR op_eq (pe_ix (ix_tupK (K := K) rfl) (pv 3) pe_int (fun _ _ => rfl)) pe_str (nomark _)) (pss_one (ps_expr (pe_bm PySem.F.plainAttrs_list PySem.F.slot_list_extend PySem.F.type_list_extend mt_extend (pv 2) (pa_cons
            (pe_lc (own := [("_law_value_here", 5)]) (g := gName 5) rfl nd (pi_tup (pe_ix (ix_tupK (K := K) rfl) (pv 3) pe_int (fun _ _ => rfl))) (blkOk_by (N := ["_law_bounds_here", "_law_place", "_law_found", "_law_bound_here", "_law_end_here", "_law_value_here"]) (sc := defScope sConsts) (by decide +kernel)) (fun _ _ _ _ _ => pg_name (i := 5) nd rfl (Or.inl rfl))
              (fun _ _ _ _ _ => pts_one (pt_cmpR op_notN (pv 5) pe_non (nomark _))) (fun _ _ _ _ _ => pv 5)) pa_nil)))) pss_nil))))
      (pss_one (ps_ret (pv 2))))), ?_⟩
    refine ⟨(by show 0 ≤ sizeLine; decide), fun q nq => ?_⟩
    have s1 := same_new (o := .lst []) (Same.refl H) nq
    have x1 : (upd H q (.lst [])) q = some (.lst []) := upd_same
    generalize upd H q (.lst []) = H1 at s1 x1 ⊢
    refine ⟨_, rfl, o, rfl, ⟨_, sqL_same hs s1⟩, ?_⟩
    refine for_it (walk_list (K := K) (a := o) (xs := refsD bs)) (fun j σ H' => (∃ v3 v4 v5 : Option V, σ = [some (.ref o), some (.int (i : Nat)), some (.ref q), v3, v4, v5]) ∧ ∃ es : List En, H' q = some (.lst (es.map enV)) ∧ es.all (cstE b) = true ∧ es.length ≤ 10 * j ∧ Same H H')
      ⟨⟨none, none, none, rfl⟩, [], x1, rfl, Nat.zero_le _, s1⟩ (fun j σ H' _ y => by obtain ⟨_, _, _, _, _, y⟩ := y; exact sqL_same hs y) ?_ ?_
    · rintro j x σ Hz H2 hj ⟨⟨v3, v4, v5, rfl⟩, es, y1, y2, y3, y4⟩ ⟨rfl, hx⟩
      have hx : (refsD bs)[j]? = some x := hx
      rw [List.getElem?_map] at hx
      obtain ⟨d, hd, rfl⟩ := Option.map_eq_some_iff.mp hx
      obtain ⟨da, dk⟩ := hb d (List.mem_of_getElem? hd)
      have da := da.same y4
      obtain ⟨ad, bd⟩ := d
      have j6 : j < 6 := by
        have hj : j < (refsD bs).length := hj
        rw [List.length_map] at hj
        omega
      have fin : ∀ (gs : List En) (H6 : Hp), Same H2 H6 → gs.all (cstE b) = true → gs.length ≤ 9 →
          ∃ es' : List En, (upd H6 q (.lst ((es ++ gs).map enV))) q = some (.lst (es'.map enV)) ∧ es'.all (cstE b) = true ∧ es'.length ≤ 10 * (j + 1) ∧ Same H (upd H6 q (.lst ((es ++ gs).map enV))) := fun gs H6 s6 g1 g2 =>
        ⟨es ++ gs, upd_same, by rw [List.all_append, y2, g1]; rfl, by rw [List.length_append]; omega, fun b' o' e' => by
          rw [upd_ne (fun z => by rw [z, nq] at e'; cases e')]
          exact s6 _ _ (y4 _ _ e')⟩
      cases bd with
      | rst m r =>
        have h1 : SqT K H2 ad [.str "rest", .int m, .int r] := da
        refine ⟨_, rfl, ad, _, 0, .str "rest", rfl, rfl, h1, rfl, rfl, _, rfl, ?_⟩
        refine itF (by decide +kernel) ?_
        refine ⟨_, rfl, ad, _, 0, .str "rest", rfl, rfl, h1, rfl, rfl, _, rfl, ?_⟩
        refine itF (by decide +kernel) ?_
        exact ⟨⟨_, _, _, rfl⟩, es, y1, y2, by omega, y4⟩
      | rng es0 fs0 =>
        obtain ⟨x, y, h1, h2, h3⟩ := da
        obtain ⟨⟨f1, f2⟩, ⟨o1, o2⟩, _⟩ := dk
        refine ⟨_, rfl, ad, _, 0, .str "range", rfl, rfl, h1, rfl, rfl, _, rfl, ?_⟩
        refine itT (by decide +kernel) ?_
        refine ⟨_, rfl, .inl ⟨rfl, _, SqL.of y1⟩, _, rfl, _, rfl, ad, _, rfl, h1, fun r H3 s3 hr3 => ?_⟩
        have hr3 : SqT K H3 r [.ref x, .ref y] := hr3
        refine ⟨r, rfl, ⟨_, hr3⟩, fun D0 hD => ?_⟩
        have hD : H3 D0 = none := hD
        refine lc_it (walk_tup (K := K) (a := r) (xs := [.ref x, .ref y])) (fun n H6 => ∃ gs : List En, H6 D0 = some (.lst (gs.map enV)) ∧ gs.all (cstE b) = true ∧ gs.length ≤ n ∧ Same H3 H6) ⟨[], upd_same, rfl, Nat.zero_le _, same_new (Same.refl H3) hD⟩ (fun n H6 _ y => by obtain ⟨_, _, _, _, y⟩ := y; exact sqT_same hr3 y) ?_ ?_
        · rintro n x' Hy H6 hn ⟨gs, z1, z2, z3, z4⟩ ⟨rfl, hx'⟩
          have hn : n < 2 := hn
          obtain ⟨u, us, rfl, hu1, hu2, hu3⟩ : ∃ (u : Addr) (us : List En), x' = .ref u ∧ SqT K H6 u (us.map enV) ∧ us.all enOk = true ∧ Fits us ks := by
            have hx' : ([V.ref x, V.ref y] : List V)[n]? = some x' := hx'
            match n, hx' with
            | 0, hx' =>
              cases hx'
              exact ⟨x, es0, rfl, sqT_same (sqT_same h2 s3) z4, o1, f1⟩
            | 1, hx' =>
              cases hx'
              exact ⟨y, fs0, rfl, sqT_same (sqT_same h3 s3) z4, o2, f2⟩
          obtain ⟨e, he⟩ : ∃ e, us[i]? = some e := ⟨_, List.getElem?_eq_getElem (by rw [hu3.l]; exact (List.getElem?_eq_some_iff.mp hk).1)⟩
          have eo := List.all_eq_true.mp hu2 e (List.mem_of_getElem? he)
          have ef := hu3.t i e b he hk
          have ea : atI (us.map enV) ((i : Nat) : Int) = some (enV e) := atI_nat (by rw [List.getElem?_map, he]; rfl)
          refine ⟨rfl, ?_⟩
          refine ⟨_, rfl, _, rfl, u, _, _, enV e, rfl, rfl, hu1, ea, (by show 2 ≤ sizeLine; decide), fun p hp => ?_⟩
          have s7 := same_new (o := .tup [.str "-", .str "+"]) (Same.refl H6) hp
          refine ⟨p, ["-", "+"], enD e, rfl, SqT.of upd_same, en_th, _, rfl, ?_⟩
          rw [isIn_sg, (ent_of eo).2]
          generalize upd H6 p (.tup [.str "-", .str "+"]) = H7 at s7 ⊢
          cases sg : isSg e with
          | true =>
            refine itF rfl ?_
            exact ⟨gs, s7 _ _ z1, z2, by omega, z4.trans s7⟩
          | false =>
            refine itT rfl ?_
            refine ⟨_, rfl, _, rfl, u, _, _, enV e, rfl, rfl, sqT_same hu1 s7, ea, ?_⟩
            refine ⟨_, s7 _ _ z1, by rw [List.length_map, sizeLine_eq]; omega, gs ++ [e], by rw [upd_same, List.map_append]; rfl, ?_, by rw [List.length_append, List.length_singleton]; omega, fun b' o' e' => ?_⟩
            · rw [List.all_append, z2]
              unfold fitE at ef
              rw [sg, Bool.false_or] at ef
              show (true && (((!isSg e && enOk e) && (isWr e == b)) && true)) = true
              rw [sg, eo, ef]
              rfl
            · rw [upd_ne (fun z => by rw [z, hD] at e'; cases e')]
              exact s7 _ _ (z4 _ _ e')
        · rintro H6 ⟨gs, z1, z2, z3, z4⟩
          have z3 : gs.length ≤ 2 := z3
          have s6 := s3.trans z4
          have hq6 := s6 _ _ y1
          refine ⟨q, D0, _, _, rfl, rfl, hq6, z1, by rw [List.length_map, List.length_map, sizeLine_eq]; omega, ?_⟩
          refine ⟨_, rfl, ad, _, 0, .str "range", rfl, rfl, sqT_lst hq6 (sqT_same h1 s6), rfl, rfl, _, rfl, ?_⟩
          refine itF (by decide +kernel) ?_
          rw [← List.map_append]
          exact ⟨⟨_, _, _, rfl⟩, fin gs H6 s6 z2 (by omega)⟩
      | vls ds =>
        obtain ⟨x, h1, h2⟩ := da
        obtain ⟨hv, b0, hk0, hkd⟩ := dk
        subst hk0
        have bb : b0 = b := by
          match i, hk with
          | 0, hk => cases hk; rfl
        subst bb
        have l8 : ds.length ≤ 8 := of_decide_eq_true (Bool.and_eq_true_iff.mp (Bool.and_eq_true_iff.mp hv).1).2
        refine ⟨_, rfl, ad, _, 0, .str "values", rfl, rfl, h1, rfl, rfl, _, rfl, ?_⟩
        refine itF (by decide +kernel) ?_
        refine ⟨_, rfl, ad, _, 0, .str "values", rfl, rfl, h1, rfl, rfl, _, rfl, ?_⟩
        refine itT (by decide +kernel) ?_
        refine ⟨_, rfl, .inl ⟨rfl, _, SqL.of y1⟩, _, rfl, ad, _, 1, .ref x, rfl, rfl, h1, rfl, ?_⟩
        refine ⟨x, rfl, ⟨_, h2⟩, fun D0 hD => ?_⟩
        have hD : H2 D0 = none := hD
        refine lc_it (walk_tup (K := K) (a := x) (xs := ds.map vD)) (fun n H6 => ∃ gs : List En, H6 D0 = some (.lst (gs.map enV)) ∧ gs.all (cstE b0) = true ∧ gs.length ≤ n ∧ Same H2 H6) ⟨[], upd_same, rfl, Nat.zero_le _, same_new (Same.refl H2) hD⟩ (fun n H6 _ y => by obtain ⟨_, _, _, _, y⟩ := y; exact sqT_same h2 y) ?_ ?_
        · rintro n x' Hy H6 hn ⟨gs, z1, z2, z3, z4⟩ ⟨rfl, hx'⟩
          have hx' : (ds.map vD)[n]? = some x' := hx'
          have hn : n < (ds.map vD).length := hn
          rw [List.length_map] at hn
          rw [List.getElem?_map] at hx'
          obtain ⟨d, hd0, rfl⟩ := Option.map_eq_some_iff.mp hx'
          have dk := List.all_eq_true.mp hkd d (List.mem_of_getElem? hd0)
          refine ⟨rfl, ?_⟩
          refine ⟨_, rfl, rfl, _, rfl, ?_⟩
          have add : ∀ e : En, cstE b0 e = true → ∃ acc : List V, H6 D0 = some (.lst acc) ∧ acc.length < sizeLine ∧ ∃ gs : List En, (upd H6 D0 (.lst (acc ++ [enV e]))) D0 = some (.lst (gs.map enV)) ∧ gs.all (cstE b0) = true ∧ gs.length ≤ n + 1 ∧ Same H2 (upd H6 D0 (.lst (acc ++ [enV e]))) := fun e he => by
            refine ⟨_, z1, by rw [List.length_map, sizeLine_eq]; omega, gs ++ [e], by rw [upd_same, List.map_append]; rfl, ?_, by rw [List.length_append, List.length_singleton]; omega, fun b' o' e' => ?_⟩
            · rw [List.all_append, z2]
              show (true && (cstE b0 e && true)) = true
              rw [he]
              rfl
            · rw [upd_ne (fun z => by rw [z, hD] at e'; cases e')]
              exact z4 _ _ e'
          cases d with
          | none =>
            refine itF rfl ?_
            exact ⟨gs, z1, z2, by omega, z4⟩
          | int m =>
            refine itT rfl ?_
            obtain ⟨w1, w2⟩ := Bool.and_eq_true_iff.mp dk
            have w1 : (!b0) = true := w1
            refine ⟨_, rfl, add (.num m) ?_⟩
            show ((true && isN (.int m)) && (false == b0)) = true
            rw [show isN (.int m) = true from w2]
            cases b0 <;> first | rfl | cases w1
          | str m =>
            refine itT rfl ?_
            obtain ⟨w1, w2⟩ := Bool.and_eq_true_iff.mp dk
            refine ⟨_, rfl, add (.wrd m) ?_⟩
            show ((true && wordS m) && (true == b0)) = true
            rw [w2, w1]
            rfl
          | bool _ => exact Bool.noConfusion dk
          | list _ => exact Bool.noConfusion dk
          | tuple _ => exact Bool.noConfusion dk
          | dict _ => exact Bool.noConfusion dk
        · rintro H6 ⟨gs, z1, z2, z3, z4⟩
          have z3 : gs.length ≤ (ds.map vD).length := z3
          rw [List.length_map] at z3
          have hq6 := z4 _ _ y1
          refine ⟨q, D0, _, _, rfl, rfl, hq6, z1, by rw [List.length_map, List.length_map, sizeLine_eq]; omega, ?_⟩
          rw [← List.map_append]
          exact ⟨⟨_, _, _, rfl⟩, fin gs H6 z4 z2 (by omega)⟩
    · rintro σ H2 ⟨⟨v3, v4, v5, rfl⟩, es, y1, y2, y3, y4⟩
      have y3 : es.length ≤ 10 * (refsD bs).length := y3
      rw [List.length_map] at y3
      exact ⟨_, rfl, k q es H2 y4 y2 (by omega) y1⟩
end
end K26
set_option Elab.async false
set_option linter.all false
set_option maxRecDepth 100000
set_option maxHeartbeats 4000000
/-! _law_bounds: its last row -/
namespace K26
open K34 PySem PySem.Spec PyProof.Rows L2 StX
def nthS (b : List Stmt) (i : Nat) : Stmt := b.getD i (.Pass ⟨0, 0, 0, 0⟩)
abbrev bBns : List Stmt := defBody sBounds
abbrev NB : List Str := ["_law_pen_here", "_law_manner", "_law_sorts", "_law_many", "_law_ends_here", "_law_found", "_law_k", "_law_values", "_law_value_here", "_law_size", "_law_first", "_law_last", "_law_bound_here"]
theorem scBns : FnScope NB ["_law_pen_here", "_law_manner", "_law_sorts", "_law_many"] (defScope sBounds) := ⟨rfl, rfl, rfl, by decide +kernel, rfl, by decide +kernel, by decide +kernel⟩
abbrev LB (P : Program) (w : World) (K : PySem.W.Frag) (mg : Str → Option Value) (base : Heap) (f : Addr) (cdv : Value) (A : Around) (outer : List Env) (s : Shared) (H : Hp) (E : XK) : Cx := (cxOf CX0 P w K mg base NB "_law_bounds" (defScope sBounds) f cdv A outer s H E).nox
theorem PSs.imp {X : Cx} {b : List Stmt} {t u : TS} (h : PSs X b t) (i : ∀ D σ H, u D σ H → t D σ H) : PSs X b u := ⟨fun pins s σ H D I z => h.run pins s σ H D I (i D σ H z)⟩
theorem BdsAt.but {K : PySem.W.Frag} {H H' : Hp} {ks : List Bool} {bs : List (Addr × Bd)} {p c : Addr} {t l : Int} (h : BdsAt K H ks bs) (hp : H p = some (.dK (penK c t l))) (s : But p H H') : BdsAt K H' ks bs := fun d hd => ⟨(h d hd).1.but hp s, (h d hd).2⟩
theorem pick_map {α β : Type} {g : α → β} {as : List α} : ∀ {ys : List β}, (∀ y ∈ ys, ∃ a ∈ as, y = g a) → ∃ bs : List α, (∀ b ∈ bs, b ∈ as) ∧ ys = bs.map g
  | [], _ => ⟨[], fun b hb => absurd hb (by simp), rfl⟩
  | y :: ys, h => by
    obtain ⟨a, ha, rfl⟩ := h y List.mem_cons_self
    obtain ⟨bs, h1, rfl⟩ := pick_map fun z hz => h z (List.mem_cons_of_mem _ hz)
    refine ⟨a :: bs, fun b hb => ?_, rfl⟩
    rcases List.mem_cons.mp hb with rfl | hb
    · exact ha
    · exact h1 b hb
theorem cut_take (xs : List V) (k : Nat) : cutV xs none (some (k : Int)) = xs.take k := by
  unfold cutV
  rw [HT.sIx_nat, HT.sIx_none, List.drop_zero, Nat.sub_zero]
  by_cases h : k ≤ xs.length
  · rw [Nat.min_eq_left h]
  · rw [Nat.min_eq_right (by omega), List.take_length, List.take_of_length_le (by omega)]
/-- what stands before the last row -/
def tBT (K : PySem.W.Frag) (ks : List Bool) : TS := fun D σ H => ∃ (p c q : Addr) (ns : List Int) (t l : Int) (bs : List (Addr × Bd)) (v1 v2 v4 v6 v7 v8 v9 v10 v11 v12 : Option V), σ = [some (.ref p), v1, v2, some (.int 6), v4, some (.ref q), v6, v7, v8, v9, v10, v11, v12] ∧ PenAt H p c ns t l ∧ t + 200 < 1000000000000 ∧ SqL K H q (refsD bs) ∧ BdsAt K H ks bs ∧ bs.length ≤ 20 ∧
  ∀ (r : Addr) (bs' : List (Addr × Bd)) (t' l' : Int) (H' : Hp), BdsAt K H' ks bs' → bs'.length ≤ 6 → t' ≤ t + 100 → PenAt H' p c ns t' l' → But p H H' → SqL K H' r (refsD bs') → D.rt (.ref r) H'
section
variable {P : Program} {w : World} {K : PySem.W.Frag} {mg : Str → Option Value} {base : Heap} {f : Addr} {cdv : Value} {A : Around} {outer : List Env} {s : Shared} {H0 : Hp} {E : XK} {ks : List Bool}
theorem bns_last (hr : Room 2 (LB P w K mg base f cdv A outer s H0 E).A) (GS : Fn1 P w K mg base 2 "_law_shuffled" ["_law_pen_here", "_law_items"] (spShuf K)) : PSs (LB P w K mg base f cdv A outer s H0 E) [nthS bBns 1] (tBT K ks) := by
  have base : PSs (LB P w K mg base f cdv A outer s H0 E) [nthS bBns 1] _ := (pss_one (ps_ret (pe_slice sl_list (pe_call GS.ok hr rfl GS.g GS.k GS.b .nil pass0 (pa_cons (pv 0) (pa_cons (pv 5) pa_nil))) po_none (po_some (pv 3)))))
  refine PSs.imp base fun D σ H h => ?_
  clear base
  obtain ⟨p, c, q, ns, t, l, bs, v1, v2, v4, v6, v7, v8, v9, v10, v11, v12, rfl, D0, ht, hs, ba, lb, k⟩ := h
  refine ⟨_, rfl, _, rfl, p, c, q, ns, t, l, refsD bs, rfl, D0, by omega, .inl hs, by rw [List.length_map]; omega, fun q2 ys t2 l2 H2 pm h2 D2 b2 nq hq2 => ?_⟩
  obtain ⟨bs', hm, rfl⟩ := pick_map (g := fun d : Addr × Bd => V.ref d.1) (as := bs) (ys := ys) (fun y hy => by
    obtain ⟨d, hd, e⟩ := List.mem_map.mp (pm.mem_iff.mp hy)
    exact ⟨d, hd, e.symm⟩)
  refine np ⟨_, rfl, _, rfl, q2, _, rfl, SqL.of hq2, fun r nr => ?_⟩
  have ec : cutV (bs'.map fun d => V.ref d.1) none (some 6) = refsD (bs'.take 6) := by
    rw [show (6 : Int) = ((6 : Nat) : Int) from rfl, cut_take]
    exact List.map_take.symm
  rw [ec]
  have s3 := same_new (o := .lst (refsD (bs'.take 6))) (Same.refl H2) nr
  refine k r (bs'.take 6) t2 l2 _ (fun d hd => ((ba.but D0.d b2).same s3) d (hm d (List.mem_of_mem_take hd))) (by rw [List.length_take]; omega) h2 (D2.same s3) (b2.trans (But.of s3)) (SqL.of upd_same)
end
end K26
set_option Elab.async false
set_option linter.all false
set_option maxRecDepth 100000
set_option maxHeartbeats 4000000
/-! _law_bounds: ranges -/
namespace K26
open K34 PySem PySem.Spec PyProof.Rows L2 StX
def ifB : Stmt → List Stmt
  | .If _ b _ _ => b
  | _ => []
def ifE : Stmt → List Stmt
  | .If _ _ b _ => b
  | _ => []
theorem cut_drop1 (xs : List V) (h : 1 ≤ xs.length) : cutV xs (some 1) none = xs.drop 1 := by
  unfold cutV
  have e0 : HT.sIx xs.length 0 (some 1) = 1 := by
    have := HT.sIx_nat xs.length 0 1
    refine this.trans ?_
    omega
  rw [e0, HT.sIx_none, List.take_of_length_le (by rw [List.length_drop]; omega)]
/-- what a branch must leave -/
def AftB (K : PySem.W.Frag) (ks : List Bool) (p c : Addr) (ns : List Int) (t : Int) (v1 v2 : Option V) (H : Hp) (D : Ends) : Prop := ∀ (q : Addr) (bs : List (Addr × Bd)) (t' l' : Int) (H' : Hp) (v4 v6 v7 v8 v9 v10 v11 v12 : Option V), PenAt H' p c ns t' l' → t' ≤ t + 800 → But p H H' → SqL K H' q (refsD bs) → BdsAt K H' ks bs → bs.length ≤ 20 →
  D.nx [some (.ref p), v1, v2, some (.int 6), v4, some (.ref q), v6, v7, v8, v9, v10, v11, v12] H'
def tBR (K : PySem.W.Frag) (ks : List Bool) : TS := fun D σ H => ∃ (p c o : Addr) (ns : List Int) (t l : Int) (v1 : Option V) (v4 v5 v6 v7 v8 v9 v10 v11 v12 : Option V), σ = [some (.ref p), v1, some (.ref o), some (.int 6), v4, v5, v6, v7, v8, v9, v10, v11, v12] ∧ PenAt H p c ns t l ∧ t + 1000 < 1000000000000 ∧ SqL K H o (ks.map kV) ∧ 1 ≤ ks.length ∧ ks.length ≤ 2 ∧ AftB K ks p c ns t v1 (some (.ref o)) H D
section
variable {P : Program} {w : World} {K : PySem.W.Frag} {mg : Str → Option Value} {base : Heap} {f : Addr} {cdv : Value} {A : Around} {outer : List Env} {s : Shared} {H0 : Hp} {E : XK} {ks : List Bool}
theorem bns_rng (hr : Room 5 (LB P w K mg base f cdv A outer s H0 E).A) (hZ : mg "zip" = none) (GD : Fn1 P w K mg base 1 "_law_draw" ["_law_pen_here", "_law_many"] spDraw) (GE : Fn1 P w K mg base 5 "_law_ends" ["_law_pen_here", "_law_sorts", "_law_many"] (spEnds K)) :
    PSs (LB P w K mg base f cdv A outer s H0 E) (ifB (nthS bBns 0)) (tBR K ks) := by
  have nd := scBns.nd
  have hr1 : Room 1 _ := hr.mono (by decide)
  have base : PSs (LB P w K mg base f cdv A outer s H0 E) (ifB (nthS bBns 0)) _ :=
    (pss_cons (ps_set (i := 4) nd rfl (Or.inl rfl) (pe_call GE.ok hr rfl GE.g GE.k GE.b .nil pass0 (pa_cons (pv 0) (pa_cons (pv 2) (pa_cons (pv 3) pa_nil)))))
    (pss_one (ps_setLc (i := 5) (own := [("_law_first", 10), ("_law_last", 11)]) (g := gTup K 2 (gCons (gName 10) (gCons (gName 11) gNil))) rfl nd rfl rfl (sw_true rfl rfl rfl (by decide +kernel)) (RZ.pi_zipA (by rfl) hZ (pa_cons (pv 4) (pa_cons (pe_slice sl_list (pv 4) (po_some pe_int) po_none) pa_nil))) (blkOk_by (N := NB) (sc := defScope sBounds) (by decide +kernel))
      (fun _ _ _ _ _ => pg_tup rfl (pgs_cons (pg_name (i := 10) nd rfl (Or.inl rfl)) (pgs_cons (pg_name (i := 11) nd rfl (Or.inl rfl)) pgs_nil)))
      (fun _ _ _ _ _ => pts_one (pt_cmpR op_gt (pe_call GD.ok hr1 rfl GD.g GD.k GD.b .nil pass0 (pa_cons (pv 0) (pa_cons pe_int pa_nil))) pe_int (nomark _)))
      (fun _ _ _ _ _ => pe_tup (pa_cons pe_str (pa_cons (pv 10) (pa_cons (pv 11) pa_nil)))))))
  refine PSs.imp base fun D σ H h => ?_
  clear base
  obtain ⟨p, c, o, ns, t, l, v1, v4, v5, v6, v7, v8, v9, v10, v11, v12, rfl, D0, ht, hs, k1, k2, k⟩ := h
  refine ⟨_, rfl, _, rfl, _, rfl, p, c, o, ns, t, l, 6, ks, rfl, D0, by omega, hs, k1, k2, by decide, by decide, fun q bs t1 l1 H1 ea pw b1 b7 h1 D1 bu1 hq1 => ?_⟩
  refine ⟨_, rfl, _, rfl, _, rfl, q, _, rfl, SqL.of hq1, fun r nr => ?_⟩
  have s2 := same_new (o := .lst (cutV (refsB bs) (some 1) none)) (Same.refl H1) nr
  have x2 : (upd H1 r (.lst (cutV (refsB bs) (some 1) none))) r = some (.lst (cutV (refsB bs) (some 1) none)) := upd_same
  have ec : cutV (refsB bs) (some 1) none = refsB (bs.drop 1) := by
    rw [cut_drop1 _ (by rw [List.length_map]; exact b1)]
    exact List.map_drop.symm
  rw [ec] at x2 s2 ⊢
  generalize upd H1 r (.lst (refsB (bs.drop 1))) = H2 at s2 x2 ⊢
  have hq2 := s2 _ _ hq1
  have D2 := D1.same s2
  have nqp : q ≠ p := fun z => by rw [z, D2.d] at hq2; cases hq2
  have nrp : r ≠ p := fun z => by rw [z, D2.d] at x2; cases x2
  have ea2 := ea.same s2
  refine ⟨q, r, refsB bs, refsB (bs.drop 1), rfl, .inl ⟨SqL.of hq2, SqL.of x2, fun DD hD => ?_⟩⟩
  have hD : H2 DD = none := hD
  refine lc_it (walk_zip (K := K) (a := q) (b := r) (xs := refsB bs) (ys := refsB (bs.drop 1)) (n := bs.length - 1) (by rw [List.length_map, List.length_map, List.length_drop]; omega)) (fun i H6 => ∃ (cs : List (Addr × Bd)) (t6 l6 : Int), H6 DD = some (.lst (refsD cs)) ∧ cs.length ≤ i ∧ BdsAt K H6 ks cs ∧ PenAt H6 p c ns t6 l6 ∧ t6 ≤ t1 + (i : Int) ∧ But p H2 H6)
    ⟨[], t1, l1, upd_same, Nat.le_refl _, (fun d hd => by cases hd), D2.same (same_new (Same.refl H2) hD), by omega, But.of (same_new (Same.refl H2) hD)⟩ (fun i H6 _ y => by obtain ⟨_, _, _, _, _, _, _, _, y⟩ := y; exact ⟨SqL.of (y _ _ nqp hq2), SqL.of (y _ _ nrp x2)⟩) ?_ ?_
  · rintro i z H6 H7 hi ⟨cs, t6, l6, y1, y2, y3, y4, y5, y6⟩ ⟨TT, x1, x2', rfl, nt, rfl, e1, e2⟩
    have hi : i < bs.length - 1 := hi
    have e1 : (refsB bs)[i]? = some x1 := e1
    have e2 : (refsB (bs.drop 1))[i]? = some x2' := e2
    rw [List.getElem?_map] at e1 e2
    obtain ⟨d1, hd1, rfl⟩ := Option.map_eq_some_iff.mp e1
    obtain ⟨d2, hd2, rfl⟩ := Option.map_eq_some_iff.mp e2
    rw [List.getElem?_drop] at hd2
    have lt12 : ltEs d1.2 d2.2 = true := by
      obtain ⟨g1, rfl⟩ := List.getElem?_eq_some_iff.mp hd1
      obtain ⟨g2, rfl⟩ := List.getElem?_eq_some_iff.mp hd2
      exact (List.pairwise_iff_getElem.mp pw) _ _ g1 g2 (by omega)
    have m1 := List.mem_of_getElem? hd1
    have m2 := List.mem_of_getElem? hd2
    have nDp : DD ≠ p := fun z => by rw [z, y4.d] at y1; cases y1
    have s7 := same_new (o := .tup [V.ref d1.1, V.ref d2.1]) (Same.refl H6) nt
    have x7 : (upd H6 TT (.tup [V.ref d1.1, V.ref d2.1])) TT = some (.tup [V.ref d1.1, V.ref d2.1]) := upd_same
    generalize upd H6 TT (.tup [V.ref d1.1, V.ref d2.1]) = H7 at s7 x7 ⊢
    refine ⟨TT, _, rfl, SqT.of x7, rfl, _, _, rfl, _, _, rfl, rfl, rfl, ?_⟩
    refine ⟨_, rfl, p, c, ns, t6, l6, 5, rfl, y4.same s7, by omega, by decide, by decide, fun j t8 l8 H8 j0 j1 h8 D8 b8 => ?_⟩
    refine ⟨_, _, rfl, rfl, _, rfl, ?_⟩
    have bu8 : But p H6 H8 := (But.of s7).trans b8
    have z8 := bu8 _ _ nDp y1
    by_cases jp : 0 < j
    · refine itT (decide_eq_true jp) ?_
      refine ⟨_, rfl, _, rfl, (by show 3 ≤ sizeLine; decide), fun w nw => ?_⟩
      have s9 := same_new (o := .tup [.str "range", V.ref d1.1, V.ref d2.1]) (Same.refl H8) nw
      have x9 : (upd H8 w (.tup [.str "range", V.ref d1.1, V.ref d2.1])) w = some (.tup [.str "range", V.ref d1.1, V.ref d2.1]) := upd_same
      generalize upd H8 w (.tup [.str "range", V.ref d1.1, V.ref d2.1]) = H9 at s9 x9 ⊢
      have z9 := s9 _ _ z8
      have D9 := D8.same s9
      have bu9 : But p H2 H9 := (y6.trans bu8).trans (But.of s9)
      have ea9 := ea2.but D2.d bu9
      refine ⟨_, z9, by rw [List.length_map, sizeLine_eq]; omega, cs ++ [(w, .rng d1.2 d2.2)], t8, l8, by rw [upd_same]; show some (HO.lst (cs.map (fun d => V.ref d.1) ++ [V.ref w])) = some (HO.lst ((cs ++ [(w, Bd.rng d1.2 d2.2)]).map fun d => V.ref d.1)); rw [List.map_append]; rfl, by rw [List.length_append, List.length_singleton]; omega, fun d hd => ?_, ?_, by push_cast; omega, fun b' o' nb' e' => ?_⟩
      · have bl : ∀ {a : Addr} {b : Bd}, BdAt K H9 a b → BdAt K (upd H9 DD (.lst (refsD cs ++ [V.ref w]))) a b := fun {a b} h => by
          cases b with
          | rng es fs =>
            obtain ⟨x, y, h1, h2, h3⟩ := h
            exact ⟨x, y, sqT_lst z9 h1, sqT_lst z9 h2, sqT_lst z9 h3⟩
          | rst m r => exact sqT_lst z9 h
          | vls ds =>
            obtain ⟨x, h1, h2⟩ := h
            exact ⟨x, sqT_lst z9 h1, sqT_lst z9 h2⟩
        rcases List.mem_append.mp hd with hd | hd
        · exact ⟨bl (((y3.but y4.d bu8).same s9) d hd).1, (y3 d hd).2⟩
        · rw [List.mem_singleton.mp hd]
          obtain ⟨q1, o1, a1, f1⟩ := ea9 d1 m1
          obtain ⟨q2, o2, a2, f2⟩ := ea9 d2 m2
          exact ⟨bl ⟨d1.1, d2.1, SqT.of x9, q1, q2⟩, ⟨f1, f2⟩, ⟨o1, o2⟩, ⟨a1, a2⟩, lt12, k1, k2⟩
      · have ncc : c ≠ DD := fun z => by
          have := D2.c
          rw [z, hD] at this
          cases this
        exact ⟨by rw [upd_ne (Ne.symm nDp)]; exact D9.d, by rw [upd_ne ncc]; exact D9.c, D9.ht, D9.hl, D9.hn⟩
      · rw [upd_ne (fun z => by rw [z, hD] at e'; cases e')]
        exact bu9 b' o' nb' e'
    · refine itF (decide_eq_false jp) ?_
      exact ⟨cs, t8, l8, z8, by omega, y3.but y4.d bu8, D8, by push_cast; omega, y6.trans bu8⟩
  · rintro H6 ⟨cs, t6, l6, y1, y2, y3, y4, y5, y6⟩
    have y2 : cs.length ≤ bs.length - 1 := y2
    have y5 : t6 ≤ t1 + ((bs.length - 1 : Nat) : Int) := y5
    exact k DD cs t6 l6 H6 _ _ _ _ _ _ _ _ y4 (by omega) ((bu1.trans (But.of s2)).trans y6) (SqL.of y1) y3 (by omega)
end
end K26
set_option Elab.async false
set_option linter.all false
set_option maxRecDepth 100000
set_option maxHeartbeats 4000000
/-! _law_bounds: remainders -/
namespace K26
open K34 PySem PySem.Spec PyProof.Rows L2 StX
def tBT2 (K : PySem.W.Frag) : TS := fun D σ H => ∃ (p c : Addr) (ns : List Int) (t l : Int) (v1 v2 v4 v5 v6 v7 v8 v9 v10 v11 v12 : Option V), σ = [some (.ref p), v1, v2, some (.int 6), v4, v5, v6, v7, v8, v9, v10, v11, v12] ∧ PenAt H p c ns t l ∧ t + 1000 < 1000000000000 ∧ AftB K [false] p c ns t v1 v2 H D
section
variable {P : Program} {w : World} {K : PySem.W.Frag} {mg : Str → Option Value} {base : Heap} {f : Addr} {cdv : Value} {A : Around} {outer : List Env} {s : Shared} {H0 : Hp} {E : XK}
theorem bns_rst (hr : Room 2 (LB P w K mg base f cdv A outer s H0 E).A) (GD : Fn1 P w K mg base 1 "_law_draw" ["_law_pen_here", "_law_many"] spDraw) (GP : Fn1 P w K mg base 2 "_law_pick" ["_law_pen_here", "_law_options"] (spPick K)) :
    PSs (LB P w K mg base f cdv A outer s H0 E) (ifB (nthS (ifE (nthS bBns 0)) 0)) (tBT2 K) := by
  have nd := scBns.nd
  have hr1 : Room 1 _ := hr.mono (by decide)
  have base : PSs (LB P w K mg base f cdv A outer s H0 E) (ifB (nthS (ifE (nthS bBns 0)) 0)) _ :=
    (pss_cons (ps_set (i := 5) nd rfl (Or.inl rfl) (pe_call GP.ok hr rfl GP.g GP.k GP.b .nil pass0 (pa_cons (pv 0) (pa_cons (pe_lst (pa_cons (pe_lst (pa_cons (pe_tup (pa_cons pe_str (pa_cons pe_int (pa_cons pe_int pa_nil)))) (pa_cons (pe_tup (pa_cons pe_str (pa_cons pe_int (pa_cons pe_int pa_nil)))) (pa_cons (pe_tup (pa_cons pe_str (pa_cons pe_int (pa_cons pe_int pa_nil)))) pa_nil)))) (pa_cons (pe_lst (pa_cons (pe_tup (pa_cons pe_str (pa_cons pe_int (pa_cons pe_int pa_nil)))) (pa_cons (pe_tup (pa_cons pe_str (pa_cons pe_int (pa_cons pe_int pa_nil)))) pa_nil))) (pa_cons (pe_lst (pa_cons (pe_tup (pa_cons pe_str (pa_cons pe_int (pa_cons pe_int pa_nil)))) (pa_cons (pe_tup (pa_cons pe_str (pa_cons pe_int (pa_cons pe_int pa_nil)))) (pa_cons (pe_tup (pa_cons pe_str (pa_cons pe_int (pa_cons pe_int pa_nil)))) pa_nil)))) (pa_cons (pe_lst (pa_cons (pe_tup (pa_cons pe_str (pa_cons pe_int (pa_cons pe_int pa_nil)))) (pa_cons (pe_tup (pa_cons pe_str (pa_cons pe_int (pa_cons pe_int pa_nil)))) pa_nil))) (pa_cons (pe_lst (pa_cons (pe_tup (pa_cons pe_str (pa_cons pe_int (pa_cons pe_int pa_nil)))) (pa_cons (pe_tup (pa_cons pe_str (pa_cons pe_int (pa_cons pe_int pa_nil)))) (pa_cons (pe_tup (pa_cons pe_str (pa_cons pe_int (pa_cons pe_int pa_nil)))) (pa_cons (pe_tup (pa_cons pe_str (pa_cons pe_int (pa_cons pe_int pa_nil)))) pa_nil))))) pa_nil)))))) pa_nil))))
    (pss_one (ps_setLc (i := 5) (own := [("_law_bound_here", 12)]) (g := gName 12) rfl nd rfl rfl (sw_true rfl rfl rfl (by decide +kernel)) (pi_list (pv 5)) (blkOk_by (N := NB) (sc := defScope sBounds) (by decide +kernel))
      (fun _ _ _ _ _ => pg_name (i := 12) nd rfl (Or.inl rfl))
      (fun _ _ _ _ _ => pts_one (pt_cmpR op_gt (pe_call GD.ok hr1 rfl GD.g GD.k GD.b .nil pass0 (pa_cons (pv 0) (pa_cons pe_int pa_nil))) pe_int (nomark _)))
      (fun _ _ _ _ _ => pv 12))))
  refine PSs.imp base fun D σ H h => ?_
  clear base
  obtain ⟨p, c, ns, t, l, v1, v2, v4, v5, v6, v7, v8, v9, v10, v11, v12, rfl, D0, ht, k⟩ := h
  refine ⟨_, rfl, ?_⟩
  refine ⟨(by show 3 ≤ sizeLine; decide), fun a1 n1 => ?_⟩
  have s1 := same_new (o := .tup [.str "rest", .int 2, .int 0]) (Same.refl H) n1
  have x1 : (upd H a1 (.tup [.str "rest", .int 2, .int 0])) a1 = some (.tup [.str "rest", .int 2, .int 0]) := upd_same
  generalize upd H a1 (.tup [.str "rest", .int 2, .int 0]) = H1 at s1 x1 ⊢
  refine ⟨(by show 3 ≤ sizeLine; decide), fun a2 n2 => ?_⟩
  have s2 := same_new (o := .tup [.str "rest", .int 4, .int 1]) (Same.refl H1) n2
  have x2 : (upd H1 a2 (.tup [.str "rest", .int 4, .int 1])) a2 = some (.tup [.str "rest", .int 4, .int 1]) := upd_same
  generalize upd H1 a2 (.tup [.str "rest", .int 4, .int 1]) = H2 at s2 x2 ⊢
  refine ⟨(by show 3 ≤ sizeLine; decide), fun a3 n3 => ?_⟩
  have s3 := same_new (o := .tup [.str "rest", .int 4, .int 3]) (Same.refl H2) n3
  have x3 : (upd H2 a3 (.tup [.str "rest", .int 4, .int 3])) a3 = some (.tup [.str "rest", .int 4, .int 3]) := upd_same
  generalize upd H2 a3 (.tup [.str "rest", .int 4, .int 3]) = H3 at s3 x3 ⊢
  refine ⟨(by show 3 ≤ sizeLine; decide), fun a4 n4 => ?_⟩
  have s4 := same_new (o := .lst [.ref a1, .ref a2, .ref a3]) (Same.refl H3) n4
  have x4 : (upd H3 a4 (.lst [.ref a1, .ref a2, .ref a3])) a4 = some (.lst [.ref a1, .ref a2, .ref a3]) := upd_same
  generalize upd H3 a4 (.lst [.ref a1, .ref a2, .ref a3]) = H4 at s4 x4 ⊢
  refine ⟨(by show 3 ≤ sizeLine; decide), fun a5 n5 => ?_⟩
  have s5 := same_new (o := .tup [.str "rest", .int 3, .int 2]) (Same.refl H4) n5
  have x5 : (upd H4 a5 (.tup [.str "rest", .int 3, .int 2])) a5 = some (.tup [.str "rest", .int 3, .int 2]) := upd_same
  generalize upd H4 a5 (.tup [.str "rest", .int 3, .int 2]) = H5 at s5 x5 ⊢
  refine ⟨(by show 3 ≤ sizeLine; decide), fun a6 n6 => ?_⟩
  have s6 := same_new (o := .tup [.str "rest", .int 6, .int 1]) (Same.refl H5) n6
  have x6 : (upd H5 a6 (.tup [.str "rest", .int 6, .int 1])) a6 = some (.tup [.str "rest", .int 6, .int 1]) := upd_same
  generalize upd H5 a6 (.tup [.str "rest", .int 6, .int 1]) = H6 at s6 x6 ⊢
  refine ⟨(by show 2 ≤ sizeLine; decide), fun a7 n7 => ?_⟩
  have s7 := same_new (o := .lst [.ref a5, .ref a6]) (Same.refl H6) n7
  have x7 : (upd H6 a7 (.lst [.ref a5, .ref a6])) a7 = some (.lst [.ref a5, .ref a6]) := upd_same
  generalize upd H6 a7 (.lst [.ref a5, .ref a6]) = H7 at s7 x7 ⊢
  refine ⟨(by show 3 ≤ sizeLine; decide), fun a8 n8 => ?_⟩
  have s8 := same_new (o := .tup [.str "rest", .int 5, .int 4]) (Same.refl H7) n8
  have x8 : (upd H7 a8 (.tup [.str "rest", .int 5, .int 4])) a8 = some (.tup [.str "rest", .int 5, .int 4]) := upd_same
  generalize upd H7 a8 (.tup [.str "rest", .int 5, .int 4]) = H8 at s8 x8 ⊢
  refine ⟨(by show 3 ≤ sizeLine; decide), fun a9 n9 => ?_⟩
  have s9 := same_new (o := .tup [.str "rest", .int 10, .int 3]) (Same.refl H8) n9
  have x9 : (upd H8 a9 (.tup [.str "rest", .int 10, .int 3])) a9 = some (.tup [.str "rest", .int 10, .int 3]) := upd_same
  generalize upd H8 a9 (.tup [.str "rest", .int 10, .int 3]) = H9 at s9 x9 ⊢
  refine ⟨(by show 3 ≤ sizeLine; decide), fun a10 n10 => ?_⟩
  have s10 := same_new (o := .tup [.str "rest", .int 10, .int 8]) (Same.refl H9) n10
  have x10 : (upd H9 a10 (.tup [.str "rest", .int 10, .int 8])) a10 = some (.tup [.str "rest", .int 10, .int 8]) := upd_same
  generalize upd H9 a10 (.tup [.str "rest", .int 10, .int 8]) = H10 at s10 x10 ⊢
  refine ⟨(by show 3 ≤ sizeLine; decide), fun a11 n11 => ?_⟩
  have s11 := same_new (o := .lst [.ref a8, .ref a9, .ref a10]) (Same.refl H10) n11
  have x11 : (upd H10 a11 (.lst [.ref a8, .ref a9, .ref a10])) a11 = some (.lst [.ref a8, .ref a9, .ref a10]) := upd_same
  generalize upd H10 a11 (.lst [.ref a8, .ref a9, .ref a10]) = H11 at s11 x11 ⊢
  refine ⟨(by show 3 ≤ sizeLine; decide), fun a12 n12 => ?_⟩
  have s12 := same_new (o := .tup [.str "rest", .int 60, .int 59]) (Same.refl H11) n12
  have x12 : (upd H11 a12 (.tup [.str "rest", .int 60, .int 59])) a12 = some (.tup [.str "rest", .int 60, .int 59]) := upd_same
  generalize upd H11 a12 (.tup [.str "rest", .int 60, .int 59]) = H12 at s12 x12 ⊢
  refine ⟨(by show 3 ≤ sizeLine; decide), fun a13 n13 => ?_⟩
  have s13 := same_new (o := .tup [.str "rest", .int 2, .int 0]) (Same.refl H12) n13
  have x13 : (upd H12 a13 (.tup [.str "rest", .int 2, .int 0])) a13 = some (.tup [.str "rest", .int 2, .int 0]) := upd_same
  generalize upd H12 a13 (.tup [.str "rest", .int 2, .int 0]) = H13 at s13 x13 ⊢
  refine ⟨(by show 2 ≤ sizeLine; decide), fun a14 n14 => ?_⟩
  have s14 := same_new (o := .lst [.ref a12, .ref a13]) (Same.refl H13) n14
  have x14 : (upd H13 a14 (.lst [.ref a12, .ref a13])) a14 = some (.lst [.ref a12, .ref a13]) := upd_same
  generalize upd H13 a14 (.lst [.ref a12, .ref a13]) = H14 at s14 x14 ⊢
  refine ⟨(by show 3 ≤ sizeLine; decide), fun a15 n15 => ?_⟩
  have s15 := same_new (o := .tup [.str "rest", .int 12, .int 11]) (Same.refl H14) n15
  have x15 : (upd H14 a15 (.tup [.str "rest", .int 12, .int 11])) a15 = some (.tup [.str "rest", .int 12, .int 11]) := upd_same
  generalize upd H14 a15 (.tup [.str "rest", .int 12, .int 11]) = H15 at s15 x15 ⊢
  refine ⟨(by show 3 ≤ sizeLine; decide), fun a16 n16 => ?_⟩
  have s16 := same_new (o := .tup [.str "rest", .int 4, .int 2]) (Same.refl H15) n16
  have x16 : (upd H15 a16 (.tup [.str "rest", .int 4, .int 2])) a16 = some (.tup [.str "rest", .int 4, .int 2]) := upd_same
  generalize upd H15 a16 (.tup [.str "rest", .int 4, .int 2]) = H16 at s16 x16 ⊢
  refine ⟨(by show 3 ≤ sizeLine; decide), fun a17 n17 => ?_⟩
  have s17 := same_new (o := .tup [.str "rest", .int 6, .int 3]) (Same.refl H16) n17
  have x17 : (upd H16 a17 (.tup [.str "rest", .int 6, .int 3])) a17 = some (.tup [.str "rest", .int 6, .int 3]) := upd_same
  generalize upd H16 a17 (.tup [.str "rest", .int 6, .int 3]) = H17 at s17 x17 ⊢
  refine ⟨(by show 3 ≤ sizeLine; decide), fun a18 n18 => ?_⟩
  have s18 := same_new (o := .tup [.str "rest", .int 30, .int 7]) (Same.refl H17) n18
  have x18 : (upd H17 a18 (.tup [.str "rest", .int 30, .int 7])) a18 = some (.tup [.str "rest", .int 30, .int 7]) := upd_same
  generalize upd H17 a18 (.tup [.str "rest", .int 30, .int 7]) = H18 at s18 x18 ⊢
  refine ⟨(by show 4 ≤ sizeLine; decide), fun a19 n19 => ?_⟩
  have s19 := same_new (o := .lst [.ref a15, .ref a16, .ref a17, .ref a18]) (Same.refl H18) n19
  have x19 : (upd H18 a19 (.lst [.ref a15, .ref a16, .ref a17, .ref a18])) a19 = some (.lst [.ref a15, .ref a16, .ref a17, .ref a18]) := upd_same
  generalize upd H18 a19 (.lst [.ref a15, .ref a16, .ref a17, .ref a18]) = H19 at s19 x19 ⊢
  refine ⟨(by show 5 ≤ sizeLine; decide), fun a20 n20 => ?_⟩
  have s20 := same_new (o := .lst [.ref a4, .ref a7, .ref a11, .ref a14, .ref a19]) (Same.refl H19) n20
  have x20 : (upd H19 a20 (.lst [.ref a4, .ref a7, .ref a11, .ref a14, .ref a19])) a20 = some (.lst [.ref a4, .ref a7, .ref a11, .ref a14, .ref a19]) := upd_same
  generalize upd H19 a20 (.lst [.ref a4, .ref a7, .ref a11, .ref a14, .ref a19]) = H20 at s20 x20 ⊢
  have S20 : Same H20 H20 := Same.refl _
  have S19 : Same H19 H20 := s20.trans S20
  have S18 : Same H18 H20 := s19.trans S19
  have S17 : Same H17 H20 := s18.trans S18
  have S16 : Same H16 H20 := s17.trans S17
  have S15 : Same H15 H20 := s16.trans S16
  have S14 : Same H14 H20 := s15.trans S15
  have S13 : Same H13 H20 := s14.trans S14
  have S12 : Same H12 H20 := s13.trans S13
  have S11 : Same H11 H20 := s12.trans S12
  have S10 : Same H10 H20 := s11.trans S11
  have S9 : Same H9 H20 := s10.trans S10
  have S8 : Same H8 H20 := s9.trans S9
  have S7 : Same H7 H20 := s8.trans S8
  have S6 : Same H6 H20 := s7.trans S7
  have S5 : Same H5 H20 := s6.trans S6
  have S4 : Same H4 H20 := s5.trans S5
  have S3 : Same H3 H20 := s4.trans S4
  have S2 : Same H2 H20 := s3.trans S3
  have S1 : Same H1 H20 := s2.trans S2
  have S0 : Same H H20 := s1.trans S1
  have DN := D0.same S0
  refine ⟨p, c, a20, ns, t, l, _, rfl, DN, by omega, SqL.of x20, by simp, (by show 5 < 1000000; decide), fun x t1 l1 HX hx h1 D1 b1 => ?_⟩
  have nl : ∀ {b : Addr} {zs : List V}, H20 b = some (.lst zs) → b ≠ p := fun e z => by rw [z, DN.d] at e; cases e
  have nt : ∀ {b : Addr} {zs : List V}, H20 b = some (.tup zs) → b ≠ p := fun e z => by rw [z, DN.d] at e; cases e
  have bX : ∀ (b : Addr) (oo : HO), b ≠ p → H20 b = some oo → HX b = some oo := fun b oo n e => b1 b oo n e
  obtain ⟨q, cs, rfl, hq, l4, ba⟩ : ∃ (q : Addr) (cs : List (Addr × Bd)), x = .ref q ∧ HX q = some (.lst (refsD cs)) ∧ cs.length ≤ 4 ∧ BdsAt K HX [false] cs := by
    simp only [List.mem_cons, List.not_mem_nil, or_false] at hx
    rcases hx with h | h | h | h | h
    · refine ⟨a4, [(a1, Bd.rst 2 0), (a2, Bd.rst 4 1), (a3, Bd.rst 4 3)], h, bX _ _ (nl (S4 _ _ x4)) (S4 _ _ x4), (by simp), fun d hd => ?_⟩
      simp only [List.mem_cons, List.not_mem_nil, or_false] at hd
      rcases hd with rfl | rfl | rfl
      · exact ⟨bX _ _ (nt (S1 _ _ x1)) (S1 _ _ x1) |> fun z => SqT.of z, by decide +kernel, rfl⟩
      · exact ⟨bX _ _ (nt (S2 _ _ x2)) (S2 _ _ x2) |> fun z => SqT.of z, by decide +kernel, rfl⟩
      · exact ⟨bX _ _ (nt (S3 _ _ x3)) (S3 _ _ x3) |> fun z => SqT.of z, by decide +kernel, rfl⟩
    · refine ⟨a7, [(a5, Bd.rst 3 2), (a6, Bd.rst 6 1)], h, bX _ _ (nl (S7 _ _ x7)) (S7 _ _ x7), (by simp), fun d hd => ?_⟩
      simp only [List.mem_cons, List.not_mem_nil, or_false] at hd
      rcases hd with rfl | rfl
      · exact ⟨bX _ _ (nt (S5 _ _ x5)) (S5 _ _ x5) |> fun z => SqT.of z, by decide +kernel, rfl⟩
      · exact ⟨bX _ _ (nt (S6 _ _ x6)) (S6 _ _ x6) |> fun z => SqT.of z, by decide +kernel, rfl⟩
    · refine ⟨a11, [(a8, Bd.rst 5 4), (a9, Bd.rst 10 3), (a10, Bd.rst 10 8)], h, bX _ _ (nl (S11 _ _ x11)) (S11 _ _ x11), (by simp), fun d hd => ?_⟩
      simp only [List.mem_cons, List.not_mem_nil, or_false] at hd
      rcases hd with rfl | rfl | rfl
      · exact ⟨bX _ _ (nt (S8 _ _ x8)) (S8 _ _ x8) |> fun z => SqT.of z, by decide +kernel, rfl⟩
      · exact ⟨bX _ _ (nt (S9 _ _ x9)) (S9 _ _ x9) |> fun z => SqT.of z, by decide +kernel, rfl⟩
      · exact ⟨bX _ _ (nt (S10 _ _ x10)) (S10 _ _ x10) |> fun z => SqT.of z, by decide +kernel, rfl⟩
    · refine ⟨a14, [(a12, Bd.rst 60 59), (a13, Bd.rst 2 0)], h, bX _ _ (nl (S14 _ _ x14)) (S14 _ _ x14), (by simp), fun d hd => ?_⟩
      simp only [List.mem_cons, List.not_mem_nil, or_false] at hd
      rcases hd with rfl | rfl
      · exact ⟨bX _ _ (nt (S12 _ _ x12)) (S12 _ _ x12) |> fun z => SqT.of z, by decide +kernel, rfl⟩
      · exact ⟨bX _ _ (nt (S13 _ _ x13)) (S13 _ _ x13) |> fun z => SqT.of z, by decide +kernel, rfl⟩
    · refine ⟨a19, [(a15, Bd.rst 12 11), (a16, Bd.rst 4 2), (a17, Bd.rst 6 3), (a18, Bd.rst 30 7)], h, bX _ _ (nl (S19 _ _ x19)) (S19 _ _ x19), (by simp), fun d hd => ?_⟩
      simp only [List.mem_cons, List.not_mem_nil, or_false] at hd
      rcases hd with rfl | rfl | rfl | rfl
      · exact ⟨bX _ _ (nt (S15 _ _ x15)) (S15 _ _ x15) |> fun z => SqT.of z, by decide +kernel, rfl⟩
      · exact ⟨bX _ _ (nt (S16 _ _ x16)) (S16 _ _ x16) |> fun z => SqT.of z, by decide +kernel, rfl⟩
      · exact ⟨bX _ _ (nt (S17 _ _ x17)) (S17 _ _ x17) |> fun z => SqT.of z, by decide +kernel, rfl⟩
      · exact ⟨bX _ _ (nt (S18 _ _ x18)) (S18 _ _ x18) |> fun z => SqT.of z, by decide +kernel, rfl⟩
  have nqp : q ≠ p := fun z => by rw [z, D1.d] at hq; cases hq
  refine ⟨_, rfl, q, rfl, ⟨_, SqL.of hq⟩, fun DD hD => ?_⟩
  have hD : HX DD = none := hD
  refine lc_it (walk_list (K := K) (a := q) (xs := refsD cs)) (fun i H6 => ∃ (ds : List (Addr × Bd)) (t6 l6 : Int), H6 DD = some (.lst (refsD ds)) ∧ ds.length ≤ i ∧ (∀ d ∈ ds, d ∈ cs) ∧ PenAt H6 p c ns t6 l6 ∧ t6 ≤ t1 + (i : Int) ∧ But p HX H6)
    ⟨[], t1, l1, upd_same, Nat.le_refl _, (fun d hd => by cases hd), D1.same (same_new (Same.refl HX) hD), by omega, But.of (same_new (Same.refl HX) hD)⟩ (fun i H6 _ y => by obtain ⟨_, _, _, _, _, _, _, _, y⟩ := y; exact SqL.of (y _ _ nqp hq)) ?_ ?_
  · rintro i z Hy H6 hi ⟨ds, t6, l6, y1, y2, y3, y4, y5, y6⟩ ⟨rfl, hx⟩
    have hi : i < (refsD cs).length := hi
    rw [List.length_map] at hi
    have hx : (refsD cs)[i]? = some z := hx
    rw [List.getElem?_map] at hx
    obtain ⟨d, hd, rfl⟩ := Option.map_eq_some_iff.mp hx
    have nDp : DD ≠ p := fun z => by rw [z, y4.d] at y1; cases y1
    refine ⟨rfl, ?_⟩
    refine ⟨_, rfl, p, c, ns, t6, l6, 5, rfl, y4, by omega, by decide, by decide, fun j t8 l8 H8 j0 j1 h8 D8 b8 => ?_⟩
    refine ⟨_, _, rfl, rfl, _, rfl, ?_⟩
    have z8 := b8 _ _ nDp y1
    by_cases jp : 0 < j
    · refine itT (decide_eq_true jp) ?_
      refine ⟨_, rfl, _, z8, by rw [List.length_map, sizeLine_eq]; omega, ds ++ [d], t8, l8, by rw [upd_same]; show some (HO.lst (ds.map (fun d => V.ref d.1) ++ [V.ref d.1])) = some (HO.lst ((ds ++ [d]).map fun d => V.ref d.1)); rw [List.map_append]; rfl, by rw [List.length_append, List.length_singleton]; omega, fun e he => ?_, ?_, by push_cast; omega, fun b' o' nb' e' => ?_⟩
      · rcases List.mem_append.mp he with he | he
        · exact y3 e he
        · rw [List.mem_singleton.mp he]
          exact List.mem_of_getElem? hd
      · have ncc : c ≠ DD := fun z => by
          have := D1.c
          rw [z, hD] at this
          cases this
        exact ⟨by rw [upd_ne (Ne.symm nDp)]; exact D8.d, by rw [upd_ne ncc]; exact D8.c, D8.ht, D8.hl, D8.hn⟩
      · rw [upd_ne (fun z => by rw [z, hD] at e'; cases e')]
        exact b8 b' o' nb' (y6 b' o' nb' e')
    · refine itF (decide_eq_false jp) ?_
      exact ⟨ds, t8, l8, z8, by omega, y3, D8, by push_cast; omega, y6.trans b8⟩
  · rintro H6 ⟨ds, t6, l6, y1, y2, y3, y4, y5, y6⟩
    have y2 : ds.length ≤ (refsD cs).length := y2
    have y5 : t6 ≤ t1 + (((refsD cs).length : Nat) : Int) := y5
    rw [List.length_map] at y2 y5
    exact k DD ds t6 l6 H6 _ _ _ _ _ _ _ _ y4 (by omega) (((But.of S0).trans b1).trans y6) (SqL.of y1) (fun d hd => ((ba.but D1.d y6) d (y3 d hd))) (by omega)
end
end K26
set_option Elab.async false
set_option linter.all false
set_option maxRecDepth 100000
set_option maxHeartbeats 4000000
/-! _law_bounds: values -/
namespace K26
open K34 PySem PySem.Spec PyProof.Rows L2 StX
theorem vals_ok {b : Bool} {ds : List PyData} (h : ds.all (valK b) = true) (nd : (ds.map vD).Nodup) (l1 : 1 ≤ ds.length) (l2 : ds.length ≤ 8) : valsD ds = true := by
  have al := List.all_eq_true.mp h
  have a1 : ds.all valD = true := List.all_eq_true.mpr fun d hd => valK_val (al d hd)
  have a2 : cntD ds = true := by
    unfold cntD
    refine decide_eq_true ?_
    have hn : (keysD ds).Nodup := by
      unfold keysD List.Nodup
      unfold List.Nodup at nd
      rw [List.pairwise_map] at nd ⊢
      rw [List.pairwise_map]
      refine List.Pairwise.imp_of_mem (fun {d d'} hd hd' ne e => ne ?_) nd
      have k1 := al d hd
      have k2 := al d' hd'
      cases d <;> cases d' <;> first | exact Bool.noConfusion k1 | exact Bool.noConfusion k2 | rfl | cases e | skip
      all_goals rfl
    have z := SetG.cnt_iff.mpr hn
    rw [z]
    unfold keysD
    rw [List.length_map, List.length_map]
  have a3 : (ds.any numD && ds.any wrdD) = false := by
    cases b with
    | true =>
      have : ds.any numD = false := List.any_eq_false.mpr fun d hd => by
        have k1 := al d hd
        cases d with
        | int i =>
          have k1 : (!true && isN (.int i)) = true := k1
          simp at k1
        | _ => intro z; cases z
      rw [this, Bool.false_and]
    | false =>
      have : ds.any wrdD = false := List.any_eq_false.mpr fun d hd => by
        have k1 := al d hd
        cases d with
        | str i =>
          have k1 : (false && wordS i) = true := k1
          simp at k1
        | _ => intro z; cases z
      rw [this, Bool.and_false]
  unfold valsD
  rw [a1, a2, a3, decide_eq_true l1, decide_eq_true l2]
  rfl
theorem cut_dropN (xs : List V) (k : Nat) : cutV xs (some (k : Int)) none = xs.drop k := by
  unfold cutV
  rw [HT.sIx_nat, HT.sIx_none]
  by_cases h : k ≤ xs.length
  · rw [Nat.min_eq_left h, List.take_of_length_le (by rw [List.length_drop]; omega)]
  · rw [Nat.min_eq_right (by omega), Nat.sub_self, List.take_zero, List.drop_eq_nil_of_le (by omega)]
theorem bd_lst {K : PySem.W.Frag} {H : Hp} {q a : Addr} {zs ys : List V} {b : Bd} (hq : H q = some (.lst zs)) (h : BdAt K H a b) : BdAt K (upd H q (.lst ys)) a b := by
  cases b with
  | rng es fs =>
    obtain ⟨x, y, h1, h2, h3⟩ := h
    exact ⟨x, y, sqT_lst hq h1, sqT_lst hq h2, sqT_lst hq h3⟩
  | rst m r => exact sqT_lst hq h
  | vls ds =>
    obtain ⟨x, h1, h2⟩ := h
    exact ⟨x, sqT_lst hq h1, sqT_lst hq h2⟩
def tBV (K : PySem.W.Frag) (b : Bool) : TS := fun D σ H => ∃ (p c o : Addr) (ns : List Int) (t l : Int) (v1 v4 v5 v6 v7 v8 v9 v10 v11 v12 : Option V), σ = [some (.ref p), v1, some (.ref o), some (.int 6), v4, v5, v6, v7, v8, v9, v10, v11, v12] ∧ PenAt H p c ns t l ∧ t + 1000 < 1000000000000 ∧ SqL K H o [kV b] ∧ AftB K [b] p c ns t v1 (some (.ref o)) H D
theorem en_val {b : Bool} {e : En} (h1 : isSg e = false) (h2 : isWr e = b) (h3 : enOk e = true) : valK b (enD e) = true ∧ vD (enD e) = enV e := by
  cases e with
  | lo => cases h1
  | hi => cases h1
  | num i =>
    subst h2
    exact ⟨h3, rfl⟩
  | wrd s =>
    subst h2
    exact ⟨h3, rfl⟩
section
variable {P : Program} {w : World} {K : PySem.W.Frag} {mg : Str → Option Value} {base : Heap} {f : Addr} {cdv : Value} {A : Around} {outer : List Env} {s : Shared} {H0 : Hp} {E : XK} {b : Bool}
abbrev bVls : List Stmt := ifE (nthS (ifE (nthS bBns 0)) 0)
/-- before the while -/
def tBW (K : PySem.W.Frag) (b : Bool) : TS := fun D σ H => ∃ (p c o q7 q5 : Addr) (ns : List Int) (t l : Int) (ds : List PyData) (v1 v4 v6 v8 v9 v10 v11 v12 : Option V), σ = [some (.ref p), v1, some (.ref o), some (.int 6), v4, some (.ref q5), v6, some (.ref q7), v8, v9, v10, v11, v12] ∧ PenAt H p c ns t l ∧ t + 200 < 1000000000000 ∧
  H q7 = some (.lst (ds.map vD)) ∧ H q5 = some (.lst []) ∧ q7 ≠ q5 ∧ c ≠ q5 ∧ c ≠ q7 ∧ ds.all (valK b) = true ∧ (ds.map vD).Nodup ∧ ds.length ≤ 20 ∧
  ∀ (bs : List (Addr × Bd)) (t' l' : Int) (H' : Hp) (v7 v8 v9 : Option V), PenAt H' p c ns t' l' → t' ≤ t + 20 → (∀ x o', x ≠ p → x ≠ q5 → H x = some o' → H' x = some o') → H' q5 = some (.lst (refsD bs)) → BdsAt K H' [b] bs → bs.length ≤ 6 → D.nx [some (.ref p), v1, some (.ref o), some (.int 6), v4, some (.ref q5), v6, v7, v8, v9, v10, v11, v12] H'
theorem bns_while (hr : Room 1 (LB P w K mg base f cdv A outer s H0 E).A) (hL : mg "len" = none) (hT : mg "tuple" = none) (GD : Fn1 P w K mg base 1 "_law_draw" ["_law_pen_here", "_law_many"] spDraw) : PSs (LB P w K mg base f cdv A outer s H0 E) [nthS bVls 3] (tBW K b) := by
  have nd := scBns.nd
  have hu := hr.units0
  have base : PSs (LB P w K mg base f cdv A outer s H0 E) [nthS bVls 3] _ :=
    (pss_one (ps_while PassesOwn.never (PW.pt (pw_and (pt_cmpR (op_neNil hu) (pv 7) (pe_lst pa_nil) (nomark _)) (pw_and1 (pt_cmpR op_lt (pe_callB call_len_seq (by rfl) hL PySem.boot_len (pa_cons (pv 5) pa_nil)) (pv 3) (nomark _)))))
      (pss_cons (ps_set (i := 9) nd rfl (Or.inl rfl) (pe_op op_add pe_int (pe_call GD.ok hr rfl GD.g GD.k GD.b .nil pass0 (pa_cons (pv 0) (pa_cons pe_int pa_nil)))))
      (pss_cons (ps_expr (pe_bm PySem.F.plainAttrs_list PySem.F.slot_list_append PySem.F.type_list_append mt_append (pv 5) (pa_cons (pe_tup (pa_cons pe_str (pa_cons (pe_callTy call_tuple_of (by rfl) hT (by decide +kernel) (pa_cons (pe_slice sl_list (pv 7) po_none (po_some (pv 9))) pa_nil)) pa_nil))) pa_nil)))
      (pss_one (ps_set (i := 7) nd rfl (Or.inl rfl) (pe_slice sl_list (pv 7) (po_some (pv 9)) po_none)))))))
  refine PSs.imp base fun D σ H h => ?_
  clear base
  obtain ⟨p, c, o, q7, q5, ns, t, l, ds, v1, v4, v6, v8, v9, v10, v11, v12, rfl, D0, ht, h7, h5, n75, nc5, nc7, hd, hn, l20, k⟩ := h
  refine ⟨fun m σ H' => ∃ (r7 : Addr) (es : List PyData) (bs : List (Addr × Bd)) (t' l' : Int) (v9 : Option V), σ = [some (.ref p), v1, some (.ref o), some (.int 6), v4, some (.ref q5), v6, some (.ref r7), v8, v9, v10, v11, v12] ∧ m = es.length ∧ H' r7 = some (.lst (es.map vD)) ∧ H' q5 = some (.lst (refsD bs)) ∧ r7 ≠ q5 ∧
      es.all (valK b) = true ∧ (es.map vD).Nodup ∧ es.length ≤ 20 ∧ bs.length ≤ 6 ∧ BdsAt K H' [b] bs ∧ PenAt H' p c ns t' l' ∧ t' ≤ t + (bs.length : Int) ∧ (∀ x o', x ≠ p → x ≠ q5 → H x = some o' → H' x = some o'),
    ⟨ds.length, q7, ds, [], t, l, v9, rfl, rfl, h7, h5, n75, hd, hn, l20, Nat.zero_le _, (fun d hd => by cases hd), D0, by omega, fun x o' _ _ e => e⟩, ?_⟩
  rintro m σ H1 ⟨r7, es, bs, t1, l1, u9, rfl, rfl, z7, z5, n7, hd1, hn1, l201, b6, ba, D1, ht1, kp⟩
  refine ⟨_, rfl, (by show 0 ≤ sizeLine; decide), fun r hr3 => ?_⟩
  have s2 := same_new (o := .lst []) (Same.refl H1) hr3
  refine ⟨r7, r, _, rfl, rfl, SqL.of (up z7 hr3), SqL.of upd_same, _, rfl, ?_⟩
  generalize upd H1 r (.lst []) = H2 at s2 ⊢
  have y7 := s2 _ _ z7
  have y5 := s2 _ _ z5
  have D2 := D1.same s2
  have n5p : q5 ≠ p := fun z => by rw [z, D2.d] at y5; cases y5
  have n7p : r7 ≠ p := fun z => by rw [z, D2.d] at y7; cases y7
  have stop : D.nx [some (.ref p), v1, some (.ref o), some (.int 6), v4, some (.ref q5), v6, some (.ref r7), v8, u9, v10, v11, v12] H2 :=
    k bs t1 l1 H2 _ _ _ D2 (by omega) (fun x o' n1 n2 e => s2 _ _ (kp x o' n1 n2 e)) y5 (ba.same s2) b6
  cases es with
  | nil =>
    refine itF rfl ?_
    exact stop
  | cons e0 es0 =>
    refine itT rfl ?_
    refine ⟨_, rfl, q5, _, rfl, .inl (SqL.of y5), _, rfl, _, _, rfl, rfl, _, rfl, ?_⟩
    rw [List.length_map]
    by_cases lb : bs.length < 6
    · refine itT (decide_eq_true (by omega)) ?_
      generalize hes : e0 :: es0 = es at *
      have le1 : 1 ≤ es.length := by rw [← hes]; simp
      refine ⟨fun σ' H' => ∃ m', m' < es.length ∧ ∃ (r7 : Addr) (es : List PyData) (bs : List (Addr × Bd)) (t' l' : Int) (v9 : Option V), σ' = [some (.ref p), v1, some (.ref o), some (.int 6), v4, some (.ref q5), v6, some (.ref r7), v8, v9, v10, v11, v12] ∧ m' = es.length ∧ H' r7 = some (.lst (es.map vD)) ∧ H' q5 = some (.lst (refsD bs)) ∧ r7 ≠ q5 ∧
        es.all (valK b) = true ∧ (es.map vD).Nodup ∧ es.length ≤ 20 ∧ bs.length ≤ 6 ∧ BdsAt K H' [b] bs ∧ PenAt H' p c ns t' l' ∧ t' ≤ t + (bs.length : Int) ∧ (∀ x o', x ≠ p → x ≠ q5 → H x = some o' → H' x = some o'), fun _ _ z => z, ?_⟩
      refine ⟨_, rfl, p, c, ns, t1, l1, 3, rfl, D2, by omega, by decide, by decide, fun j t3 l3 H3 j0 j1 h3 D3 b3 => ?_⟩
      refine ⟨_, _, rfl, rfl, ?_⟩
      have w7 := b3 _ _ n7p y7
      have w5 := b3 _ _ n5p y5
      obtain ⟨n, en, n1, n3⟩ : ∃ n : Nat, (1 : Int) + j = (n : Int) ∧ 1 ≤ n ∧ n ≤ 3 := ⟨(1 + j).toNat, by omega, by omega, by omega⟩
      simp only [en]
      refine ⟨_, rfl, .inl ⟨rfl, _, SqL.of w5⟩, _, rfl, np ⟨_, rfl, _, rfl, r7, _, rfl, SqL.of w7, fun a na => ?_⟩⟩
      rw [cut_take, ← List.map_take]
      have s4 := same_new (o := .lst ((es.take n).map vD)) (Same.refl H3) na
      have x4 : (upd H3 a (.lst ((es.take n).map vD))) a = some (.lst ((es.take n).map vD)) := upd_same
      generalize upd H3 a (.lst ((es.take n).map vD)) = H4 at s4 x4 ⊢
      refine ⟨a, _, rfl, .inl ⟨SqL.of x4, fun tt ntt => ⟨(by show 2 ≤ sizeLine; decide), fun w nw => ?_⟩⟩⟩
      have s5 := same_new (o := .tup ((es.take n).map vD)) (Same.refl H4) ntt
      have x5 : (upd H4 tt (.tup ((es.take n).map vD))) tt = some (.tup ((es.take n).map vD)) := upd_same
      generalize upd H4 tt (.tup ((es.take n).map vD)) = H5 at s5 x5 nw ⊢
      have s6 := same_new (o := .tup [.str "values", .ref tt]) (Same.refl H5) nw
      have x6 : (upd H5 w (.tup [.str "values", .ref tt])) w = some (.tup [.str "values", .ref tt]) := upd_same
      generalize upd H5 w (.tup [.str "values", .ref tt]) = H6 at s6 x6 ⊢
      have s36 := (s4.trans s5).trans s6
      have v5 := s36 _ _ w5
      have v7' := s36 _ _ w7
      have D6 := D3.same s36
      refine ⟨q5, refsD bs, .ref w, rfl, rfl, v5, by rw [List.length_map, sizeLine_eq]; omega, ?_⟩
      have ncq : c ≠ q5 := nc5
      have D7 : PenAt (upd H6 q5 (.lst (refsD bs ++ [.ref w]))) p c ns t3 l3 := ⟨by rw [upd_ne (Ne.symm n5p)]; exact D6.d, by rw [upd_ne ncq]; exact D6.c, D6.ht, D6.hl, D6.hn⟩
      have u7 : (upd H6 q5 (.lst (refsD bs ++ [.ref w]))) r7 = some (.lst (es.map vD)) := by rw [upd_ne n7]; exact v7'
      have u5 : (upd H6 q5 (.lst (refsD bs ++ [.ref w]))) q5 = some (.lst (refsD (bs ++ [(w, Bd.vls (es.take n))]))) := by
        rw [upd_same]
        show some (HO.lst (bs.map (fun d => V.ref d.1) ++ [V.ref w])) = some (HO.lst ((bs ++ [(w, Bd.vls (es.take n))]).map fun d => V.ref d.1))
        rw [List.map_append]
        rfl
      have bu7 : BdsAt K (upd H6 q5 (.lst (refsD bs ++ [.ref w]))) [b] (bs ++ [(w, Bd.vls (es.take n))]) := fun d hdd => by
        rcases List.mem_append.mp hdd with hdd | hdd
        · exact ⟨bd_lst v5 ((((ba.same s2).but D2.d b3).same s36) d hdd).1, (ba d hdd).2⟩
        · rw [List.mem_singleton.mp hdd]
          have sub : (es.take n).Sublist es := List.take_sublist n es
          refine ⟨bd_lst v5 ⟨tt, SqT.of x6, SqT.of (s6 _ _ x5)⟩, ?_, b, rfl, ?_⟩
          · refine vals_ok (b := b) ?_ ?_ ?_ ?_
            · exact List.all_eq_true.mpr fun x hx => List.all_eq_true.mp hd1 x (List.mem_of_mem_take hx)
            · exact hn1.sublist (sub.map vD)
            · rw [List.length_take]; omega
            · rw [List.length_take]; omega
          · exact List.all_eq_true.mpr fun x hx => List.all_eq_true.mp hd1 x (List.mem_of_mem_take hx)
      have kp7 : ∀ x o', x ≠ p → x ≠ q5 → H x = some o' → (upd H6 q5 (.lst (refsD bs ++ [.ref w]))) x = some o' := fun x o' m1 m2 e => by
        rw [upd_ne m2]
        exact s36 _ _ (b3 _ _ m1 (s2 _ _ (kp x o' m1 m2 e)))
      generalize upd H6 q5 (.lst (refsD bs ++ [.ref w])) = H7 at D7 u7 u5 bu7 kp7 ⊢
      refine ⟨_, rfl, _, rfl, _, rfl, r7, _, rfl, SqL.of u7, fun r8 nr8 => ?_⟩
      rw [cut_dropN, ← List.map_drop]
      have s8 := same_new (o := .lst ((es.drop n).map vD)) (Same.refl H7) nr8
      have n85 : r8 ≠ q5 := fun z => by rw [z, u5] at nr8; cases nr8
      refine ⟨(es.drop n).length, by rw [List.length_drop]; omega, r8, es.drop n, bs ++ [(w, Bd.vls (es.take n))], t3, l3, _, rfl, rfl, upd_same, s8 _ _ u5, n85, ?_, ?_, by rw [List.length_drop]; omega, by rw [List.length_append, List.length_singleton]; omega, bu7.same s8, D7.same s8, by rw [List.length_append, List.length_singleton]; push_cast; omega, fun x o' m1 m2 e => s8 _ _ (kp7 x o' m1 m2 e)⟩
      · exact List.all_eq_true.mpr fun x hx => List.all_eq_true.mp hd1 x (List.mem_of_mem_drop hx)
      · exact hn1.sublist ((List.drop_sublist n es).map vD)
    · refine itF (decide_eq_false (by omega)) ?_
      exact stop
end
end K26
set_option Elab.async false
set_option linter.all false
set_option maxRecDepth 100000
set_option maxHeartbeats 4000000
/-! _law_bounds: values, whole -/
namespace K26
open K34 PySem PySem.Spec PyProof.Rows L2 StX
section
variable {P : Program} {w : World} {K : PySem.W.Frag} {mg : Str → Option Value} {base : Heap} {f : Addr} {cdv : Value} {A : Around} {outer : List Env} {s : Shared} {H0 : Hp} {E : XK} {b : Bool}
theorem bns_vls (hr : Room 3 (LB P w K mg base f cdv A outer s H0 E).A) (hL : mg "len" = none) (hT : mg "tuple" = none) (hR : mg "range" = none) (GD : Fn1 P w K mg base 1 "_law_draw" ["_law_pen_here", "_law_many"] spDraw) (GV : Fn1 P w K mg base 3 "_law_value" ["_law_pen_here", "_law_sort"] (spVal K))
    (GS : Fn1 P w K mg base 2 "_law_shuffled" ["_law_pen_here", "_law_items"] (spShuf K)) : PSs (LB P w K mg base f cdv A outer s H0 E) (nthS bVls 0 :: nthS bVls 1 :: nthS bVls 2 :: nthS bVls 3 :: []) (tBV K b) := by
  have nd := scBns.nd
  have hr1 : Room 1 (LB P w K mg base f cdv A outer s H0 E).A := hr.mono (by decide)
  have hr2 : Room 2 (LB P w K mg base f cdv A outer s H0 E).A := hr.mono (by decide)
  have base : PSs (LB P w K mg base f cdv A outer s H0 E) (nthS bVls 0 :: nthS bVls 1 :: nthS bVls 2 :: nthS bVls 3 :: []) _ :=
    (pss_cons (ps_par (i := 7) (j := 5) rfl nd rfl rfl (by decide) rfl rfl (pa_cons (pe_lst (pa_cons pe_non pa_nil)) (pa_cons (pe_lst pa_nil) pa_nil)) (by rfl))
    (pss_cons (ps_for PassesOwn.never rfl (pi_range1 rfl hR (pa_cons (pe_op op_mul pe_int (pv 3)) pa_nil)) (pg_name (i := 6) nd rfl (Or.inl rfl))
      (pss_cons (ps_set (i := 8) nd rfl (Or.inl rfl) (pe_call GV.ok hr rfl GV.g GV.k GV.b .nil pass0 (pa_cons (pv 0) (pa_cons (pe_ix ix_list (pv 2) pe_int (fun _ _ => rfl)) pa_nil))))
      (pss_one (ps_if (pt_cmpR op_notIn_seq (pv 8) (pv 7) (by rfl)) (pss_one (ps_expr (pe_bm PySem.F.plainAttrs_list PySem.F.slot_list_append PySem.F.type_list_append mt_append (pv 7) (pa_cons (pv 8) pa_nil)))) pss_nil))))
    (pss_cons (ps_set (i := 7) nd rfl (Or.inl rfl) (pe_call GS.ok hr2 rfl GS.g GS.k GS.b .nil pass0 (pa_cons (pv 0) (pa_cons (pv 7) pa_nil))))
    (bns_while (b := b) hr1 hL hT GD))))
  refine PSs.imp base fun D σ H h => ?_
  clear base
  obtain ⟨p, c, o, ns, t, l, v1, v4, v5, v6, v7, v8, v9, v10, v11, v12, rfl, D0, ht, hs, k⟩ := h
  refine ⟨(by show 1 ≤ sizeLine; decide), fun q7 n7 => ⟨(by show 0 ≤ sizeLine; decide), fun q5 n5 => ⟨_, _, rfl, ?_⟩⟩⟩
  have s1 := same_new (o := .lst [.non]) (Same.refl H) n7
  have x1 : (upd H q7 (.lst [.non])) q7 = some (.lst [.non]) := upd_same
  have n5H : H q5 = none := by
    by_cases e : q5 = q7
    · rw [e, upd_same] at n5
      cases n5
    · rw [upd_ne e] at n5
      exact n5
  generalize upd H q7 (.lst [.non]) = H1 at s1 x1 n5 ⊢
  have s2 := same_new (o := .lst []) (Same.refl H1) n5
  have x5 : (upd H1 q5 (.lst [])) q5 = some (.lst []) := upd_same
  have n75 : q7 ≠ q5 := fun z => by rw [z, n5] at x1; cases x1
  generalize upd H1 q5 (.lst []) = H2 at s2 x5 ⊢
  have x7 := s2 _ _ x1
  have s12 := s1.trans s2
  refine ⟨_, rfl, _, _, rfl, rfl, (.inl ⟨by decide, by decide⟩), _, rfl, (by decide), (by decide), for_range (lo := 0) (n := 12) (fun i σ H' => ∃ (ds : List PyData) (t' l' : Int) (v6 v8 : Option V), σ = [some (.ref p), v1, some (.ref o), some (.int 6), v4, some (.ref q5), v6, some (.ref q7), v8, v9, v10, v11, v12] ∧ H' q7 = some (.lst (ds.map vD)) ∧ ds.all (valK b) = true ∧ (ds.map vD).Nodup ∧ ds.length ≤ i + 1 ∧ PenAt H' p c ns t' l' ∧ t' ≤ t + 3 * (i : Int) ∧ H' q5 = some (.lst []) ∧ But p H H')
    ⟨[.none], t, l, v6, v8, rfl, x7, rfl, List.nodup_cons.mpr ⟨List.not_mem_nil, List.nodup_nil⟩, Nat.le_refl _, D0.same s12, by omega, x5, But.of s12⟩ ?_ ?_⟩
  · rintro i σ H3 hi ⟨ds, t3, l3, u6, u8, rfl, y7, da, dn, dl, D3, h3, y5, b3⟩
    refine ⟨_, rfl, _, rfl, o, _, 0, kV b, rfl, rfl, sqL_but D0.d b3 hs, rfl, p, c, ns, t3, l3, b, rfl, D3, by omega, fun e t4 l4 H4 e1 e2 e3 h4 D4 b4 => ?_⟩
    have n7p : q7 ≠ p := fun z => by rw [z, D3.d] at y7; cases y7
    have n5p : q5 ≠ p := fun z => by rw [z, D3.d] at y5; cases y5
    have z7 := b4 _ _ n7p y7
    have z5 := b4 _ _ n5p y5
    obtain ⟨ev, ed⟩ := en_val e1 e2 e3
    have fl : (ds.map vD).all flatV = true := by
      rw [List.all_map]
      exact List.all_eq_true.mpr fun d _ => by show flatV (vD d) = true; cases d <;> rfl
    refine ⟨_, rfl, _, rfl, q7, _, rfl, .inl (SqL.of z7), flat_en e, fl, _, rfl, ?_⟩
    show if (!inV (enV e) (ds.map vD)) = true then _ else _
    cases hi2 : inV (enV e) (ds.map vD) with
    | true =>
      refine itF rfl ?_
      exact ⟨ds, t4, l4, _, _, rfl, z7, da, dn, by omega, D4, by push_cast; omega, z5, b3.trans b4⟩
    | false =>
      refine itT rfl ?_
      refine ⟨_, rfl, .inl ⟨rfl, _, SqL.of z7⟩, _, rfl, q7, _, _, rfl, rfl, z7, by rw [List.length_map, sizeLine_eq]; omega, ?_⟩
      have ncc : c ≠ q7 := fun z => by
        have := D0.c
        rw [z, n7] at this
        cases this
      refine ⟨ds ++ [enD e], t4, l4, _, _, rfl, by rw [upd_same, List.map_append]; show some (HO.lst (ds.map vD ++ [enV e])) = some (HO.lst (ds.map vD ++ [vD (enD e)])); rw [ed], ?_, ?_, by rw [List.length_append, List.length_singleton]; omega, ⟨by rw [upd_ne (Ne.symm n7p)]; exact D4.d, by rw [upd_ne ncc]; exact D4.c, D4.ht, D4.hl, D4.hn⟩, by push_cast; omega, by rw [upd_ne (Ne.symm n75)]; exact z5, fun x o' nx e' => ?_⟩
      · rw [List.all_append, da]
        show (true && (valK b (enD e) && true)) = true
        rw [ev]
        rfl
      · rw [List.map_append, List.nodup_append]
        refine ⟨dn, List.nodup_cons.mpr ⟨List.not_mem_nil, List.nodup_nil⟩, fun x hx y hy => ?_⟩
        have hy : y ∈ [vD (enD e)] := hy
        rw [List.mem_singleton.mp hy, ed]
        rintro rfl
        have z := List.any_eq_false.mp hi2 _ hx
        refine z ?_
        have := eqV_en e e e3 e3
        rw [this]
        exact decide_eq_true rfl
      · rw [upd_ne (fun z => by rw [z, n7] at e'; cases e')]
        exact (b3.trans b4) x o' nx e'
  · rintro σ H3 ⟨ds, t3, l3, u6, u8, rfl, y7, da, dn, dl, D3, h3, y5, b3⟩
    refine ⟨_, rfl, _, rfl, p, c, q7, ns, t3, l3, _, rfl, D3, by omega, .inl (SqL.of y7), by rw [List.length_map]; omega, fun q ys t4 l4 H4 pm h4 D4 b4 nq hq => ?_⟩
    obtain ⟨ds', hm, rfl⟩ := pick_map (g := vD) (as := ds) (ys := ys) (fun y hy => by
      obtain ⟨d, hd, e⟩ := List.mem_map.mp (pm.mem_iff.mp hy)
      exact ⟨d, hd, e.symm⟩)
    have n5p : q5 ≠ p := fun z => by rw [z, D3.d] at y5; cases y5
    have lds := pm.length_eq
    rw [List.length_map, List.length_map] at lds
    refine ⟨p, c, o, q, q5, ns, t4, l4, ds', v1, v4, _, _, v9, v10, v11, v12, rfl, D4, by omega, hq, b4 _ _ n5p y5, (fun z => by rw [z, y5] at nq; cases nq), fun z => ?_, fun z => ?_, List.all_eq_true.mpr fun d hd => List.all_eq_true.mp da d (hm d hd), pm.nodup_iff.mpr dn, by omega, fun bs t5 l5 H5 w7 w8 w9 D5 h5 kp z5 ba lb => ?_⟩
    · have := D0.c
      rw [z, n5H] at this
      cases this
    · have := D3.c
      rw [z, nq] at this
      cases this
    · refine k q5 bs t5 l5 H5 _ _ _ _ _ _ _ _ D5 (by omega) (fun x o' nx e' => kp x o' nx (fun z => by rw [z, n5H] at e'; cases e') (b4 _ _ nx (b3 _ _ nx e'))) (SqL.of z5) ba (by omega)
end
end K26
set_option Elab.async false
set_option linter.all false
set_option maxRecDepth 100000
set_option maxHeartbeats 4000000
/-! _law_bounds, whole -/
namespace K26
open K34 PySem PySem.Spec PyProof.Rows L2 StX
def spBns (K : PySem.W.Frag) : Sp := fun vs H Q _ => ∃ (p c o : Addr) (ns : List Int) (t l : Int) (m : Mn) (ks : List Bool), vs = [.ref p, .str (mnS m), .ref o, .int 6] ∧ PenAt H p c ns t l ∧ t + 3000 < 1000000000000 ∧ SqL K H o (ks.map kV) ∧ MnOk ks m ∧
  ∀ (q : Addr) (bs : List (Addr × Bd)) (t' l' : Int) (H' : Hp), BdsAt K H' ks bs → bs.length ≤ 6 → t' ≤ t + 1000 → PenAt H' p c ns t' l' → But p H H' → SqL K H' q (refsD bs) → Q (.ref q) H'
section
variable {P : Program} {w : World} {K : PySem.W.Frag} {mg : Str → Option Value} {base : Heap} {f : Addr} {fd : FuncData}
theorem ok_bounds (F : FnP K "_law_bounds" sBounds f fd) (hL : mg "len" = none) (hT : mg "tuple" = none) (hR : mg "range" = none) (hZ : mg "zip" = none) (GD : Fn1 P w K mg base 1 "_law_draw" ["_law_pen_here", "_law_many"] spDraw) (GP : Fn1 P w K mg base 2 "_law_pick" ["_law_pen_here", "_law_options"] (spPick K)) (GV : Fn1 P w K mg base 3 "_law_value" ["_law_pen_here", "_law_sort"] (spVal K))
    (GS : Fn1 P w K mg base 2 "_law_shuffled" ["_law_pen_here", "_law_items"] (spShuf K)) (GE : Fn1 P w K mg base 5 "_law_ends" ["_law_pen_here", "_law_sorts", "_law_many"] (spEnds K)) : FnOk P w K mg base CX0 6 f fd ["_law_pen_here", "_law_manner", "_law_sorts", "_law_many"] (spBns K) := by
  refine F.ok scBns (fun vs H Q E h => ?_) (fun cdv A outer s H vs Q E hr h => ?_)
  · obtain ⟨p, c, o, ns, t, l, m, ks, rfl, _⟩ := h
    rfl
  · obtain ⟨p, c, o, ns, t, l, m, ks, rfl, D, ht, hs, hm, k⟩ := h
    obtain ⟨b, hb⟩ : ∃ b : Bool, m = .vls → ks = [b] := by
      cases m with
      | vls =>
        have z : ks.length = 1 := hm
        match ks, z with
        | [b], _ => exact ⟨b, fun _ => rfl⟩
      | _ => exact ⟨true, fun z => by cases z⟩
    refine ⟨_, PSs.nox (pss_cons (ps_if (pt_cmpR op_eq (pv 1) pe_str (nomark _)) (bns_rng (ks := ks) hr hZ GD GE) (pss_one (ps_if (pt_cmpR op_eq (pv 1) pe_str (nomark _)) (bns_rst (hr.mono (by decide)) GD GP) (bns_vls (b := b) (hr.mono (by decide)) hL hT hR GD GV GS)))) (bns_last (ks := ks) (hr.mono (by decide)) GS)), ?_⟩
    refine ⟨_, rfl, rfl, _, rfl, ?_⟩
    have aft : AftB K ks p c ns t (some (.str (mnS m))) (some (.ref o)) H { nx := tBT K ks { nx := fun _ H' => Q .non H', rt := Q }, rt := Q } := fun q bs t1 l1 H1 v4 v6 v7 v8 v9 v10 v11 v12 D1 h1 b1 hq ba lb =>
      ⟨p, c, q, ns, t1, l1, bs, _, _, v4, v6, v7, v8, v9, v10, v11, v12, rfl, D1, by omega, hq, ba, lb, fun r bs' t2 l2 H2 ba2 lb2 h2 D2 b2 hr2 => k r bs' t2 l2 H2 ba2 lb2 (by omega) D2 (b1.trans b2) hr2⟩
    cases m with
    | rng =>
      refine itT (by decide +kernel) ?_
      have z : ks.length = 1 ∨ ks.length = 2 := hm
      exact ⟨p, c, o, ns, t, l, _, _, _, _, _, _, _, _, _, _, rfl, D, by omega, hs, by omega, by omega, aft⟩
    | rst =>
      refine itF (by decide +kernel) ?_
      refine ⟨_, rfl, rfl, _, rfl, ?_⟩
      refine itT (by decide +kernel) ?_
      have z : ks = [false] := hm
      subst z
      exact ⟨p, c, ns, t, l, _, _, _, _, _, _, _, _, _, _, _, rfl, D, by omega, aft⟩
    | vls =>
      refine itF (by decide +kernel) ?_
      refine ⟨_, rfl, rfl, _, rfl, ?_⟩
      refine itF (by decide +kernel) ?_
      have z := hb rfl
      subst z
      exact ⟨p, c, o, ns, t, l, _, _, _, _, _, _, _, _, _, _, rfl, D, by omega, hs, aft⟩
end
end K26
set_option Elab.async false
set_option linter.all false
set_option maxRecDepth 100000
set_option maxHeartbeats 4000000
/-! a Values holds what its values hold -/
namespace K26
open K34 PySem PySem.Spec PyProof.Rows L2 StX
theorem any_split {α : Type} (p f : α → Bool) : ∀ l : List α, l.any f = ((l.filter p).any f || (l.filter fun x => !p x).any f)
  | [] => rfl
  | x :: l => by
    rw [List.any_cons, any_split p f l]
    cases hp : p x with
    | true =>
      rw [List.filter_cons_of_pos hp, List.filter_cons_of_neg (by simp [hp]), List.any_cons, Bool.or_assoc]
    | false =>
      rw [List.filter_cons_of_neg (by simp [hp]), List.filter_cons_of_pos (by simp [hp]), List.any_cons]
      cases f x <;> cases (l.filter p).any f <;> rfl
theorem inV_ent {vs es : List V} (h : VEnt vs es) (x : V) : inV x es = inV x vs := by
  obtain ⟨rest, rfl, pm, _⟩ := h
  unfold inV
  rw [List.any_append, pm.any_eq, ← any_split]
theorem inVd_ent {ds : List PyData} {es : List V} (h : VEnt (ds.map vD) es) (d : PyData) : inVd es d = inVd (ds.map vD) d := by
  unfold inVd
  have e : (fun x => valD x && inV (vD x) es) = fun x => valD x && inV (vD x) (ds.map vD) := funext fun x => by rw [inV_ent h]
  rw [e]
section
variable {X : Cx} {a b : Expr} {rest : List Expr} {pos : Pos} {ta tb : TE}
/-- a or b, a None or a text -/
def tOrN (ta tb : TE) : TE := fun σ H Q => ta σ H fun x H1 => (x = .non ∧ tb σ H1 Q) ∨ ∃ s : Str, x = .str s ∧ 1 ≤ s.length ∧ s.length ≤ 1000 ∧ Q (.str s) H1
theorem pe_orN (ha : PE X a ta) (hb : PE X (.BoolOp .Or (b :: rest) pos) tb) : PE X (.BoolOp .Or (a :: b :: rest) pos) (tOrN ta tb) := by
  refine ⟨fun pins s σ H Q I h => ?_⟩
  refine BoolOp_or (thn (ha.run pins s σ H _ I h) fun v s1 ⟨x, H1, I1, r1, q1⟩ => ?_)
  rcases q1 with ⟨rfl, q1⟩ | ⟨z, rfl, l, l2, q1⟩
  · cases r1
    refine PyProof.Rows.truthy_none ?_
    exact hb.run pins s1 σ H1 Q I1 q1
  · obtain ⟨t, rfl⟩ := r1
    refine PySem.P.truthy_str (by omega) ?_
    have e : ((z.length : Int) != 0) = true := by simp; omega
    rw [e]
    exact ⟨.str z, H1, I1.tok _, ⟨t, rfl⟩, q1⟩
end
end K26
set_option Elab.async false
set_option linter.all false
set_option maxRecDepth 100000
set_option maxHeartbeats 4000000
/-! _law_some_keys: one value of a key -/
namespace K26
open K34 PySem PySem.Spec PyProof.Rows L2 StX
abbrev bKeys : List Stmt := defBody sKeys
def forB : Stmt → List Stmt
  | .For _ _ b _ _ => b
  | _ => []
/-- the rows of the inner for -/
abbrev bOne : List Stmt := forB (nthS (forB (nthS bKeys 1)) 1)
abbrev NK : List Str := ["_law_pen_here", "_law_columns", "_law_bounds_here", "_law_found", "_law_k", "_law_point", "_law_place", "_law_some", "_law_value_here", "_law_label", "_law_sort", "_law_is_needed"]
theorem scKeys : FnScope NK ["_law_pen_here", "_law_columns", "_law_bounds_here"] (defScope sKeys) := ⟨rfl, rfl, rfl, by decide +kernel, rfl, by decide +kernel, by decide +kernel⟩
abbrev LKy (P : Program) (w : World) (K : PySem.W.Frag) (mg : Str → Option Value) (base : Heap) (f : Addr) (cdv : Value) (A : Around) (outer : List Env) (s : Shared) (H : Hp) (E : XK) : Cx := (cxOf CX0 P w K mg base NK "_law_some_keys" (defScope sKeys) f cdv A outer s H E).nox
/-- a value of this kind, no sign -/
def ValE (b : Bool) (e : En) : Prop := isSg e = false ∧ isWr e = b ∧ enOk e = true
/-- what one more value must lead to -/
def AftK (K : PySem.W.Frag) (b : Bool) (p c : Addr) (ns : List Int) (t : Int) (ds : List PyData) (s1 s2 s3 s4 s6 s9 s10 s11 : Option V) (H : Hp) (D : Ends) : Prop := ∀ (x' : Addr) (d : PyData) (t' l' : Int) (H' : Hp) (s7 s8 : Option V), valK b d = true → SqT K H' x' ((ds ++ [d]).map vD) → PenAt H' p c ns t' l' → t' ≤ t + 20 → But p H H' → D.nx [some (.ref p), s1, s2, s3, s4, some (.ref x'), s6, s7, s8, s9, s10, s11] H'
def tK3 (K : PySem.W.Frag) (b : Bool) : TS := fun D σ H => ∃ (p c x : Addr) (ns : List Int) (t l : Int) (ds : List PyData) (e : En) (s1 s2 s3 s4 s6 s7 s9 s10 s11 : Option V), σ = [some (.ref p), s1, s2, s3, s4, some (.ref x), s6, s7, some (enV e), s9, s10, s11] ∧ PenAt H p c ns t l ∧ t + 10 < 1000000000000 ∧ SqT K H x (ds.map vD) ∧ ds.length ≤ 10 ∧ ValE b e ∧
  (∀ (x' : Addr) (d : PyData) (t' l' : Int) (H' : Hp), valK b d = true → SqT K H' x' ((ds ++ [d]).map vD) → PenAt H' p c ns t' l' → t' ≤ t + 1 → But p H H' → D.nx [some (.ref p), s1, s2, s3, s4, some (.ref x'), s6, s7, some (enV e), s9, s10, s11] H')
section
variable {P : Program} {w : World} {K : PySem.W.Frag} {mg : Str → Option Value} {base : Heap} {f : Addr} {cdv : Value} {A : Around} {outer : List Env} {s : Shared} {H0 : Hp} {E : XK} {b : Bool}
theorem key3 (hr : Room 1 (LKy P w K mg base f cdv A outer s H0 E).A) (GD : Fn1 P w K mg base 1 "_law_draw" ["_law_pen_here", "_law_many"] spDraw) : PSs (LKy P w K mg base f cdv A outer s H0 E) [nthS bOne 3] (tK3 K b) := by
  have nd := scKeys.nd
  have base : PSs (LKy P w K mg base f cdv A outer s H0 E) [nthS bOne 3] _ :=
    (pss_one (ps_set (i := 5) nd rfl (Or.inl rfl) (pe_op op_catE (pv 5) (pe_ifExp (pt_cmpR op_eq (pe_call GD.ok hr rfl GD.g GD.k GD.b .nil pass0 (pa_cons (pv 0) (pa_cons pe_int pa_nil))) pe_int (nomark _)) (pe_tup (pa_cons pe_non pa_nil)) (pe_tup (pa_cons (pv 8) pa_nil))))))
  refine PSs.imp base fun D σ H h => ?_
  clear base
  obtain ⟨p, c, x, ns, t, l, ds, e, s1, s2, s3, s4, s6, s7, s9, s10, s11, rfl, D0, ht, hx, dl, ve, k⟩ := h
  refine ⟨_, rfl, _, rfl, p, c, ns, t, l, 5, rfl, D0, by omega, by decide, by decide, fun j t1 l1 H1 j0 j1 h1 D1 b1 => ?_⟩
  have hx1 := sqT_but D0.d b1 hx
  have go : ∀ (d : PyData), valK b d = true → ∀ (a : Addr), H1 a = none → rCatE K (.ref x) (.ref a) (upd H1 a (.tup [vD d])) fun z H2 => D.nx [some (.ref p), s1, s2, s3, s4, some z, s6, s7, some (enV e), s9, s10, s11] H2 := fun d hd a na => by
    have s9' := same_new (o := .tup [vD d]) (Same.refl H1) na
    refine ⟨x, a, ds.map vD, [vD d], rfl, rfl, sqT_same hx1 s9', SqT.of upd_same, by rw [List.length_map]; show ds.length + 1 ≤ 1000; omega, fun r H3 s3' h3 => ?_⟩
    refine k r d t1 l1 H3 hd ?_ ((D1.same s9').same s3') h1 (b1.trans (But.of (s9'.trans s3')))
    rw [List.map_append]
    exact h3
  refine ⟨rfl, _, rfl, ?_⟩
  refine ite2 (fun _ => ?_) (fun _ => ?_)
  · exact ⟨(by show 1 ≤ sizeLine; decide), fun a na => go .none rfl a na⟩
  · obtain ⟨v1, v2, v3⟩ := ve
    obtain ⟨ev, ed⟩ := en_val v1 v2 v3
    refine ⟨_, rfl, (by show 1 ≤ sizeLine; decide), fun a na => ?_⟩
    have z := go (enD e) ev a na
    rw [ed] at z
    exact z
/-- before the value is moved a little -/
def tK2 (K : PySem.W.Frag) (b : Bool) : TS := fun D σ H => ∃ (p c x : Addr) (ns : List Int) (t l : Int) (ds : List PyData) (e : En) (s1 s2 s3 s4 s6 s7 s9 s11 : Option V), σ = [some (.ref p), s1, s2, s3, s4, some (.ref x), s6, s7, some (enV e), s9, some (kV b), s11] ∧ PenAt H p c ns t l ∧ t + 20 < 1000000000000 ∧ SqT K H x (ds.map vD) ∧ ds.length ≤ 10 ∧ ValE b e ∧
  (∀ (x' : Addr) (d : PyData) (t' l' : Int) (H' : Hp) (s8 : Option V), valK b d = true → SqT K H' x' ((ds ++ [d]).map vD) → PenAt H' p c ns t' l' → t' ≤ t + 5 → But p H H' → D.nx [some (.ref p), s1, s2, s3, s4, some (.ref x'), s6, s7, s8, s9, some (kV b), s11] H')
theorem key2 (hr : Room 2 (LKy P w K mg base f cdv A outer s H0 E).A) (hMx : mg "max" = none) (hMn : mg "min" = none) (GD : Fn1 P w K mg base 1 "_law_draw" ["_law_pen_here", "_law_many"] spDraw) (GP : Fn1 P w K mg base 2 "_law_pick" ["_law_pen_here", "_law_options"] (spPick K)) (GN : Fn1 P w K mg base 1 "_law_next" ["_law_value_here"] spNext) :
    PSs (LKy P w K mg base f cdv A outer s H0 E) (nthS bOne 2 :: nthS bOne 3 :: []) (tK2 K b) := by
  have nd := scKeys.nd
  have hr1 : Room 1 (LKy P w K mg base f cdv A outer s H0 E).A := hr.mono (by decide)
  have base : PSs (LKy P w K mg base f cdv A outer s H0 E) (nthS bOne 2 :: nthS bOne 3 :: []) _ :=
    (pss_cons (ps_if (pt_cmpR op_eq (pv 10) pe_str (nomark _))
      (pss_one (ps_set (i := 8) nd rfl (Or.inl rfl) (pe_call GP.ok hr rfl GP.g GP.k GP.b .nil pass0 (pa_cons (pv 0) (pa_cons (pe_lst (pa_cons (pv 8) (pa_cons (pe_callB (call_max2 rfl) (by rfl) hMx (by decide +kernel) (pa_cons (pe_op op_sub (pv 8) pe_int) (pa_cons (pe_un un_neg (pe_op op_pow pe_int pe_int)) pa_nil))) (pa_cons (pe_callB (call_min2 rfl) (by rfl) hMn (by decide +kernel) (pa_cons (pe_op op_add (pv 8) pe_int) (pa_cons (pe_op op_pow pe_int pe_int) pa_nil))) pa_nil)))) pa_nil)))))
      (pss_one (ps_if (pt_cmpR op_eq (pe_call GD.ok hr1 rfl GD.g GD.k GD.b .nil pass0 (pa_cons (pv 0) (pa_cons pe_int pa_nil))) pe_int (nomark _)) (pss_one (ps_set (i := 8) nd rfl (Or.inl rfl) (pe_orN (pe_call GN.ok hr1 rfl GN.g GN.k GN.b .nil pass0 (pa_cons (pv 8) pa_nil)) (pe_one (pv 8))))) pss_nil)))
    (key3 (b := b) hr1 GD))
  refine PSs.imp base fun D σ H h => ?_
  clear base
  obtain ⟨p, c, x, ns, t, l, ds, e, s1, s2, s3, s4, s6, s7, s9, s11, rfl, D0, ht, hx, dl, ve, k⟩ := h
  have go : ∀ (e' : En) (t1 l1 : Int) (H1 : Hp), ValE b e' → PenAt H1 p c ns t1 l1 → t1 ≤ t + 2 → But p H H1 → tK3 K b D [some (.ref p), s1, s2, s3, s4, some (.ref x), s6, s7, some (enV e'), s9, some (kV b), s11] H1 := fun e' t1 l1 H1 ve' D1 h1 b1 =>
    ⟨p, c, x, ns, t1, l1, ds, e', _, _, _, _, _, _, _, _, _, rfl, D1, by omega, sqT_but D0.d b1 hx, dl, ve', fun x' d t' l' H' hd hx' D' h' b' => k x' d t' l' H' _ hd hx' D' (by omega) (b1.trans b')⟩
  obtain ⟨v1, v2, v3⟩ := id ve
  refine ⟨_, rfl, rfl, _, rfl, ?_⟩
  cases b with
  | false =>
    refine itT (by decide +kernel) ?_
    obtain ⟨i, rfl⟩ : ∃ i, e = .num i := by
      cases e with
      | num i => exact ⟨i, rfl⟩
      | wrd s => cases v2
      | lo => cases v1
      | hi => cases v1
    have iN : -(10 ^ 30) ≤ i ∧ i ≤ 10 ^ 30 := by
      have z : (decide (-(10 ^ 30 : Int) ≤ i) && decide (i ≤ (10 ^ 30 : Int))) = true := v3
      obtain ⟨z1, z2⟩ := Bool.and_eq_true_iff.mp z
      exact ⟨of_decide_eq_true z1, of_decide_eq_true z2⟩
    refine ⟨_, rfl, _, rfl, _, rfl, _, _, rfl, rfl, _, _, rfl, rfl, ⟨by decide, by decide, by decide⟩, _, rfl, _, _, rfl, _, rfl, _, _, rfl, rfl, _, _, rfl, rfl, ⟨by decide, by decide, by decide⟩, _, _, rfl, (by show 3 ≤ sizeLine; decide), fun q nq => ?_⟩
    refine ⟨p, c, q, ns, t, l, _, rfl, pen_new D0 nq, by omega, SqL.of upd_same, by simp, (by show 3 < 1000000; decide), fun v t1 l1 H1 hv h1 D1 b1 => ?_⟩
    have e30 : (10 : Int) ^ (30 : Int).toNat = 10 ^ 30 := rfl
    obtain ⟨i', rfl, hi'⟩ : ∃ i' : Int, v = V.int i' ∧ enOk (.num i') = true := by
      simp only [List.mem_cons, List.not_mem_nil, or_false] at hv
      rcases hv with h | h | h
      · exact ⟨i, h, v3⟩
      · refine ⟨_, h, ?_⟩
        rw [e30]
        split
        · exact isN_le (by omega) (by omega)
        · exact isN_le (by omega) (by omega)
      · refine ⟨_, h, ?_⟩
        rw [e30]
        split
        · exact isN_le (by omega) (by omega)
        · exact isN_le (by omega) (by omega)
    exact go (.num i') t1 l1 H1 ⟨rfl, rfl, hi'⟩ D1 (by omega) ((But.of (same_new (Same.refl H) nq)).trans b1)
  | true =>
    refine itF (by decide +kernel) ?_
    obtain ⟨z, rfl⟩ : ∃ z, e = .wrd z := by
      cases e with
      | num i => cases v2
      | wrd z => exact ⟨z, rfl⟩
      | lo => cases v1
      | hi => cases v1
    have wz : wordS z = true := v3
    refine ⟨_, rfl, p, c, ns, t, l, 3, rfl, D0, by omega, by decide, by decide, fun j t1 l1 H1 j0 j1 h1 D1 b1 => ?_⟩
    refine ⟨rfl, _, rfl, ?_⟩
    refine ite2 (fun _ => ?_) (fun _ => ?_)
    · refine ⟨_, rfl, z, rfl, wz, fun v hv => ?_⟩
      rcases hv with rfl | ⟨r, rfl, wr⟩
      · refine .inl ⟨rfl, _, rfl, ?_⟩
        exact go (.wrd z) t1 l1 H1 ve D1 (by omega) b1
      · refine .inr ⟨r, rfl, (wordS_of wr).1, by have := (wordS_of wr).2.1; omega, ?_⟩
        exact go (.wrd r) t1 l1 H1 ⟨rfl, rfl, wr⟩ D1 (by omega) b1
    · exact go (.wrd z) t1 l1 H1 ve D1 (by omega) b1
end
end K26
set_option Elab.async false
set_option linter.all false
set_option maxRecDepth 100000
set_option maxHeartbeats 4000000
/-! _law_some_keys: the rows of the inner for -/
namespace K26
open K34 PySem PySem.Spec PyProof.Rows L2 StX
def tK0 (K : PySem.W.Frag) (ks : List Bool) (n : Nat) (b : Bool) : TS := fun D σ H => ∃ (p c x ob : Addr) (ns : List Int) (t l : Int) (ds : List PyData) (bs : List (Addr × Bd)) (s1 s3 s4 s7 s8 s9 s11 : Option V), σ = [some (.ref p), s1, some (.ref ob), s3, s4, some (.ref x), some (.int (n : Nat)), s7, s8, s9, some (kV b), s11] ∧ PenAt H p c ns t l ∧ t + 40 < 1000000000000 ∧ SqT K H x (ds.map vD) ∧ ds.length ≤ 10 ∧
  SqL K H ob (refsD bs) ∧ BdsAt K H ks bs ∧ bs.length ≤ 6 ∧ ks[n]? = some b ∧ AftK K b p c ns t ds s1 (some (.ref ob)) s3 s4 (some (.int (n : Nat))) s9 (some (kV b)) s11 H D
section
variable {P : Program} {w : World} {K : PySem.W.Frag} {mg : Str → Option Value} {base : Heap} {f : Addr} {cdv : Value} {A : Around} {outer : List Env} {s : Shared} {H0 : Hp} {E : XK} {b : Bool} {ks : List Bool} {n : Nat}
theorem key0 (hr : Room 3 (LKy P w K mg base f cdv A outer s H0 E).A) (hMx : mg "max" = none) (hMn : mg "min" = none) (GD : Fn1 P w K mg base 1 "_law_draw" ["_law_pen_here", "_law_many"] spDraw) (GP : Fn1 P w K mg base 2 "_law_pick" ["_law_pen_here", "_law_options"] (spPick K)) (GN : Fn1 P w K mg base 1 "_law_next" ["_law_value_here"] spNext)
    (GC : Fn1 P w K mg base 1 "_law_constants" ["_law_bounds_here", "_law_place"] (spConsts K)) (GV : Fn1 P w K mg base 3 "_law_value" ["_law_pen_here", "_law_sort"] (spVal K)) :
    PSs (LKy P w K mg base f cdv A outer s H0 E) (nthS bOne 0 :: nthS bOne 1 :: nthS bOne 2 :: nthS bOne 3 :: []) (tK0 K ks n b) := by
  have nd := scKeys.nd
  have hr1 : Room 1 (LKy P w K mg base f cdv A outer s H0 E).A := hr.mono (by decide)
  have hr2 : Room 2 (LKy P w K mg base f cdv A outer s H0 E).A := hr.mono (by decide)
  have base : PSs (LKy P w K mg base f cdv A outer s H0 E) (nthS bOne 0 :: nthS bOne 1 :: nthS bOne 2 :: nthS bOne 3 :: []) _ :=
    (pss_cons (ps_set (i := 7) nd rfl (Or.inl rfl) (pe_call GC.ok hr1 rfl GC.g GC.k GC.b .nil pass0 (pa_cons (pv 2) (pa_cons (pv 6) pa_nil))))
    (pss_cons (ps_set (i := 8) nd rfl (Or.inl rfl) (pe_ifExp (PW.pt (pw_and (pt_cmpR (op_neNil hr.units0) (pv 7) (pe_lst pa_nil) (nomark _)) (pw_and1 (pt_cmpR op_gt (pe_call GD.ok hr1 rfl GD.g GD.k GD.b .nil pass0 (pa_cons (pv 0) (pa_cons pe_int pa_nil))) pe_int (nomark _))))) (pe_call GP.ok hr2 rfl GP.g GP.k GP.b .nil pass0 (pa_cons (pv 0) (pa_cons (pv 7) pa_nil))) (pe_call GV.ok hr rfl GV.g GV.k GV.b .nil pass0 (pa_cons (pv 0) (pa_cons (pv 10) pa_nil)))))
    (key2 (b := b) hr2 hMx hMn GD GP GN)))
  refine PSs.imp base fun D σ H h => ?_
  clear base
  obtain ⟨p, c, x, ob, ns, t, l, ds, bs, s1, s3, s4, s7, s8, s9, s11, rfl, D0, ht, hx, dl, hs, ba, lb, hk, k⟩ := h
  refine ⟨_, rfl, _, rfl, ob, n, b, ks, bs, rfl, hs, ba, lb, hk, fun q es H1 s1' ec el hq => ?_⟩
  have D1 := D0.same s1'
  have nqp : q ≠ p := fun z => by rw [z, D1.d] at hq; cases hq
  have go : ∀ (e' : En) (t1 l1 : Int) (H2 : Hp), ValE b e' → PenAt H2 p c ns t1 l1 → t1 ≤ t + 6 → But p H H2 → tK2 K b D [some (.ref p), s1, some (.ref ob), s3, s4, some (.ref x), some (.int (n : Nat)), some (.ref q), some (enV e'), s9, some (kV b), s11] H2 := fun e' t1 l1 H2 ve' D2 h1 b1 =>
    ⟨p, c, x, ns, t1, l1, ds, e', _, _, _, _, _, _, _, _, rfl, D2, by omega, sqT_but D0.d b1 hx, dl, ve', fun x' d t' l' H' s8' hd hx' D' h' b' => k x' d t' l' H' _ _ hd hx' D' (by omega) (b1.trans b')⟩
  refine ⟨_, rfl, (by show 0 ≤ sizeLine; decide), fun r nr => ?_⟩
  have s2 := same_new (o := .lst []) (Same.refl H1) nr
  refine ⟨q, r, _, rfl, rfl, SqL.of (up hq nr), SqL.of upd_same, _, rfl, ?_⟩
  generalize upd H1 r (.lst []) = H2 at s2 ⊢
  have D2 := D1.same s2
  have hq2 := s2 _ _ hq
  have b2 : But p H H2 := But.of (s1'.trans s2)
  have val : ∀ (t1 l1 : Int) (H3 : Hp), PenAt H3 p c ns t1 l1 → t1 ≤ t + 2 → But p H H3 → spVal K [.ref p, kV b] H3 (fun v H4 => tK2 K b D [some (.ref p), s1, some (.ref ob), s3, s4, some (.ref x), some (.int (n : Nat)), some (.ref q), some v, s9, some (kV b), s11] H4) E0 := fun t1 l1 H3 D3 h3 b3 =>
    ⟨p, c, ns, t1, l1, b, rfl, D3, by omega, fun e t4 l4 H4 e1 e2 e3 h4 D4 b4 => go e t4 l4 H4 ⟨e1, e2, e3⟩ D4 (by omega) (b3.trans b4)⟩
  cases es with
  | nil =>
    refine itF rfl ?_
    refine iteF ?_
    exact ⟨_, rfl, _, rfl, val t l H2 D2 (by omega) b2⟩
  | cons e0 es0 =>
    refine itT rfl ?_
    refine ⟨_, rfl, p, c, ns, t, l, 4, rfl, D2, by omega, by decide, by decide, fun j t3 l3 H3 j0 j1 h3 D3 b3 => ?_⟩
    refine ⟨_, _, rfl, rfl, _, rfl, ?_⟩
    by_cases jp : 0 < j
    · refine itT (decide_eq_true jp) ?_
      refine ⟨_, rfl, _, rfl, p, c, q, ns, t3, l3, _, rfl, D3, by omega, SqL.of (b3 _ _ nqp hq2), by simp, by rw [List.length_map]; omega, fun v t4 l4 H4 hv h4 D4 b4 => ?_⟩
      obtain ⟨e, he, rfl⟩ := List.mem_map.mp hv
      have ce := List.all_eq_true.mp ec e he
      obtain ⟨c1, c2⟩ := Bool.and_eq_true_iff.mp ce
      obtain ⟨c1, c3⟩ := Bool.and_eq_true_iff.mp c1
      exact go e t4 l4 H4 ⟨by simpa using c1, by simpa using c2, c3⟩ D4 (by omega) ((b2.trans b3).trans b4)
    · refine itF (decide_eq_false jp) ?_
      exact ⟨_, rfl, _, rfl, val t3 l3 H3 D3 (by omega) (b2.trans b3)⟩
end
end K26
set_option Elab.async false
set_option linter.all false
set_option maxRecDepth 100000
set_option maxHeartbeats 4000000
/-! _law_some_keys -/
namespace K26
open K34 PySem PySem.Spec PyProof.Rows L2 StX
def tKA (K : PySem.W.Frag) (ks : List Bool) : TS := fun D σ H => ∃ (n : Nat) (b : Bool), tK0 K ks n b D σ H
/-- keys at their addresses -/
def PtsAt (K : PySem.W.Frag) (H : Hp) (ks : List Bool) (pts : List (Addr × List PyData)) : Prop := ∀ d ∈ pts, SqT K H d.1 (d.2.map vD) ∧ PtOk ks d.2
abbrev refsP (pts : List (Addr × List PyData)) : List V := pts.map fun d => V.ref d.1
def spKeys (K : PySem.W.Frag) : Sp := fun vs H Q _ => ∃ (p c oc ob : Addr) (ns : List Int) (t l : Int) (cs : List (Addr × Bool)) (bs : List (Addr × Bd)), vs = [.ref p, .ref oc, .ref ob] ∧ PenAt H p c ns t l ∧ t + 2000 < 1000000000000 ∧ SqL K H oc (refsC cs) ∧ (∀ d ∈ cs, ColAt K H d) ∧ cs.length ≤ 2 ∧ SqL K H ob (refsD bs) ∧ BdsAt K H (cs.map (·.2)) bs ∧ bs.length ≤ 6 ∧
  ∀ (q : Addr) (pts : List (Addr × List PyData)) (t' l' : Int) (H' : Hp), PtsAt K H' (cs.map (·.2)) pts → pts.length = 12 → t' ≤ t + 1000 → PenAt H' p c ns t' l' → But p H H' → H' q = some (.lst (refsP pts)) → Q (.ref q) H'
section
variable {P : Program} {w : World} {K : PySem.W.Frag} {mg : Str → Option Value} {base : Heap} {f : Addr} {fd : FuncData}
theorem ok_keys (F : FnP K "_law_some_keys" sKeys f fd) (hR : mg "range" = none) (hE : mg "enumerate" = none) (hMx : mg "max" = none) (hMn : mg "min" = none) (GD : Fn1 P w K mg base 1 "_law_draw" ["_law_pen_here", "_law_many"] spDraw) (GP : Fn1 P w K mg base 2 "_law_pick" ["_law_pen_here", "_law_options"] (spPick K)) (GN : Fn1 P w K mg base 1 "_law_next" ["_law_value_here"] spNext)
    (GC : Fn1 P w K mg base 1 "_law_constants" ["_law_bounds_here", "_law_place"] (spConsts K)) (GV : Fn1 P w K mg base 3 "_law_value" ["_law_pen_here", "_law_sort"] (spVal K)) : FnOk P w K mg base CX0 4 f fd ["_law_pen_here", "_law_columns", "_law_bounds_here"] (spKeys K) := by
  refine F.ok scKeys (fun vs H Q E h => ?_) (fun cdv A outer s H vs Q E hr h => ?_)
  · obtain ⟨p, c, oc, ob, ns, t, l, cs, bs, rfl, _⟩ := h
    rfl
  · obtain ⟨p, c, oc, ob, ns, t, l, cs, bs, rfl, D, ht, hc, hca, cl, hb, hba, bl, k⟩ := h
    have nd := scKeys.nd
    have inner : PSs (LKy P w K mg base f cdv A outer s H E) (nthS bOne 0 :: nthS bOne 1 :: nthS bOne 2 :: nthS bOne 3 :: []) (tKA K (cs.map (·.2))) := ⟨fun pins s' σ H' D' I ⟨n, b, z⟩ => (key0 (n := n) (b := b) (ks := cs.map (·.2)) hr hMx hMn GD GP GN GC GV).run pins s' σ H' D' I z⟩
    refine ⟨_, PSs.nox (pss_cons (ps_set (i := 3) nd rfl (Or.inl rfl) (pe_lst pa_nil))
      (pss_cons (ps_for PassesOwn.never rfl (pi_range1 rfl hR (pa_cons pe_int pa_nil)) (pg_name (i := 4) nd rfl (Or.inl rfl))
        (pss_cons (ps_set (i := 5) nd rfl (Or.inl rfl) (pe_tup pa_nil))
        (pss_cons (ps_for PassesOwn.never rfl (pi_enum (by rfl) hE (pa_cons (pv 1) pa_nil)) (pg_tup rfl (pgs_cons (pg_name (i := 6) nd rfl (Or.inl rfl)) (pgs_cons (pg_tup rfl (pgs_cons (pg_name (i := 9) nd rfl (Or.inl rfl)) (pgs_cons (pg_name (i := 10) nd rfl (Or.inl rfl)) (pgs_cons (pg_name (i := 11) nd rfl (Or.inl rfl)) pgs_nil)))) pgs_nil))) inner)
        (pss_one (ps_expr (pe_bm PySem.F.plainAttrs_list PySem.F.slot_list_append PySem.F.type_list_append mt_append (pv 3) (pa_cons (pv 5) pa_nil)))))))
      (pss_one (ps_ret (pv 3))))), ?_⟩
    refine ⟨(by show 0 ≤ sizeLine; decide), fun q nq => ?_⟩
    have s1 := same_new (o := .lst []) (Same.refl H) nq
    have x1 : (upd H q (.lst [])) q = some (.lst []) := upd_same
    generalize upd H q (.lst []) = H1 at s1 x1 ⊢
    refine ⟨_, rfl, (by decide), (by decide), for_range (lo := 0) (n := 12) (fun i σ H' => ∃ (pts : List (Addr × List PyData)) (t' l' : Int) (v4 v5 v6 v7 v8 v9 v10 v11 : Option V), σ = [some (.ref p), some (.ref oc), some (.ref ob), some (.ref q), v4, v5, v6, v7, v8, v9, v10, v11] ∧ H' q = some (.lst (refsP pts)) ∧ PtsAt K H' (cs.map (·.2)) pts ∧ pts.length = i ∧ PenAt H' p c ns t' l' ∧ t' ≤ t + 50 * (i : Int) ∧ But p H H')
      ⟨[], t, l, none, none, none, none, none, none, none, none, rfl, x1, (fun d hd => by cases hd), rfl, D.same s1, by omega, But.of s1⟩ ?_ ?_⟩
    · rintro i σ H2 hi ⟨pts, t2, l2, v4, v5, v6, v7, v8, v9, v10, v11, rfl, y1, y2, y3, D2, h2, b2⟩
      have nqp : q ≠ p := fun z => by rw [z, D2.d] at y1; cases y1
      refine ⟨(by show 0 ≤ sizeLine; decide), fun x0 n0 => ?_⟩
      have s3 := same_new (o := .tup []) (Same.refl H2) n0
      have z0 : (upd H2 x0 (.tup [])) x0 = some (.tup []) := upd_same
      generalize upd H2 x0 (.tup []) = H3 at s3 z0 ⊢
      have D3 := D2.same s3
      have b3 : But p H H3 := b2.trans (But.of s3)
      refine ⟨_, rfl, oc, _, rfl, sqL_but D.d b3 hc, ?_⟩
      refine for_it (walk_enum (K := K) (a := oc) (xs := refsC cs)) (fun j σ H' => ∃ (x : Addr) (ds : List PyData) (t' l' : Int) (u6 u7 u8 u9 u10 u11 : Option V), σ = [some (.ref p), some (.ref oc), some (.ref ob), some (.ref q), some (.int (0 + (i : Nat))), some (.ref x), u6, u7, u8, u9, u10, u11] ∧ SqT K H' x (ds.map vD) ∧ ds.length = j ∧ (∀ (m : Nat) (b : Bool) (d : PyData), (cs.map (·.2))[m]? = some b → ds[m]? = some d → valK b d = true) ∧ PenAt H' p c ns t' l' ∧ t' ≤ t2 + 20 * (j : Int) ∧ But p H3 H')
        ⟨x0, [], t2, l2, _, _, _, _, _, _, rfl, SqT.of z0, rfl, (fun m b d _ e => by simp at e), D3, by omega, But.refl p H3⟩ (fun j σ H' _ y => by obtain ⟨_, _, _, _, _, _, _, _, _, _, _, _, _, _, _, _, y⟩ := y; exact sqL_but D.d (b3.trans y) hc) ?_ ?_
      · rintro j z σ H4 H5 hj ⟨x, ds, t4, l4, u6, u7, u8, u9, u10, u11, rfl, w1, w2, w3, D4, h4, b4⟩ ⟨TT, x1, x2, rfl, nT, rfl, e1, e2⟩
        have e1 : some (V.int (j : Nat)) = some x1 := e1
        cases e1
        have e2 : (refsC cs)[j]? = some x2 := e2
        rw [List.getElem?_map] at e2
        obtain ⟨cd, hcd, rfl⟩ := Option.map_eq_some_iff.mp e2
        have s5 := same_new (o := .tup [V.int (j : Nat), V.ref cd.1]) (Same.refl H4) nT
        have z5 : (upd H4 TT (.tup [V.int (j : Nat), V.ref cd.1])) TT = some (.tup [V.int (j : Nat), V.ref cd.1]) := upd_same
        generalize upd H4 TT (.tup [V.int (j : Nat), V.ref cd.1]) = H5 at s5 z5 ⊢
        obtain ⟨nm, rq, hcol⟩ := ((hca cd (List.mem_of_getElem? hcd)).but D.d (b3.trans b4)).same s5
        have jl : j < cs.length := (List.getElem?_eq_some_iff.mp hcd).1
        have hk : (cs.map (·.2))[j]? = some cd.2 := by rw [List.getElem?_map, hcd]; rfl
        refine ⟨TT, _, rfl, SqT.of z5, rfl, _, _, rfl, _, _, rfl, cd.1, _, rfl, hcol, rfl, _, _, rfl, _, _, rfl, _, _, rfl, rfl, rfl, ?_⟩
        have b5 : But p H H5 := (b3.trans b4).trans (But.of s5)
        have D5 := D4.same s5
        have w4 := w2
        refine ⟨j, cd.2, p, c, x, ob, ns, t4, l4, ds, bs, _, _, _, _, _, _, _, rfl, D5, by omega, sqT_same w1 s5, by omega, sqL_but D.d b5 hb, hba.but D.d b5, bl, hk, fun x' d t' l' H' s7 s8 hd hx' D' h' b' => ?_⟩
        refine ⟨x', ds ++ [d], t', l', _, _, _, _, _, _, rfl, hx', by rw [List.length_append, w2]; rfl, fun m b d' q1 q2 => ?_, D', by push_cast; omega, (b4.trans (But.of s5)).trans b'⟩
        by_cases hm : m < ds.length
        · rw [List.getElem?_append_left hm] at q2
          exact w3 m b d' q1 q2
        · have hl : m < (ds ++ [d]).length := (List.getElem?_eq_some_iff.mp q2).1
          rw [List.length_append, List.length_singleton] at hl
          have e : m = ds.length := by omega
          subst e
          rw [List.getElem?_concat_length] at q2
          cases q2
          rw [w2, hk] at q1
          cases q1
          exact hd
      · rintro σ H4 ⟨x, ds, t4, l4, u6, u7, u8, u9, u10, u11, rfl, w1, w2, w3, D4, h4, b4⟩
        have w2 : ds.length = (refsC cs).length := w2
        rw [List.length_map] at w2
        have h4 : t4 ≤ t2 + 20 * (((refsC cs).length : Nat) : Int) := h4
        rw [List.length_map] at h4
        have yq := b4 _ _ nqp (s3 _ _ y1)
        have ncc : c ≠ q := fun z => by
          have := D.c
          rw [z, nq] at this
          cases this
        refine ⟨_, rfl, .inl ⟨rfl, _, SqL.of yq⟩, _, rfl, q, refsP pts, _, rfl, rfl, yq, by rw [List.length_map, sizeLine_eq]; omega, ?_⟩
        refine ⟨pts ++ [(x, ds)], t4, l4, _, _, _, _, _, _, _, _, rfl, by rw [upd_same]; show some (HO.lst (pts.map (fun d => V.ref d.1) ++ [V.ref x])) = some (HO.lst ((pts ++ [(x, ds)]).map fun d => V.ref d.1)); rw [List.map_append]; rfl, fun d hd => ?_, by rw [List.length_append, y3]; rfl, ⟨by rw [upd_ne (Ne.symm nqp)]; exact D4.d, by rw [upd_ne ncc]; exact D4.c, D4.ht, D4.hl, D4.hn⟩, by push_cast; omega, fun b' o' nb' e' => ?_⟩
        · rcases List.mem_append.mp hd with hd | hd
          · exact ⟨sqT_lst yq (sqT_but D3.d b4 (sqT_same (y2 d hd).1 s3)), (y2 d hd).2⟩
          · rw [List.mem_singleton.mp hd]
            exact ⟨sqT_lst yq w1, by rw [List.length_map]; exact w2, w3⟩
        · rw [upd_ne (fun z => by rw [z, nq] at e'; cases e')]
          exact b4 b' o' nb' (b3 b' o' nb' e')
    · rintro σ H2 ⟨pts, t2, l2, v4, v5, v6, v7, v8, v9, v10, v11, rfl, y1, y2, y3, D2, h2, b2⟩
      exact ⟨_, rfl, k q pts t2 l2 H2 y2 y3 (by omega) D2 b2 y1⟩
end
end K26
set_option Elab.async false
set_option linter.all false
set_option maxRecDepth 100000
set_option maxHeartbeats 4000000
/-! x in a bound that was made -/
namespace K26
open K34 PySem PySem.Spec PyProof.Rows L2 StX
def inB (b : Bd) (d : PyData) : Bool := match b with
  | .rng es fs => inR es fs d
  | .rst m r => inT m r d
  | .vls ds => inVd (ds.map vD) d
theorem holds_in (b : Bd) (ds : List PyData) : holdsB b ds = inB b (.tuple ds) := by cases b <;> rfl
/-- an own __contains__ -/
structure InF (P : Program) (w : World) (K : PySem.W.Frag) (mg : Str → Option Value) (base : Heap) (c : Str) (k : Nat) (sp : Sp) where
  f : Addr
  fd : FuncData
  o : FnOk P w K mg base CX0 k f fd ["self", "x"] sp
  b : Binds K fd ["self", "x"] []
  s : PySem.W.findIn K (.ref (He.ga K c)) "__contains__" = some (some (.ref f))
  i : PySem.W.isFn K (.ref f) = true
def rInM (K : PySem.W.Frag) : R2 := fun x y H Q => ∃ (o : Addr) (b : Bd) (ks : List Bool) (d : PyData), y = .ref o ∧ MdAt K H o b ∧ BdOk ks b ∧ Tg K H x d ∧ sOkT d ∧ (itemsD d).length ≤ 100 ∧ ∀ H', Same H H' → Q (.bl (inB b d)) H'
theorem op_inM {X : Cx} (R : InF X.prog X.w X.K X.mg X.base "Range" 4 (spRIn X.K)) (V : InF X.prog X.w X.K X.mg X.base "Values" 3 (spVIn X.K)) (T : InF X.prog X.w X.K X.mg X.base "Rest" 2 (spTIn X.K)) (hr : Room 4 X.A) : OpR X (compareOp .In) (rInM X.K) := by
  intro pins s σ H x y v u Q I rx ry h
  obtain ⟨o, b, ks, d, rfl, hm, hb, tg, so, l, q⟩ := h
  cases b with
  | rng es fs =>
    have hm : RgAt X.K H o es fs := hm
    obtain ⟨⟨dx, p1, p2, ho, _⟩, _⟩ := id hm
    obtain ⟨⟨f1, f2⟩, _, _, _, l1, l2⟩ := hb
    exact op_inO R.o R.b hr R.s R.i pins s σ H x (.ref o) v u Q I rx ry ⟨o, dx, _, rfl, ho, o, es, fs, x, d, rfl, hm, by rw [f1.l, f2.l], by rw [f1.l]; omega, tg, so, l, fun H' s' => ⟨_, rfl, q H' s'⟩⟩
  | rst m r =>
    have hm : RsAt X.K H o m r := hm
    obtain ⟨dx, ho⟩ := id hm
    obtain ⟨hb, _⟩ := hb
    have m1 : 1 < m := by
      have z := (Bool.and_eq_true_iff.mp (Bool.and_eq_true_iff.mp (Bool.and_eq_true_iff.mp hb).2).1).1
      exact of_decide_eq_true z
    exact op_inO T.o T.b (hr.mono (by decide)) T.s T.i pins s σ H x (.ref o) v u Q I rx ry ⟨o, dx, _, rfl, ho, o, m, r, x, d, rfl, hm, m1, tg, so, l, fun H' s' => ⟨_, rfl, q H' s'⟩⟩
  | vls ds =>
    obtain ⟨es, ve, hm⟩ := hm
    obtain ⟨⟨dx, p1, ho, _⟩, _⟩ := id hm
    refine op_inO V.o V.b (hr.mono (by decide)) V.s V.i pins s σ H x (.ref o) v u Q I rx ry ⟨o, dx, _, rfl, ho, o, es, x, d, rfl, hm, tg, so, l, fun H' s' => ⟨_, rfl, ?_⟩⟩
    rw [inVd_ent ve]
    exact q H' s'
end K26
set_option Elab.async false
set_option linter.all false
set_option maxRecDepth 100000
set_option maxHeartbeats 4000000
/-! a value of the other kind is in no bound -/
namespace K26
open K34 PySem PySem.Spec PyProof.Rows L2 StX
def alienD (b : Bool) : PyData := if b = true then .int 0 else .str "a"
def hasEnt (n : Nat) : Bd → Prop
  | .rng es fs => (∃ e, es[n]? = some e ∧ isSg e = false) ∨ ∃ e, fs[n]? = some e ∧ isSg e = false
  | _ => True
theorem agr_bad {gs es : List En} {n : Nat} {g e : En} (h1 : gs[n]? = some g) (h2 : es[n]? = some e) (h : agr1 (g, e) = false) : agr gs es = false := by
  cases q : agr gs es with
  | false => rfl
  | true =>
    obtain ⟨g1, rfl⟩ := List.getElem?_eq_some_iff.mp h1
    obtain ⟨g2, rfl⟩ := List.getElem?_eq_some_iff.mp h2
    have z := List.all_eq_true.mp q (gs[n], es[n]) (List.mem_iff_getElem.mpr ⟨n, by rw [List.length_zip]; omega, List.getElem_zip⟩)
    rw [h] at z
    cases z
theorem agr_alien {b : Bool} {e : En} (h : fitE e b = true) (s : isSg e = false) : agr1 (enOf (alienD b), e) = false := by
  unfold fitE at h
  rw [s, Bool.false_or] at h
  have a1 : enOf (.str "a") = .wrd "a" := enOfS_w (by decide +kernel) (by decide +kernel)
  cases e with
  | lo => cases s
  | hi => cases s
  | num i =>
    cases b with
    | true => cases h
    | false =>
      show agr1 (enOf (.str "a"), _) = false
      rw [a1]
      rfl
  | wrd i =>
    cases b with
    | false => cases h
    | true => rfl
theorem alien_in {ks : List Bool} {b : Bd} (h : BdOk ks b) {n : Nat} {kb : Bool} (hk : ks[n]? = some kb) {ds : List PyData} (ha : ds[n]? = some (alienD kb)) (ent : hasEnt n b) : inB b (.tuple ds) = false := by
  cases b with
  | rng es fs =>
    obtain ⟨⟨f1, f2⟩, _⟩ := h
    have hg : (ds.map enOf)[n]? = some (enOf (alienD kb)) := by rw [List.getElem?_map, ha]; rfl
    have bad : (agr (ds.map enOf) es && agr (ds.map enOf) fs) = false := by
      rcases ent with ⟨e, he, se⟩ | ⟨e, he, se⟩
      · rw [agr_bad hg he (agr_alien (f1.t n e kb he hk) se), Bool.false_and]
      · rw [agr_bad hg he (agr_alien (f2.t n e kb he hk) se), Bool.and_false]
    show ((true && decide (ds.length = es.length)) && (ds.all nwD && ((agr (ds.map enOf) es && agr (ds.map enOf) fs) && (leEs es (ds.map enOf) && ltEs (ds.map enOf) fs)))) = false
    rw [bad, Bool.false_and, Bool.and_false, Bool.and_false]
  | rst m r =>
    obtain ⟨_, hk0⟩ := h
    subst hk0
    have n0 : n = 0 := by
      have := (List.getElem?_eq_some_iff.mp hk).1
      simpa using this
    subst n0
    cases hk
    match ds, ha with
    | [d], ha =>
      cases ha
      rfl
    | _ :: _ :: _, _ => rfl
  | vls vs =>
    obtain ⟨_, b0, hk0, hv⟩ := h
    subst hk0
    have n0 : n = 0 := by
      have := (List.getElem?_eq_some_iff.mp hk).1
      simpa using this
    subst n0
    cases hk
    match ds, ha with
    | [d], ha =>
      cases ha
      show (valD (alienD kb) && inV (vD (alienD kb)) (vs.map vD)) = false
      have z : inV (vD (alienD kb)) (vs.map vD) = false := by
        unfold inV
        rw [List.any_map]
        refine List.any_eq_false.mpr fun v hvv => ?_
        have k := List.all_eq_true.mp hv v hvv
        cases kb with
        | true =>
          cases v with
          | str s => intro z; cases z
          | none => intro z; cases z
          | int i => exact absurd (show (false && isN (.int i)) = true from k) (by rw [Bool.false_and]; exact Bool.false_ne_true)
          | _ => exact Bool.noConfusion k
        | false =>
          cases v with
          | int s => intro z; cases z
          | none => intro z; cases z
          | str i => exact absurd (show (false && wordS i) = true from k) (by rw [Bool.false_and]; exact Bool.false_ne_true)
          | _ => exact Bool.noConfusion k
      rw [z, Bool.and_false]
    | _ :: _ :: _, _ => rfl
end K26
set_option Elab.async false
set_option linter.all false
set_option maxRecDepth 100000
set_option maxHeartbeats 4000000
/-! the nine odd keys are in no bound -/
namespace K26
open K34 PySem PySem.Spec PyProof.Rows L2 StX
def oddD : List PyData := [.bool true, .bool false, .str "A", .int (10 ^ 30 + 1), .int (-10 ^ 30 - 1), .tuple [.int 1], .str "", .str "abcdefghi", .list []]
theorem odd_nw : ∀ d ∈ oddD, nwD d = false ∧ valD d = false := by
  intro d hd
  simp only [oddD, List.mem_cons, List.not_mem_nil, or_false] at hd
  rcases hd with rfl | rfl | rfl | rfl | rfl | rfl | rfl | rfl | rfl <;> exact ⟨by decide +kernel, by decide +kernel⟩
theorem odd_in (b : Bd) {d : PyData} (hd : d ∈ oddD) : inB b (.tuple [d]) = false := by
  obtain ⟨h1, h2⟩ := odd_nw d hd
  cases b with
  | rng es fs =>
    show ((true && decide (([d] : List PyData).length = es.length)) && ((nwD d && true) && _)) = false
    rw [h1]
    show (_ && false) = false
    rw [Bool.and_false]
  | rst m r =>
    show restE m r d = false
    cases d with
    | int i =>
      have z : isN (.int i) = false := by
        have z : (isN (.int i) || isW (.int i)) = false := h1
        exact (Bool.or_eq_false_iff.mp z).1
      show (isN (.int i) && _) = false
      rw [z, Bool.false_and]
    | _ => rfl
  | vls ds =>
    show (valD d && _) = false
    rw [h2, Bool.false_and]
/-- what a bound holds is a tuple of its length -/
theorem in_tup {b : Bd} {ks : List Bool} (hb : BdOk ks b) {d : PyData} (h : inB b d = true) : ∃ ds, d = .tuple ds ∧ ds.length = ks.length := by
  cases d with
  | tuple ds =>
    refine ⟨ds, rfl, ?_⟩
    cases b with
    | rng es fs =>
      have z := (Bool.and_eq_true_iff.mp (Bool.and_eq_true_iff.mp h).1).2
      have z : ds.length = es.length := of_decide_eq_true z
      rw [z, hb.1.1.l]
    | rst m r =>
      obtain ⟨_, hk⟩ := hb
      subst hk
      by_cases l : ds.length = 1
      · exact l
      · have h : oneD (restE m r) (.tuple ds) = true := h
        rw [oneD_len l] at h
        cases h
    | vls vs =>
      obtain ⟨_, b0, hk, _⟩ := hb
      subst hk
      by_cases l : ds.length = 1
      · exact l
      · have h : oneD _ (.tuple ds) = true := h
        rw [oneD_len l] at h
        cases h
  | _ => cases b <;> exact Bool.noConfusion h
end K26
set_option Elab.async false
set_option linter.all false
set_option maxRecDepth 100000
set_option maxHeartbeats 4000000
/-! != of data, whatever it says -/
namespace K26
open K34 PySem PySem.Spec PyProof.Rows L2 StX
def rNeD (K : PySem.W.Frag) : R2 := fun x y H Q => ∃ d1 d2 : PyData, Tg K H x d1 ∧ Tg K H y d2 ∧ d1.layable0 = true ∧ d2.layable0 = true ∧ ∀ b : Bool, Q (.bl b) H
theorem op_neD {X : Cx} (hu : X.A.units + 64 < cLine) : OpR X (compareOp .NotEq) (rNeD X.K) := by
  intro pins s σ H x y v u Q I rx ry h
  obtain ⟨d1, d2, t1, t2, l1, l2, q⟩ := h
  obtain ⟨as, ra, _⟩ := t1.reads2 I rx
  obtain ⟨bs, rb, _⟩ := t2.reads2 I ry
  exact PyProof.Rows.ne_dataS ra rb l1 l2 hu ⟨.bl _, H, I, rfl, q _⟩
end K26
set_option Elab.async false
set_option linter.all false
set_option maxRecDepth 100000
set_option maxHeartbeats 4000000
/-! != of a dict and a tuple; != of any value and a tuple -/
namespace K26N
open PySem PySem.SeqAt PySem.Builtin
open AutoSeq1 (wpAny_loadPart')
open MeetsSeq
theorem tuple_declines (l b : Addr) (items : Array Value) (n : Nat) (dd : Option Addr) (sl : Array (Option Value)) (o : Obj) (es : Array DictEntry) (m : Nat) (hc : o.cls = .type "dict") (hd : o.data = .dict es m) :
    Meets (Builtin.«tuple.__ne__» ⟨[.ref l, .ref b], []⟩) (fun _ R s => s.heap.get? l = some { cls := .type "tuple", dict := dd, data := .seq items n, slots := sl } ∧ s.heap.get? b = some o ∧ R (.ok (.ret .notImplemented)) s) :=
  .of_wp fun prog w A R s h => by
    obtain ⟨hp, g, d, tk, os⟩ := s
    obtain ⟨hl, hb, h⟩ := h
    obtain ⟨oc, od, dt, osl⟩ := o
    simp only at hd hc
    subst hd hc
    have f1 := F.sub_dict_tuple
    wp_walk using wpAny_loadPart' hl, wpAny_loadPart' hb
    exact ⟨_, rfl, h⟩
theorem dict_declines (l b : Addr) (items : Array Value) (n : Nat) (dd : Option Addr) (sl : Array (Option Value)) (o : Obj) (es : Array DictEntry) (m : Nat) (hc : o.cls = .type "dict") (hd : o.data = .dict es m) :
    Meets (Builtin.«dict.__ne__» ⟨[.ref b, .ref l], []⟩) (fun _ R s => s.heap.get? l = some { cls := .type "tuple", dict := dd, data := .seq items n, slots := sl } ∧ s.heap.get? b = some o ∧ R (.ok (.ret .notImplemented)) s) :=
  .of_wp fun prog w A R s h => by
    obtain ⟨hp, g, d, tk, os⟩ := s
    obtain ⟨hl, hb, h⟩ := h
    obtain ⟨oc, od, dt, osl⟩ := o
    simp only at hd hc
    subst hd hc
    have f1 := F.sub_tuple_dict
    unfold Builtin.«dict.__ne__»
    wp_walk using wpAny_loadPart' hl, wpAny_loadPart' hb, wpAny_load hl, wpAny_load hb
    exact ⟨_, rfl, h⟩
section
variable {A : Around} {s : Shared}
theorem rc_dict_tuple {l b : Addr} {items : Array Value} {o : Obj} {es : Array DictEntry} {m : Nat} (hl : s.heap.IsTuple l items) (hb : s.heap.get? b = some o) (hc : o.cls = .type "dict") (hd : o.data = .dict es m) (hu : A.units < cLine) : RcNeAt A s (.ref b) (.ref l) true := fun prog w E Q h => by
  obtain ⟨⟨cls, dd, data, sl⟩, ho, hc1, n, hd1⟩ := id hl
  simp only at hc1 hd1
  subst hc1 hd1
  have hne : b ≠ l := fun e => by
    subst e
    rw [ho] at hb
    cases hb
    injection hc with z
    exact absurd z (by decide)
  exact rc_ne_decline_or (k := false) ⟨_, hb, hc⟩ ⟨_, ho, rfl⟩ (by decide) F.sub_tuple_dict F.slot_dict_ne F.slot_tuple_ne_refl
    (fun _ hq => call_meets F.slot_dict_ne ⟨_, hb, hc⟩ F.entry_dict_ne (F.args_dict_ne_2 _ _) (dict_declines l b items n dd sl o es m hc hd) ⟨ho, hb, hq⟩)
    (fun _ hq => call_meets F.slot_tuple_ne_refl ⟨_, ho, rfl⟩ F.entry_tuple_ne (F.args_tuple_ne_2 _ _) (tuple_declines l b items n dd sl o es m hc hd) ⟨ho, hb, hq⟩)
    (fun _ hq => wpAny_isSame_ref_other hne hb ho (by rw [hc]; decide) hq) (.inr hu) h
end
end K26N
namespace K26
open K34 PySem PySem.Spec PyProof.Rows L2 StX
def rNeA (K : PySem.W.Frag) : R2 := fun x y H Q => ∃ (p : Addr) (d1 : PyData) (ds : List PyData), y = .ref p ∧ Tg K H x d1 ∧ Tg K H y (.tuple ds) ∧ lOk d1 = true ∧ (PyData.tuple ds).layable0 = true ∧ ∀ b : Bool, Q (.bl b) H
theorem op_neA {X : Cx} (hu : X.A.units + 64 < cLine) : OpR X (compareOp .NotEq) (rNeA X.K) := by
  intro pins s σ H x y v u Q I rx ry h
  obtain ⟨p, d1, ds, rfl, t1, t2, l1, l2, q⟩ := h
  cases hd : (match d1 with | .dict _ => true | _ => false) with
  | false =>
    refine op_neD hu pins s σ H x _ v u Q I rx ry ⟨d1, .tuple ds, t1, t2, ?_, l2, q⟩
    cases d1 <;> first | exact l1 | cases hd
  | true =>
    have tp : ∃ xs, SqT X.K H p xs := by
      cases t2 with
      | tup h _ _ => exact ⟨_, h⟩
      | oth t n => cases n
    obtain ⟨xs, hx⟩ := tp
    cases ry
    obtain ⟨its, r, pl, hz⟩ := I.tuple hx
    have kd : ∀ {a : Addr} {kvs : List (Key × V)}, H a = some (.dK kvs) → v = .ref a → wpAny (model X.prog X.w) X.A (compareOp .NotEq v (.ref p)) (EP X pins σ Q) X.xe s := fun {a kvs} h e => by
      subst e
      obtain ⟨_, hn, vs, rel, o, es, ep, ho, hx, hd, he⟩ := dk_of I.hok h
      exact K26N.rc_dict_tuple pl ho hx.1 hd (by omega) X.prog X.w X.xe _ ⟨.bl true, H, I, rfl, q true⟩
    cases t1 with
    | tup h _ _ => cases hd
    | oth t n =>
      cases t with
      | dp h n => cases h <;> cases hd
      | d0 h => exact kd h rx
      | d1 h => exact kd h rx
end K26
set_option Elab.async false
set_option linter.all false
set_option maxRecDepth 100000
set_option maxHeartbeats 4000000
/-! _law_alien_right: the rows that try the key with a value of the other kind -/
namespace K26
open K34 PySem PySem.Spec PyProof.Rows L2 StX
theorem MdAt.same {K : PySem.W.Frag} {H H' : Hp} {o : Addr} {b : Bd} (h : MdAt K H o b) (s : Same H H') : MdAt K H' o b := by
  cases b with
  | rng es fs => exact RgAt.same h s
  | rst m r => exact RsAt.same h s
  | vls ds =>
    obtain ⟨es, ve, h⟩ := h
    exact ⟨es, ve, VlAt.same h s⟩
theorem op_inMK {X : Cx} {P : Program} {w : World} {K : PySem.W.Frag} {mg : Str → Option Value} {base : Heap} (e : X.prog = P ∧ X.w = w ∧ X.K = K ∧ X.mg = mg ∧ X.base = base) (R : InF P w K mg base "Range" 4 (spRIn K)) (Vf : InF P w K mg base "Values" 3 (spVIn K)) (T : InF P w K mg base "Rest" 2 (spTIn K)) (hr : Room 4 X.A) : OpR X (compareOp .In) (rInM K) := by
  obtain ⟨rfl, rfl, rfl, rfl, rfl⟩ := e
  exact op_inM R Vf T hr
/-- xs == () -/
def rEqT0 (K : PySem.W.Frag) : R2 := fun x y H Q => ∃ (a b : Addr) (xs : List V), x = .ref a ∧ y = .ref b ∧ SqT K H a xs ∧ SqT K H b [] ∧ Q (.bl xs.isEmpty) H
theorem op_eqT0 {X : Cx} (hu : X.A.units < cLine) : OpR X (compareOp .Eq) (rEqT0 X.K) := by
  intro pins s σ H x y v u Q I rx ry h
  obtain ⟨a, b, xs, rfl, rfl, h1, h2, q⟩ := h
  cases rx
  cases ry
  obtain ⟨its, r, pl, hz⟩ := I.tuple h1
  obtain ⟨its2, r2, pl2, hz2⟩ := I.tuple h2
  cases r2
  refine SeqAt.eq_tupleAt (e := fun _ => true) pl pl2 hu (fun j k1 k2 => absurd k2 (Nat.not_lt_zero _)) ⟨.bl _, H, I, rfl, ?_⟩
  cases r with
  | nil => exact q
  | cons r1 r2 => exact q
abbrev bAl : List Stmt := defBody sAlien
abbrev bAlF : List Stmt := forB (nthS bAl 2)
abbrev NA : List Str := ["_law_made", "_law_bound_here", "_law_point", "_law_columns", "_law_some", "_law_place", "_law_alien", "_law_ends_here", "_law_entries", "_law_thing", "_law_end_here"]
theorem scAl : FnScope NA ["_law_made", "_law_bound_here", "_law_point", "_law_columns"] (defScope sAlien) := ⟨rfl, rfl, rfl, by decide +kernel, rfl, by decide +kernel, by decide +kernel⟩
abbrev LAl (P : Program) (w : World) (K : PySem.W.Frag) (mg : Str → Option Value) (base : Heap) (f : Addr) (cdv : Value) (A : Around) (outer : List Env) (s : Shared) (H : Hp) (E : XK) : Cx := (cxOf CX0 P w K mg base NA "_law_alien_right" (defScope sAlien) f cdv A outer s H E).nox
abbrev refsE (es : List (Addr × List En)) : List V := es.map fun d => V.ref d.1
def EdsAt (K : PySem.W.Frag) (H : Hp) (ks : List Bool) (ends : List (Addr × List En)) : Prop := ∀ d ∈ ends, SqT K H d.1 (d.2.map enV) ∧ d.2.all enOk = true ∧ Fits d.2 ks
theorem EdsAt.same {K : PySem.W.Frag} {H H' : Hp} {ks : List Bool} {ends : List (Addr × List En)} (h : EdsAt K H ks ends) (s : Same H H') : EdsAt K H' ks ends := fun d hd => ⟨sqT_same (h d hd).1 s, (h d hd).2⟩
def tA2 (K : PySem.W.Frag) (ks : List Bool) (n : Nat) (kb : Bool) : TS := fun D σ H => ∃ (o a x oc r : Addr) (b : Bd) (ds : List PyData) (ends : List (Addr × List En)) (s4 s8 s9 s10 : Option V), σ = [some (.ref o), some (.ref a), some (.ref x), some (.ref oc), s4, some (.int (n : Nat)), some (vD (alienD kb)), some (.ref r), s8, s9, s10] ∧ MdAt K H o b ∧ BdOk ks b ∧ SqT K H x (ds.map vD) ∧ PtOk ks ds ∧ ks[n]? = some kb ∧ ks.length ≤ 2 ∧
  SqT K H r (refsE ends) ∧ EdsAt K H ks ends ∧ ends.length ≤ 2 ∧ (ends = [] → hasEnt n b) ∧ ((∃ d ∈ ends, ∃ e, d.2[n]? = some e ∧ isSg e = false) → hasEnt n b) ∧
  ∀ (s8' : Option V) (H' : Hp), Same H H' → D.nx [some (.ref o), some (.ref a), some (.ref x), some (.ref oc), s4, some (.int (n : Nat)), some (vD (alienD kb)), some (.ref r), s8', s9, s10] H'
section
variable {P : Program} {w : World} {K : PySem.W.Frag} {mg : Str → Option Value} {base : Heap} {f : Addr} {cdv : Value} {A : Around} {outer : List Env} {s : Shared} {H0 : Hp} {E : XK} {ks : List Bool} {n : Nat} {kb : Bool}
theorem alr2 (hr : Room 4 (LAl P w K mg base f cdv A outer s H0 E).A) (hI : mg "int" = none) (R : InF P w K mg base "Range" 4 (spRIn K)) (Vf : InF P w K mg base "Values" 3 (spVIn K)) (T : InF P w K mg base "Rest" 2 (spTIn K)) :
    PSs (LAl P w K mg base f cdv A outer s H0 E) (nthS bAlF 2 :: nthS bAlF 3 :: []) (tA2 K ks n kb) := by
  have nd := scAl.nd
  have hu := hu_of hr
  have base : PSs (LAl P w K mg base f cdv A outer s H0 E) (nthS bAlF 2 :: nthS bAlF 3 :: []) _ :=
    (pss_cons (ps_set (i := 8) nd rfl (Or.inl rfl) (pe_op op_cat (pe_lc (own := [("_law_end_here", 10)]) (g := gName 10) rfl nd (pi_tup (pv 7)) (blkOk_by (N := NA) (sc := defScope sAlien) (by decide +kernel)) (fun _ _ _ _ _ => pg_name (i := 10) nd rfl (Or.inl rfl))
              (fun _ _ _ _ _ => pts_one (pt_cmpR (op_notInSK (K := K) rfl hu) (pe_ix (ix_tupK (K := K) rfl) (pv 10) (pv 5) (fun _ _ => rfl)) (pe_tup (pa_cons pe_str (pa_cons pe_str pa_nil))) (by rfl))) (fun _ _ _ _ _ => pe_ix (ix_tupK (K := K) rfl) (pv 10) (pv 5) (fun _ _ => rfl)))
        (pe_op op_rep (pe_lst (pa_cons pe_int pa_nil)) (pe_callTy call_int1 (by rfl) hI (by decide +kernel) (pa_cons (pe_cmpR (op_eqT0 hr.units0) (pv 7) (pe_tup pa_nil) (nomark _)) pa_nil)))))
    (pss_one (ps_if (PW.pt (pw_and (pt_cmpR (op_neNil hr.units0) (pv 8) (pe_lst pa_nil) (nomark _)) (pw_and1 (pt_cmpR (op_inMK (K := K) ⟨rfl, rfl, rfl, rfl, rfl⟩ R Vf T hr) (pe_op op_catE (pe_op op_catE (pe_slice sl_tupE (pv 2) po_none (po_some (pv 5))) (pe_tup (pa_cons (pv 6) pa_nil))) (pe_slice sl_tupE (pv 2) (po_some (pe_op op_add (pv 5) pe_int)) po_none)) (pv 0) (by rfl))))) (pss_one (ps_ret pe_bl)) pss_nil)))
  refine PSs.imp base fun D σ H h => ?_
  clear base
  obtain ⟨o, a, x, oc, r, b, ds, ends, s4, s8, s9, s10, rfl, hm, hb, hx, hp, hk, kl, hrr, he, el, e0, e1, k⟩ := h
  refine ⟨_, rfl, r, rfl, ⟨_, hrr⟩, fun D0 hD => ?_⟩
  have hD : H D0 = none := hD
  refine lc_it (walk_tup (K := K) (a := r) (xs := refsE ends)) (fun m H6 => ∃ gs : List En, H6 D0 = some (.lst (gs.map enV)) ∧ gs.length ≤ m ∧ (gs = [] ∨ hasEnt n b) ∧ Same H H6) ⟨[], upd_same, Nat.zero_le _, .inl rfl, same_new (Same.refl H) hD⟩ (fun m H6 _ y => by obtain ⟨_, _, _, _, y⟩ := y; exact sqT_same hrr y) ?_ ?_
  · rintro m x' Hy H6 hm' ⟨gs, z1, z3, z5, z4⟩ ⟨rfl, hx'⟩
    have hx' : (refsE ends)[m]? = some x' := hx'
    have hm' : m < (refsE ends).length := hm'
    rw [List.length_map] at hm'
    rw [List.getElem?_map] at hx'
    obtain ⟨⟨u, us⟩, hd, rfl⟩ := Option.map_eq_some_iff.mp hx'
    obtain ⟨hu1, hu2, hu3⟩ := he _ (List.mem_of_getElem? hd)
    have hu1 := sqT_same hu1 z4
    obtain ⟨e, hen⟩ : ∃ e, us[n]? = some e := ⟨_, List.getElem?_eq_getElem (by rw [hu3.l]; exact (List.getElem?_eq_some_iff.mp hk).1)⟩
    have eo := List.all_eq_true.mp hu2 e (List.mem_of_getElem? hen)
    have ea : atI (us.map enV) ((n : Nat) : Int) = some (enV e) := atI_nat (by rw [List.getElem?_map, hen]; rfl)
    refine ⟨rfl, ?_⟩
    refine ⟨_, rfl, _, rfl, u, _, _, enV e, rfl, rfl, hu1, ea, (by show 2 ≤ sizeLine; decide), fun p hp => ?_⟩
    have s7 := same_new (o := .tup [.str "-", .str "+"]) (Same.refl H6) hp
    refine ⟨p, ["-", "+"], enD e, rfl, SqT.of upd_same, en_th, _, rfl, ?_⟩
    rw [isIn_sg, (ent_of eo).2]
    generalize upd H6 p (.tup [.str "-", .str "+"]) = H7 at s7 ⊢
    cases sg : isSg e with
    | true =>
      refine itF rfl ?_
      exact ⟨gs, s7 _ _ z1, by omega, z5, z4.trans s7⟩
    | false =>
      refine itT rfl ?_
      refine ⟨_, rfl, _, rfl, u, _, _, enV e, rfl, rfl, sqT_same hu1 s7, ea, ?_⟩
      refine ⟨_, s7 _ _ z1, by rw [List.length_map, sizeLine_eq]; omega, gs ++ [e], by rw [upd_same, List.map_append]; rfl, by rw [List.length_append, List.length_singleton]; omega, .inr (e1 ⟨_, List.mem_of_getElem? hd, e, hen, sg⟩), fun b' o' e' => ?_⟩
      rw [upd_ne (fun z => by rw [z, hD] at e'; cases e')]
      exact s7 _ _ (z4 _ _ e')
  · rintro H6 ⟨gs, z1, z3, z5, z4⟩
    have z3 : gs.length ≤ (refsE ends).length := z3
    rw [List.length_map] at z3
    refine ⟨(by show 1 ≤ sizeLine; decide), fun l nl => ?_⟩
    have s7 := same_new (o := .lst [.int 0]) (Same.refl H6) nl
    have x7 : (upd H6 l (.lst [.int 0])) l = some (.lst [.int 0]) := upd_same
    generalize upd H6 l (.lst [.int 0]) = H7 at s7 x7 ⊢
    refine ⟨_, rfl, (by show 0 ≤ sizeLine; decide), fun z nz => ?_⟩
    have s8' := same_new (o := .tup []) (Same.refl H7) nz
    have x8 : (upd H7 z (.tup [])) z = some (.tup []) := upd_same
    generalize upd H7 z (.tup []) = H8 at s8' x8 ⊢
    have s68 := s7.trans s8'
    refine ⟨r, z, _, rfl, rfl, sqT_same hrr (z4.trans s68), SqT.of x8, .inr ⟨_, rfl, ?_⟩⟩
    obtain ⟨kk, hkk, kk1, kk2⟩ : ∃ kk : Nat, (if (refsE ends).isEmpty = true then (1 : Int) else 0) = (kk : Nat) ∧ kk ≤ 1 ∧ (1 ≤ kk → ends = []) := by
      cases ends with
      | nil => exact ⟨1, rfl, Nat.le_refl _, fun _ => rfl⟩
      | cons d ds => exact ⟨0, rfl, Nat.zero_le _, fun z => absurd z (by decide)⟩
    rw [hkk]
    refine ⟨l, _, _, rfl, rfl, s8' _ _ x7, by omega, by omega, (by show 1 * ((kk : Nat) : Int).toNat ≤ sizeLine; rw [sizeLine_eq]; omega), fun p1 n1 => ?_⟩
    have s9' := same_new (o := .lst (List.replicate ((kk : Nat) : Int).toNat [V.int 0]).flatten) (Same.refl H8) n1
    have x9 : (upd H8 p1 (.lst (List.replicate ((kk : Nat) : Int).toNat [V.int 0]).flatten)) p1 = some (.lst (List.replicate ((kk : Nat) : Int).toNat [V.int 0]).flatten) := upd_same
    generalize upd H8 p1 (.lst (List.replicate ((kk : Nat) : Int).toNat [V.int 0]).flatten) = H9 at s9' x9 ⊢
    have s69 := s68.trans s9'
    have lz : (List.replicate ((kk : Nat) : Int).toNat [V.int 0]).flatten.length = kk := by simp
    generalize (List.replicate ((kk : Nat) : Int).toNat [V.int 0]).flatten = zs at x9 lz ⊢
    refine ⟨D0, p1, _, _, rfl, rfl, s69 _ _ z1, x9, by rw [List.length_map, lz, sizeLine_eq]; omega, fun p2 n2 => ?_⟩
    have s10' := same_new (o := .lst (gs.map enV ++ zs)) (Same.refl H9) n2
    have x10 : (upd H9 p2 (.lst (gs.map enV ++ zs))) p2 = some (.lst (gs.map enV ++ zs)) := upd_same
    generalize upd H9 p2 (.lst (gs.map enV ++ zs)) = H10 at s10' x10 ⊢
    have sA := (z4.trans s69).trans s10'
    refine ⟨_, rfl, (by show 0 ≤ sizeLine; decide), fun p3 n3 => ?_⟩
    have s11 := same_new (o := .lst []) (Same.refl H10) n3
    have x11 : (upd H10 p3 (.lst [])) p3 = some (.lst []) := upd_same
    generalize upd H10 p3 (.lst []) = H11 at s11 x11 ⊢
    have sB := sA.trans s11
    refine ⟨p2, p3, _, rfl, rfl, SqL.of (s11 _ _ x10), SqL.of x11, _, rfl, ?_⟩
    cases hem : (gs.map enV ++ zs).isEmpty with
    | true =>
      refine itF rfl ?_
      exact k _ H11 sB
    | false =>
      refine itT rfl ?_
      have ent : hasEnt n b := by
        rcases z5 with rfl | z5
        · refine e0 (kk2 ?_)
          cases zs with
          | nil => cases hem
          | cons z1 zs => rw [← lz, List.length_cons]; omega
        · exact z5
      refine ⟨_, rfl, np ⟨_, rfl, _, rfl, x, _, rfl, sqT_same hx sB, fun t1 H12 s12 h12 => ?_⟩⟩
      rw [cut_take] at h12
      refine ⟨_, rfl, (by show 1 ≤ sizeLine; decide), fun t2 n4 => ?_⟩
      have s13 := same_new (o := .tup [vD (alienD kb)]) (Same.refl H12) n4
      have x13 : (upd H12 t2 (.tup [vD (alienD kb)])) t2 = some (.tup [vD (alienD kb)]) := upd_same
      generalize upd H12 t2 (.tup [vD (alienD kb)]) = H13 at s13 x13 ⊢
      have hlen : (ds.map vD).length ≤ 2 := by rw [List.length_map, hp.l]; exact kl
      refine ⟨t1, t2, _, _, rfl, rfl, sqT_same h12 s13, SqT.of x13, by rw [List.length_take]; show _ + 1 ≤ 1000; omega, fun t3 H14 s14 h14 => ?_⟩
      have s1214 := (s12.trans s13).trans s14
      refine ⟨_, rfl, _, rfl, _, _, rfl, rfl, _, rfl, x, _, rfl, sqT_same hx (sB.trans s1214), fun t4 H15 s15 h15 => ?_⟩
      rw [show ((n : Nat) : Int) + 1 = ((n + 1 : Nat) : Int) from rfl, cut_dropN] at h15
      refine ⟨t3, t4, _, _, rfl, rfl, sqT_same h14 s15, h15, by rw [List.length_append, List.length_take, List.length_drop]; show _ + 1 + _ ≤ 1000; omega, fun t5 H16 s16 h16 => ?_⟩
      have sC := ((sB.trans s1214).trans s15).trans s16
      have hn : n < ds.length := by rw [hp.l]; exact (List.getElem?_eq_some_iff.mp hk).1
      have eq : (List.take n (ds.map vD) ++ [vD (alienD kb)]) ++ List.drop (n + 1) (ds.map vD) = (ds.set n (alienD kb)).map vD := by
        rw [List.set_eq_take_append_cons_drop, if_pos hn, List.map_append, List.map_cons, List.map_take, List.map_drop, List.append_assoc]
        rfl
      rw [eq] at h16
      have hal : valK (!kb) (alienD kb) = true := by cases kb <;> decide +kernel
      have item : ∀ d ∈ ds.set n (alienD kb), ∃ b', valK b' d = true := fun d hd => by
        rcases List.mem_or_eq_of_mem_set hd with hd | rfl
        · obtain ⟨b', _, z⟩ := hp.any hd
          exact ⟨b', z⟩
        · exact ⟨_, hal⟩
      refine ⟨_, rfl, o, b, ks, .tuple (ds.set n (alienD kb)), rfl, hm.same sC, hb, .tup h16 (by rw [List.length_map]) (fun i v d q1 q2 => ?_), ⟨rfl, fun d hd => ?_⟩, ?_, fun H17 s17 => ⟨_, rfl, ?_⟩⟩
      · rw [List.getElem?_map, q2] at q1
        cases q1
        obtain ⟨b', z⟩ := item d (List.mem_of_getElem? q2)
        exact (th_vD z).1
      · obtain ⟨b', z⟩ := item d hd
        exact (th_vD (K := K) (H := H16) z).2
      · show (ds.set n (alienD kb)).length ≤ 100
        rw [List.length_set]
        rw [List.length_map] at hlen
        omega
      · rw [alien_in hb hk (by rw [List.getElem?_set_self hn]) ent]
        refine itF rfl ?_
        exact k _ H17 (sC.trans s17)
end
end K26
set_option Elab.async false
set_option linter.all false
set_option maxRecDepth 100000
set_option maxHeartbeats 4000000
/-! _law_alien_right -/
namespace K26
open K34 PySem PySem.Spec PyProof.Rows L2 StX
def tA1 (K : PySem.W.Frag) (ks : List Bool) (n : Nat) (kb : Bool) : TS := fun D σ H => ∃ (o a x oc : Addr) (b : Bd) (ds : List PyData) (s4 s7 s8 s9 s10 : Option V), σ = [some (.ref o), some (.ref a), some (.ref x), some (.ref oc), s4, some (.int (n : Nat)), some (vD (alienD kb)), s7, s8, s9, s10] ∧ MdAt K H o b ∧ BdAt K H a b ∧ BdOk ks b ∧ SqT K H x (ds.map vD) ∧ PtOk ks ds ∧ ks[n]? = some kb ∧ ks.length ≤ 2 ∧
  ∀ (s7' s8' : Option V) (H' : Hp), Same H H' → D.nx [some (.ref o), some (.ref a), some (.ref x), some (.ref oc), s4, some (.int (n : Nat)), some (vD (alienD kb)), s7', s8', s9, s10] H'
def tA0 (K : PySem.W.Frag) (ks : List Bool) (n : Nat) (kb : Bool) : TS := fun D σ H => ∃ (o a x oc : Addr) (b : Bd) (ds : List PyData) (cs : List (Addr × Bool)) (s4 s6 s7 s8 s9 s10 : Option V), σ = [some (.ref o), some (.ref a), some (.ref x), some (.ref oc), s4, some (.int (n : Nat)), s6, s7, s8, s9, s10] ∧ MdAt K H o b ∧ BdAt K H a b ∧ BdOk ks b ∧ SqT K H x (ds.map vD) ∧ PtOk ks ds ∧ ks[n]? = some kb ∧ ks.length ≤ 2 ∧
  ks = cs.map (·.2) ∧ SqL K H oc (refsC cs) ∧ (∀ d ∈ cs, ColAt K H d) ∧
  ∀ (s6' s7' s8' : Option V) (H' : Hp), Same H H' → D.nx [some (.ref o), some (.ref a), some (.ref x), some (.ref oc), s4, some (.int (n : Nat)), s6', s7', s8', s9, s10] H'
def tAA (K : PySem.W.Frag) : TS := fun D σ H => ∃ (ks : List Bool) (n : Nat) (kb : Bool), tA0 K ks n kb D σ H
/-- the rows after the odd keys -/
def tAF (K : PySem.W.Frag) : TS := fun D σ H => ∃ (o a x oc : Addr) (b : Bd) (ds : List PyData) (cs : List (Addr × Bool)) (s4 s5 s6 s7 s8 s9 s10 : Option V), σ = [some (.ref o), some (.ref a), some (.ref x), some (.ref oc), s4, s5, s6, s7, s8, s9, s10] ∧ MdAt K H o b ∧ BdAt K H a b ∧ BdOk (cs.map (·.2)) b ∧ SqT K H x (ds.map vD) ∧ PtOk (cs.map (·.2)) ds ∧ SqL K H oc (refsC cs) ∧ (∀ d ∈ cs, ColAt K H d) ∧ cs.length ≤ 2 ∧
  ∀ H' : Hp, Same H H' → D.rt (.bl true) H'
def spAl (K : PySem.W.Frag) : Sp := fun vs H Q _ => ∃ (o a x oc : Addr) (b : Bd) (ds : List PyData) (cs : List (Addr × Bool)), vs = [.ref o, .ref a, .ref x, .ref oc] ∧ MdAt K H o b ∧ BdAt K H a b ∧ BdOk (cs.map (·.2)) b ∧ SqT K H x (ds.map vD) ∧ PtOk (cs.map (·.2)) ds ∧ SqL K H oc (refsC cs) ∧ (∀ d ∈ cs, ColAt K H d) ∧ cs.length ≤ 2 ∧
  ∀ H' : Hp, Same H H' → Q (.bl true) H'
theorem odd1 {K : PySem.W.Frag} {H : Hp} {a : Addr} {v : V} {d : PyData} (h : SqT K H a [v]) (t : Th K H v d) : Tg K H (.ref a) (.tuple [d]) := .tup h rfl fun i x d' e1 e2 => by
  match i, e1, e2 with
  | 0, e1, e2 =>
    cases e1
    cases e2
    exact t
structure OddsAt (K : PySem.W.Frag) (H : Hp) (xs : List V) (ds : List PyData) : Prop where
  l : xs.length = ds.length
  t : ∀ (i : Nat) (x : V) (d : PyData), xs[i]? = some x → ds[i]? = some d → Tg K H x (.tuple [d])
theorem OddsAt.same {K : PySem.W.Frag} {H H' : Hp} {xs : List V} {ds : List PyData} (h : OddsAt K H xs ds) (s : Same H H') : OddsAt K H' xs ds := ⟨h.l, fun i x d e1 e2 => (h.t i x d e1 e2).same s⟩
theorem OddsAt.snoc {K : PySem.W.Frag} {H H' : Hp} {xs : List V} {ds : List PyData} {x : V} {d : PyData} (h : OddsAt K H xs ds) (s : Same H H') (t : Tg K H' x (.tuple [d])) : OddsAt K H' (xs ++ [x]) (ds ++ [d]) := by
  refine ⟨by rw [List.length_append, List.length_append, h.l]; rfl, fun i y e e1 e2 => ?_⟩
  by_cases hi : i < xs.length
  · rw [List.getElem?_append_left hi] at e1
    rw [List.getElem?_append_left (by rw [← h.l]; exact hi)] at e2
    exact (h.t i y e e1 e2).same s
  · have hl : i < (xs ++ [x]).length := (List.getElem?_eq_some_iff.mp e1).1
    rw [List.length_append, List.length_singleton] at hl
    obtain rfl : i = xs.length := by omega
    rw [List.getElem?_concat_length] at e1
    rw [h.l, List.getElem?_concat_length] at e2
    cases e1
    cases e2
    exact t
theorem OddsAt.new {K : PySem.W.Frag} {H : Hp} {xs : List V} {ds : List PyData} {v : V} {d : PyData} {a : Addr} (h : OddsAt K H xs ds) (n : H a = none) (t : Th K H v d) : OddsAt K (upd H a (.tup [v])) (xs ++ [.ref a]) (ds ++ [d]) :=
  have s := same_new (o := .tup [v]) (Same.refl H) n
  h.snoc s (odd1 (SqT.of upd_same) (t.same s))
theorem odd_sok : ∀ d ∈ oddD, sOk d = true := by
  intro d hd
  simp only [oddD, List.mem_cons, List.not_mem_nil, or_false] at hd
  rcases hd with rfl | rfl | rfl | rfl | rfl | rfl | rfl | rfl | rfl <;> decide +kernel
section
variable {P : Program} {w : World} {K : PySem.W.Frag} {mg : Str → Option Value} {base : Heap} {f : Addr} {fd : FuncData} {cdv : Value} {A : Around} {outer : List Env} {s : Shared} {H0 : Hp} {E : XK} {ks : List Bool} {n : Nat} {kb : Bool}
theorem alr1 (hr : Room 4 (LAl P w K mg base f cdv A outer s H0 E).A) (hI : mg "int" = none) (R : InF P w K mg base "Range" 4 (spRIn K)) (Vf : InF P w K mg base "Values" 3 (spVIn K)) (T : InF P w K mg base "Rest" 2 (spTIn K)) :
    PSs (LAl P w K mg base f cdv A outer s H0 E) (nthS bAlF 1 :: nthS bAlF 2 :: nthS bAlF 3 :: []) (tA1 K ks n kb) := by
  have nd := scAl.nd
  have base : PSs (LAl P w K mg base f cdv A outer s H0 E) (nthS bAlF 1 :: nthS bAlF 2 :: nthS bAlF 3 :: []) _ :=
    (pss_cons (ps_set (i := 7) nd rfl (Or.inl rfl) (pe_ifExp (pt_cmpR op_eq (pe_ix (ix_tupK (K := K) rfl) (pv 1) pe_int (fun _ _ => rfl)) pe_str (nomark _)) (pe_slice sl_tupE (pv 1) (po_some pe_int) po_none) (pe_tup pa_nil))) (alr2 (ks := ks) (n := n) (kb := kb) hr hI R Vf T))
  refine PSs.imp base fun D σ H h => ?_
  clear base
  obtain ⟨o, a, x, oc, b, ds, s4, s7, s8, s9, s10, rfl, hm, ha, hb, hx, hp, hk, kl, k⟩ := h
  have emp : (∀ (s8' : Option V) (H' : Hp), Same H H' → True) → (hasEnt n b) → ∀ r : Addr, H r = none → tA2 K ks n kb D [some (.ref o), some (.ref a), some (.ref x), some (.ref oc), s4, some (.int (n : Nat)), some (vD (alienD kb)), some (.ref r), s8, s9, s10] (upd H r (.tup [])) := fun _ ent r nr => by
    have s1 := same_new (o := .tup []) (Same.refl H) nr
    exact ⟨o, a, x, oc, r, b, ds, [], s4, s8, s9, s10, rfl, hm.same s1, hb, sqT_same hx s1, hp, hk, kl, SqT.of upd_same, (fun d hd => by cases hd), Nat.zero_le _, (fun _ => ent), (fun _ => ent), fun s8' H' s' => k _ s8' H' (s1.trans s')⟩
  cases b with
  | rng es fs =>
    obtain ⟨x1, y1, h1, h2, h3⟩ := ha
    obtain ⟨⟨f1, f2⟩, ⟨o1, o2⟩, _⟩ := id hb
    refine ⟨_, rfl, a, _, 0, .str "range", rfl, rfl, h1, rfl, rfl, _, rfl, ?_⟩
    refine itT (by decide +kernel) ?_
    refine ⟨_, rfl, _, rfl, a, _, rfl, h1, fun r H3 s3 hr3 => ?_⟩
    have hr3 : SqT K H3 r [.ref x1, .ref y1] := hr3
    refine ⟨o, a, x, oc, r, .rng es fs, ds, [(x1, es), (y1, fs)], s4, s8, s9, s10, rfl, hm.same s3, hb, sqT_same hx s3, hp, hk, kl, hr3, fun d hd => ?_, Nat.le_refl _, (fun z => by cases z), fun z => ?_, fun s8' H' s' => k _ s8' H' (s3.trans s')⟩
    · simp only [List.mem_cons, List.not_mem_nil, or_false] at hd
      rcases hd with rfl | rfl
      · exact ⟨sqT_same h2 s3, o1, f1⟩
      · exact ⟨sqT_same h3 s3, o2, f2⟩
    · obtain ⟨d, hd, e, z1, z2⟩ := z
      simp only [List.mem_cons, List.not_mem_nil, or_false] at hd
      rcases hd with rfl | rfl
      · exact .inl ⟨e, z1, z2⟩
      · exact .inr ⟨e, z1, z2⟩
  | rst m r =>
    have h1 : SqT K H a [.str "rest", .int m, .int r] := ha
    refine ⟨_, rfl, a, _, 0, .str "rest", rfl, rfl, h1, rfl, rfl, _, rfl, ?_⟩
    refine itF (by decide +kernel) ?_
    exact ⟨(by show 0 ≤ sizeLine; decide), fun r nr => emp (fun _ _ _ => trivial) trivial r nr⟩
  | vls es =>
    obtain ⟨y, h1, h2⟩ := ha
    refine ⟨_, rfl, a, _, 0, .str "values", rfl, rfl, h1, rfl, rfl, _, rfl, ?_⟩
    refine itF (by decide +kernel) ?_
    exact ⟨(by show 0 ≤ sizeLine; decide), fun r nr => emp (fun _ _ _ => trivial) trivial r nr⟩
theorem alr0 (hr : Room 4 (LAl P w K mg base f cdv A outer s H0 E).A) (hI : mg "int" = none) (R : InF P w K mg base "Range" 4 (spRIn K)) (Vf : InF P w K mg base "Values" 3 (spVIn K)) (T : InF P w K mg base "Rest" 2 (spTIn K)) :
    PSs (LAl P w K mg base f cdv A outer s H0 E) (nthS bAlF 0 :: nthS bAlF 1 :: nthS bAlF 2 :: nthS bAlF 3 :: []) (tA0 K ks n kb) := by
  have nd := scAl.nd
  have base : PSs (LAl P w K mg base f cdv A outer s H0 E) (nthS bAlF 0 :: nthS bAlF 1 :: nthS bAlF 2 :: nthS bAlF 3 :: []) _ :=
    (pss_cons (ps_set (i := 6) nd rfl (Or.inl rfl) (pe_ifExp (pt_cmpR op_eq (pe_ix (ix_tupK (K := K) rfl) (pe_ix ix_list (pv 3) (pv 5) (fun _ _ => rfl)) pe_int (fun _ _ => rfl)) pe_str (nomark _)) pe_str pe_int)) (alr1 (ks := ks) (n := n) (kb := kb) hr hI R Vf T))
  refine PSs.imp base fun D σ H h => ?_
  clear base
  obtain ⟨o, a, x, oc, b, ds, cs, s4, s6, s7, s8, s9, s10, rfl, hm, ha, hb, hx, hp, hk, kl, rfl, hc, hca, k⟩ := h
  rw [List.getElem?_map] at hk
  obtain ⟨cd, hcd, rfl⟩ := Option.map_eq_some_iff.mp hk
  obtain ⟨nm, rq, hcol⟩ := hca cd (List.mem_of_getElem? hcd)
  have hk : (cs.map (·.2))[n]? = some cd.2 := by rw [List.getElem?_map, hcd]; rfl
  have at1 : atI (refsC cs) ((n : Nat) : Int) = some (.ref cd.1) := atI_nat (by rw [List.getElem?_map, hcd]; rfl)
  refine ⟨_, rfl, _, rfl, oc, _, _, .ref cd.1, rfl, rfl, hc, at1, cd.1, _, 1, kV cd.2, rfl, rfl, hcol, rfl, rfl, _, rfl, ?_⟩
  obtain ⟨ca, cb⟩ := cd
  have fin : tA1 K (cs.map (·.2)) n cb D [some (.ref o), some (.ref a), some (.ref x), some (.ref oc), s4, some (.int (n : Nat)), some (vD (alienD cb)), s7, s8, s9, s10] H := ⟨o, a, x, oc, b, ds, s4, s7, s8, s9, s10, rfl, hm, ha, hb, hx, hp, hk, kl, fun s7' s8' H' s' => k _ s7' s8' H' s'⟩
  cases cb with
  | false =>
    refine itT (by show decide (V.str "number" = V.str "number") = true; decide +kernel) ?_
    exact fin
  | true =>
    refine itF (by show decide (V.str "word" = V.str "number") = false; decide +kernel) ?_
    exact fin
theorem alrF (hr : Room 4 (LAl P w K mg base f cdv A outer s H0 E).A) (hI : mg "int" = none) (hL : mg "len" = none) (hG : mg "range" = none) (R : InF P w K mg base "Range" 4 (spRIn K)) (Vf : InF P w K mg base "Values" 3 (spVIn K)) (T : InF P w K mg base "Rest" 2 (spTIn K)) :
    PSs (LAl P w K mg base f cdv A outer s H0 E) (nthS bAl 2 :: nthS bAl 3 :: []) (tAF K) := by
  have nd := scAl.nd
  have inner : PSs (LAl P w K mg base f cdv A outer s H0 E) (nthS bAlF 0 :: nthS bAlF 1 :: nthS bAlF 2 :: nthS bAlF 3 :: []) (tAA K) := ⟨fun pins s' σ H' D' I ⟨ks, n, kb, z⟩ => (alr0 (n := n) (kb := kb) (ks := ks) hr hI R Vf T).run pins s' σ H' D' I z⟩
  have base : PSs (LAl P w K mg base f cdv A outer s H0 E) (nthS bAl 2 :: nthS bAl 3 :: []) _ :=
    (pss_cons (ps_for PassesOwn.never rfl (pi_range1 rfl hG (pa_cons (pe_callB call_len_seq (by rfl) hL PySem.boot_len (pa_cons (pv 3) pa_nil)) pa_nil)) (pg_name (i := 5) nd rfl (Or.inr rfl)) inner) (pss_one (ps_ret pe_bl)))
  refine PSs.imp base fun D σ H h => ?_
  clear base inner
  obtain ⟨o, a, x, oc, b, ds, cs, s4, s5, s6, s7, s8, s9, s10, rfl, hm, ha, hb, hx, hp, hc, hca, cl, k⟩ := h
  refine ⟨_, rfl, oc, _, rfl, .inl hc, _, rfl, ?_⟩
  have lz : ((refsC cs).length : Int) = (cs.length : Nat) := by rw [List.length_map]
  rw [lz]
  refine ⟨by omega, by omega, for_range (lo := 0) (n := cs.length) (fun i σ H' => (∃ s5' s6' s7' s8' : Option V, σ = [some (.ref o), some (.ref a), some (.ref x), some (.ref oc), s4, s5', s6', s7', s8', s9, s10]) ∧ Same H H') ⟨⟨_, _, _, _, rfl⟩, Same.refl H⟩ ?_ ?_⟩
  · rintro i σ H2 hi ⟨⟨s5', s6', s7', s8', rfl⟩, y⟩
    rw [Int.zero_add]
    refine ⟨cs.map (·.2), i, cs[i].2, o, a, x, oc, b, ds, cs, _, _, _, _, _, _, rfl, hm.same y, ha.same y, hb, sqT_same hx y, hp, by rw [List.getElem?_map, List.getElem?_eq_getElem hi]; rfl, by rw [List.length_map]; exact cl, rfl, sqL_same hc y, fun d hd => (hca d hd).same y, fun s6' s7' s8' H' s' => ⟨⟨_, _, _, _, rfl⟩, y.trans s'⟩⟩
  · rintro σ H2 ⟨⟨s5', s6', s7', s8', rfl⟩, y⟩
    exact k H2 y
theorem ok_alien (F : FnP K "_law_alien_right" sAlien f fd) (hI : mg "int" = none) (hL : mg "len" = none) (hG : mg "range" = none) (R : InF P w K mg base "Range" 4 (spRIn K)) (Vf : InF P w K mg base "Values" 3 (spVIn K)) (T : InF P w K mg base "Rest" 2 (spTIn K)) :
    FnOk P w K mg base CX0 5 f fd ["_law_made", "_law_bound_here", "_law_point", "_law_columns"] (spAl K) := by
  refine F.ok scAl (fun vs H Q E h => ?_) (fun cdv A outer s H vs Q E hr h => ?_)
  · obtain ⟨o, a, x, oc, b, ds, cs, rfl, _⟩ := h
    rfl
  · obtain ⟨o, a, x, oc, b, ds, cs, rfl, hm, ha, hb, hx, hp, hc, hca, cl, k⟩ := h
    have nd := scAl.nd
    refine ⟨_, PSs.nox (pss_cons (ps_set (i := 4) nd rfl (Or.inl rfl) (pe_lst (pa_cons (pe_tup (pa_cons pe_bl pa_nil)) (pa_cons (pe_tup (pa_cons pe_bl pa_nil)) (pa_cons (pe_tup (pa_cons pe_str pa_nil)) (pa_cons (pe_tup (pa_cons (pe_op op_add (pe_op op_pow pe_int pe_int) pe_int) pa_nil)) (pa_cons (pe_tup (pa_cons (pe_op op_sub (pe_un un_neg (pe_op op_pow pe_int pe_int)) pe_int) pa_nil)) (pa_cons (pe_tup (pa_cons (pe_tup (pa_cons pe_int pa_nil)) pa_nil)) (pa_cons (pe_tup (pa_cons pe_str pa_nil)) (pa_cons (pe_tup (pa_cons pe_str pa_nil)) (pa_cons (pe_tup (pa_cons (pe_lst pa_nil) pa_nil)) pa_nil)))))))))))
      (pss_cons (ps_if (PW.pt (pw_and (pt_cmpR op_eq (pe_callB call_len_seq (by rfl) hL PySem.boot_len (pa_cons (pv 3) pa_nil)) pe_int (nomark _)) (pw_and1 (pt_cmpR (op_neNil hr.units0) (pe_lc (own := [("_law_thing", 9)]) (g := gName 9) rfl nd (pi_list (pv 4)) (blkOk_by (N := NA) (sc := defScope sAlien) (by decide +kernel)) (fun _ _ _ _ _ => pg_name (i := 9) nd rfl (Or.inl rfl))
              (fun _ _ _ _ _ => pts_one (pt_cmpR (op_inMK (K := K) ⟨rfl, rfl, rfl, rfl, rfl⟩ R Vf T hr) (pv 9) (pv 0) (by rfl))) (fun _ _ _ _ _ => pv 9)) (pe_lst pa_nil) (nomark _))))) (pss_one (ps_ret pe_bl)) pss_nil)
      (alrF hr hI hL hG R Vf T))), ?_⟩
    have o0 : OddsAt K H [] [] := ⟨rfl, fun i x d e => by simp at e⟩
    refine ⟨(by show 1 ≤ sizeLine; decide), fun a1 n1 => ?_⟩
    have o1 := o0.new n1 (.dp (.bl true) rfl)
    have s1 := same_new (o := .tup [.bl true]) (Same.refl H) n1
    generalize upd H a1 (.tup [.bl true]) = H1 at o1 s1 ⊢
    refine ⟨(by show 1 ≤ sizeLine; decide), fun a2 n2 => ?_⟩
    have o2 := o1.new n2 (.dp (.bl false) rfl)
    have s2 := same_new (o := .tup [.bl false]) s1 n2
    generalize upd H1 a2 (.tup [.bl false]) = H2 at o2 s2 ⊢
    refine ⟨(by show 1 ≤ sizeLine; decide), fun a3 n3 => ?_⟩
    have o3 := o2.new n3 (.dp (.str "A") rfl)
    have s3 := same_new (o := .tup [.str "A"]) s2 n3
    generalize upd H2 a3 (.tup [.str "A"]) = H3 at o3 s3 ⊢
    refine ⟨_, _, rfl, rfl, ⟨by decide, by decide, by decide⟩, _, _, rfl, rfl, (by show 1 ≤ sizeLine; decide), fun a4 n4 => ?_⟩
    have o4 := o3.new n4 (.dp (.int (10 ^ (30 : Int).toNat + 1)) rfl)
    have s4 := same_new (o := .tup [.int (10 ^ (30 : Int).toNat + 1)]) s3 n4
    generalize upd H3 a4 (.tup [.int (10 ^ (30 : Int).toNat + 1)]) = H4 at o4 s4 ⊢
    refine ⟨_, _, rfl, rfl, ⟨by decide, by decide, by decide⟩, _, rfl, _, _, rfl, rfl, (by show 1 ≤ sizeLine; decide), fun a5 n5 => ?_⟩
    have o5 := o4.new n5 (.dp (.int (-10 ^ (30 : Int).toNat - 1)) rfl)
    have s5 := same_new (o := .tup [.int (-10 ^ (30 : Int).toNat - 1)]) s4 n5
    generalize upd H4 a5 (.tup [.int (-10 ^ (30 : Int).toNat - 1)]) = H5 at o5 s5 ⊢
    refine ⟨(by show 1 ≤ sizeLine; decide), fun b6 m6 => ?_⟩
    have t6 := same_new (o := .tup [.int 1]) (Same.refl H5) m6
    have y6 : (upd H5 b6 (.tup [.int 1])) b6 = some (.tup [.int 1]) := upd_same
    generalize upd H5 b6 (.tup [.int 1]) = H6 at t6 y6 ⊢
    refine ⟨(by show 1 ≤ sizeLine; decide), fun a6 n6 => ?_⟩
    have o6 := (o5.same t6).new n6 (.dp (.tup (SqT.of y6) (.cons (.int 1) .nil)) rfl)
    have s6 := same_new (o := .tup [.ref b6]) (s5.trans t6) n6
    generalize upd H6 a6 (.tup [.ref b6]) = H7 at o6 s6 ⊢
    refine ⟨(by show 1 ≤ sizeLine; decide), fun a7 n7 => ?_⟩
    have o7 := o6.new n7 (.dp (.str "") rfl)
    have s7 := same_new (o := .tup [.str ""]) s6 n7
    generalize upd H7 a7 (.tup [.str ""]) = H8 at o7 s7 ⊢
    refine ⟨(by show 1 ≤ sizeLine; decide), fun a8 n8 => ?_⟩
    have o8 := o7.new n8 (.dp (.str "abcdefghi") rfl)
    have s8 := same_new (o := .tup [.str "abcdefghi"]) s7 n8
    generalize upd H8 a8 (.tup [.str "abcdefghi"]) = H9 at o8 s8 ⊢
    refine ⟨(by show 0 ≤ sizeLine; decide), fun b9 m9 => ?_⟩
    have t9 := same_new (o := .lst []) (Same.refl H9) m9
    have y9 : (upd H9 b9 (.lst [])) b9 = some (.lst []) := upd_same
    generalize upd H9 b9 (.lst []) = H10 at t9 y9 ⊢
    refine ⟨(by show 1 ≤ sizeLine; decide), fun a9 n9 => ?_⟩
    have o9 := (o8.same t9).new n9 (.dp (.lst (SqL.of y9) .nil) rfl)
    have s9 := same_new (o := .tup [.ref b9]) (s8.trans t9) n9
    generalize upd H10 a9 (.tup [.ref b9]) = H11 at o9 s9 ⊢
    refine ⟨(by show 9 ≤ sizeLine; decide), fun q nq => ?_⟩
    have o9 : OddsAt K H11 [.ref a1, .ref a2, .ref a3, .ref a4, .ref a5, .ref a6, .ref a7, .ref a8, .ref a9] oddD := o9
    generalize [V.ref a1, V.ref a2, V.ref a3, V.ref a4, V.ref a5, V.ref a6, V.ref a7, V.ref a8, V.ref a9] = xs at o9 ⊢
    have sq := same_new (o := .lst xs) (Same.refl H11) nq
    have yq : (upd H11 q (.lst xs)) q = some (.lst xs) := upd_same
    have oq := o9.same sq
    have sT := s9.trans sq
    generalize upd H11 q (.lst xs) = H12 at sq yq oq sT ⊢
    clear o0 o1 o2 o3 o4 o5 o6 o7 o8 o9 s1 s2 s3 s4 s5 s6 s7 s8 s9 sq t6 t9
    have fin : ∀ (D : Ends) (H' : Hp) (v5 v6 v7 v8 v9 v10 : Option V), Same H H' → (∀ H'' : Hp, Same H' H'' → D.rt (.bl true) H'') → tAF K D [some (.ref o), some (.ref a), some (.ref x), some (.ref oc), some (.ref q), v5, v6, v7, v8, v9, v10] H' := fun D H' v5 v6 v7 v8 v9 v10 s' kk =>
      ⟨o, a, x, oc, b, ds, cs, _, v5, v6, v7, v8, v9, v10, rfl, hm.same s', ha.same s', hb, sqT_same hx s', hp, sqL_same hc s', (fun d hd => (hca d hd).same s'), cl, kk⟩
    refine ⟨_, rfl, oc, _, rfl, .inl (sqL_same hc sT), rfl, _, rfl, ?_⟩
    refine ite2 (fun _ => ?_) (fun _ => ?_)
    · refine ⟨_, rfl, q, rfl, ⟨_, SqL.of yq⟩, fun D0 hD => ?_⟩
      have hD : H12 D0 = none := hD
      refine lc_it (walk_list (K := K) (a := q) (xs := xs)) (fun m H6 => H6 D0 = some (.lst []) ∧ Same H12 H6) ⟨upd_same, same_new (Same.refl H12) hD⟩ (fun m H6 _ y => SqL.of (y.2 _ _ yq)) ?_ ?_
      · rintro m x' Hy H6 hm' ⟨z1, z4⟩ ⟨rfl, hx'⟩
        have hx' : xs[m]? = some x' := hx'
        have hm' : m < xs.length := hm'
        have hod : oddD[m]? = some (oddD[m]'(by rw [← oq.l]; exact hm')) := List.getElem?_eq_getElem _
        have hmem := List.mem_of_getElem? hod
        generalize oddD[m]'(by rw [← oq.l]; exact hm') = d at hod hmem
        have tg := oq.t m x' d hx' hod
        have sT6 := sT.trans z4
        refine ⟨rfl, ?_⟩
        refine ⟨_, rfl, _, rfl, o, b, _, .tuple [d], rfl, hm.same sT6, hb, tg.same z4, ⟨rfl, fun d' hd' => ?_⟩, (by show 1 ≤ 100; decide), fun H7 s7 => ⟨_, rfl, ?_⟩⟩
        · have hd' : d' ∈ [d] := hd'
          rw [List.mem_singleton.mp hd']
          exact odd_sok d hmem
        · rw [odd_in b hmem]
          refine itF rfl ?_
          exact ⟨s7 _ _ z1, z4.trans s7⟩
      · rintro H6 ⟨z1, z4⟩
        refine ⟨(by show 0 ≤ sizeLine; decide), fun r nr => ?_⟩
        have s7 := same_new (o := .lst []) z4 nr
        refine ⟨D0, r, [], rfl, rfl, SqL.of (up z1 nr), SqL.of upd_same, _, rfl, ?_⟩
        refine itF rfl ?_
        exact fin _ _ _ _ _ _ _ _ (sT.trans s7) fun H'' s'' => k H'' ((sT.trans s7).trans s'')
    · exact fin _ _ _ _ _ _ _ _ sT fun H'' s'' => k H'' (sT.trans s'')
end
end K26
set_option Elab.async false
set_option linter.all false
set_option maxRecDepth 100000
set_option maxHeartbeats 4000000
/-! the law: a key, a probe -/
namespace K26
open K34 PySem PySem.Spec PyProof.Rows L2 StX
section
variable {X : Cx}
theorem call_reprB : CallR X (.builtin "repr") (fun xs H Q => ∃ b : Bool, xs = [.bl b] ∧ Q (.str (if b = true then "True" else "False")) H) := by
  intro pins s σ H xs us Q I r h
  obtain ⟨b, rfl, q⟩ := h
  obtain ⟨u, rfl, ru⟩ := vals1 r
  obtain rfl : u = Value.bool b := ru
  refine PySem.P.repr_of_bool ⟨.str _, H, I.tok _, ⟨_, rfl⟩, ?_⟩
  cases b <;> exact q
end
/-! ### data that can be compared -/
/-- a value of a key -/
def smD : PyData → Bool
  | .none => true | .int i => isN (.int i) | .str s => wordS s | _ => false
theorem valK_sm {b : Bool} {d : PyData} (h : valK b d = true) : smD d = true := by
  cases d with
  | none => rfl
  | int i => exact (Bool.and_eq_true_iff.mp h).2
  | str s => exact (Bool.and_eq_true_iff.mp h).2
  | _ => exact Bool.noConfusion h
theorem sm_lay {d : PyData} (h : smD d = true) : d.canLay0 = true ∧ d.depth = 0 ∧ d.weight ≤ 100 := by
  cases d with
  | none => exact ⟨rfl, rfl, Nat.zero_le _⟩
  | int i =>
    refine ⟨rfl, rfl, ?_⟩
    have z : (decide (-(10 ^ 30 : Int) ≤ i) && decide (i ≤ (10 ^ 30 : Int))) = true := h
    obtain ⟨z1, z2⟩ := Bool.and_eq_true_iff.mp z
    have z1 := of_decide_eq_true z1
    have z2 := of_decide_eq_true z2
    have e : (PyData.int i).weight = if i == 0 then 0 else i.natAbs.log2 + 1 := by simp only [PyData.weight]
    rw [e]
    by_cases h0 : i = 0
    · rw [h0]
      exact Nat.zero_le _
    · rw [if_neg (by simpa using h0)]
      have n0 : i.natAbs ≠ 0 := by omega
      have l2 : i.natAbs < 2 ^ 100 := Nat.lt_of_le_of_lt (show i.natAbs ≤ 10 ^ 30 by omega) (by decide)
      have := (Nat.log2_lt n0).mpr l2
      omega
  | str s =>
    have h : wordS s = true := h
    obtain ⟨w1, w2, w3⟩ := wordS_of h
    refine ⟨?_, rfl, ?_⟩
    · show PyData.strOk s = true
      unfold PyData.strOk
      rw [Array.all_eq_true_iff_forall_mem]
      intro c hc
      have z := w3 c (by simpa using hc)
      have z : (decide (97 ≤ c) && decide (c ≤ 122)) = true := z
      obtain ⟨_, z2⟩ := Bool.and_eq_true_iff.mp z
      have := of_decide_eq_true z2
      exact decide_eq_true (by omega)
    · have e : (PyData.str s).weight = s.cps.size := by simp only [PyData.weight]
      rw [e]
      have : s.cps.size = s.length := rfl
      omega
  | _ => cases h
theorem sm_lays : ∀ {ds : List PyData}, ds.all smD = true → PyData.canLayAll0 ds = true ∧ PyData.depthAll ds = 0 ∧ PyData.weightAll ds ≤ 101 * ds.length
  | [], _ => ⟨rfl, rfl, Nat.zero_le _⟩
  | d :: ds, h => by
    rw [List.all_cons] at h
    obtain ⟨h1, h2⟩ := Bool.and_eq_true_iff.mp h
    obtain ⟨a1, a2, a3⟩ := sm_lay h1
    obtain ⟨b1, b2, b3⟩ := sm_lays h2
    refine ⟨?_, ?_, ?_⟩
    · simp only [PyData.canLayAll0]
      rw [a1, b1]
      rfl
    · simp only [PyData.depthAll]
      rw [a2, b2]
      rfl
    · simp only [PyData.weightAll, List.length_cons]
      omega
theorem lay_tup {ds : List PyData} (h : ds.all smD = true) (l : ds.length ≤ 10) : (PyData.tuple ds).layable0 = true ∧ (PyData.list ds).layable0 = true ∧ (PyData.tuple [.tuple ds]).layable0 = true := by
  obtain ⟨b1, b2, b3⟩ := sm_lays h
  have mk : ∀ d : PyData, d.canLay0 = true → d.depth ≤ 64 → d.weight ≤ 2 ^ 20 → d.layable0 = true := fun d h1 h2 h3 => by
    unfold PyData.layable0
    rw [h1, decide_eq_true h2, decide_eq_true h3]
    rfl
  refine ⟨mk _ ?_ ?_ ?_, mk _ ?_ ?_ ?_, mk _ ?_ ?_ ?_⟩
  · simpa only [PyData.canLay0] using b1
  · simp only [PyData.depth]; omega
  · simp only [PyData.weight]; omega
  · simpa only [PyData.canLay0] using b1
  · simp only [PyData.depth]; omega
  · simp only [PyData.weight]; omega
  · simp only [PyData.canLay0, PyData.canLayAll0, b1, Bool.and_self]
  · simp only [PyData.depth, PyData.depthAll, b2]; decide
  · simp only [PyData.weight, PyData.weightAll]; omega
/-! ### the rows -/
structure LwT (P : Program) (w : World) (K : PySem.W.Frag) (mg : Str → Option Value) (base : Heap) where
  repr : mg "repr" = none
  isi : mg "isinstance" = none
  tup : mg "tuple" = none
  len : mg "len" = none
  min : mg "min" = none
  range : mg "range" = none
  list : mg "list" = none
  GPen : Fn1 P w K mg base 1 "_law_pen" ["_law_script"] (spPen K)
  GP : Fn1 P w K mg base 2 "_law_pick" ["_law_pen_here", "_law_options"] (spPick K)
  GC : Fn1 P w K mg base 3 "_law_cut_columns" ["_law_pen_here", "_law_manner"] (spCols K)
  GB : Fn1 P w K mg base 6 "_law_bounds" ["_law_pen_here", "_law_manner", "_law_sorts", "_law_many"] (spBns K)
  GM : Fn1 P w K mg base 7 "_law_bound" ["_law_held"] (spBnd K)
  GK : Fn1 P w K mg base 4 "_law_some_keys" ["_law_pen_here", "_law_columns", "_law_bounds_here"] (spKeys K)
  GH : Fn1 P w K mg base 3 "_law_holds" ["_law_held", "_law_point", "_law_others"] (spHolds K)
  GA : Fn1 P w K mg base 3 "_law_any_value" ["_law_pen_here"] (spAny K)
  GX : Fn1 P w K mg base 5 "_law_alien_right" ["_law_made", "_law_bound_here", "_law_point", "_law_columns"] (spAl K)
  R : InF P w K mg base "Range" 4 (spRIn K)
  V : InF P w K mg base "Values" 3 (spVIn K)
  T : InF P w K mg base "Rest" 2 (spTIn K)
abbrev bLaw : List Stmt := defBody sLaw
abbrev bTurn : List Stmt := forB (nthS bLaw 1)
abbrev bBd : List Stmt := forB (nthS bTurn 3)
abbrev bPt : List Stmt := forB (nthS bBd 1)
abbrev bPr : List Stmt := forB (nthS bBd 2)
abbrev NL : List Str := ["_law_script", "_law_pen_here", "_law_turn", "_law_manner", "_law_columns", "_law_bounds_here", "_law_bound_here", "_law_made", "_law_point", "_law_value_here", "_law_column"]
theorem scLaw : FnScope NL ["_law_script"] (defScope sLaw) := ⟨rfl, rfl, rfl, by decide +kernel, rfl, by decide +kernel, by decide +kernel⟩
abbrev LX (P : Program) (w : World) (K : PySem.W.Frag) (mg : Str → Option Value) (base : Heap) (f : Addr) (cdv : Value) (A : Around) (outer : List Env) (s : Shared) (H : Hp) (E : XK) : Cx := (cxOf CX0 P w K mg base NL "law" (defScope sLaw) f cdv A outer s H E).nox
theorem pt_tg {K : PySem.W.Frag} {H : Hp} {x : Addr} {ks : List Bool} {ds : List PyData} (h : SqT K H x (ds.map vD)) (p : PtOk ks ds) : Tg K H (.ref x) (.tuple ds) := .tup h (by rw [List.length_map]) fun i v d q1 q2 => by
  rw [List.getElem?_map, q2] at q1
  cases q1
  obtain ⟨b, _, z⟩ := p.any (List.mem_of_getElem? q2)
  exact (th_vD z).1
theorem pt_sok {ks : List Bool} {ds : List PyData} (p : PtOk ks ds) : ∀ d ∈ ds, sOk d = true := fun d hd => by
  obtain ⟨b, _, z⟩ := p.any hd
  cases d with
  | none => rfl
  | int i => rfl
  | str s =>
    have h : wordS s = true := (Bool.and_eq_true_iff.mp z).2
    exact en_sok (e := .wrd s) h
  | _ => exact Bool.noConfusion z
theorem pt_sm {ks : List Bool} {ds : List PyData} (p : PtOk ks ds) : ds.all smD = true := List.all_eq_true.mpr fun d hd => by
  obtain ⟨b, _, z⟩ := p.any hd
  exact valK_sm z
def tPt (K : PySem.W.Frag) : TS := fun D σ H => ∃ (o a x : Addr) (b : Bd) (ks : List Bool) (ds : List PyData) (s0 s1 s2 s3 s4 s5 s9 s10 : Option V), σ = [s0, s1, s2, s3, s4, s5, some (.ref a), some (.ref o), some (.ref x), s9, s10] ∧ MdAt K H o b ∧ BdAt K H a b ∧ BdOk ks b ∧ SqT K H x (ds.map vD) ∧ PtOk ks ds ∧ ks.length ≤ 2 ∧ ∀ H', Same H H' → D.nx σ H'
def tPr (K : PySem.W.Frag) : TS := fun D σ H => ∃ (o x oc : Addr) (v : V) (d : PyData) (b : Bd) (cs : List (Addr × Bool)) (ds : List PyData) (s0 s1 s2 s3 s5 s6 s10 : Option V), σ = [s0, s1, s2, s3, some (.ref oc), s5, s6, some (.ref o), some (.ref x), some v, s10] ∧ MdAt K H o b ∧ BdOk (cs.map (·.2)) b ∧ SqT K H x (ds.map vD) ∧ PtOk (cs.map (·.2)) ds ∧ SqL K H oc (refsC cs) ∧ cs.length ≤ 2 ∧
  Tg K H v d ∧ lOk d = true ∧ sOkT d ∧ (itemsD d).length ≤ 100 ∧ ∀ H', Same H H' → D.nx σ H'
section
variable {P : Program} {w : World} {K : PySem.W.Frag} {mg : Str → Option Value} {base : Heap} {f : Addr} {cdv : Value} {A : Around} {outer : List Env} {s : Shared} {H0 : Hp} {E : XK}
theorem lw_pt (hr : Room 4 (LX P w K mg base f cdv A outer s H0 E).A) (W : LwT P w K mg base) : PSs (LX P w K mg base f cdv A outer s H0 E) [nthS bPt 0] (tPt K) := by
  have base : PSs (LX P w K mg base f cdv A outer s H0 E) [nthS bPt 0] _ :=
    (pss_one (ps_if (pt_cmpR op_ne (pe_callB call_reprB (by rfl) W.repr (by decide +kernel) (pa_cons (pe_cmpR (op_inMK (K := K) ⟨rfl, rfl, rfl, rfl, rfl⟩ W.R W.V W.T hr) (pv 8) (pv 7) (by rfl)) pa_nil))
      (pe_callB call_reprB (by rfl) W.repr (by decide +kernel) (pa_cons (pe_call W.GH.ok (hr.mono (by decide)) rfl W.GH.g W.GH.k W.GH.b .nil pass0 (pa_cons (pv 6) (pa_cons (pv 8) (pa_cons (pe_lst pa_nil) pa_nil)))) pa_nil)) (nomark _)) (pss_one (ps_ret pe_bl)) pss_nil))
  refine PSs.imp base fun D σ H h => ?_
  clear base
  obtain ⟨o, a, x, b, ks, ds, s0, s1, s2, s3, s4, s5, s9, s10, rfl, hm, ha, hb, hx, hp, kl, k⟩ := h
  refine ⟨_, rfl, _, rfl, o, b, ks, .tuple ds, rfl, hm, hb, pt_tg hx hp, ⟨rfl, pt_sok hp⟩, (by show ds.length ≤ 100; have := hp.l; omega), fun H1 s1' => ⟨_, rfl, ?_⟩⟩
  refine ⟨_, rfl, _, rfl, (by show 0 ≤ sizeLine; decide), fun z nz => ?_⟩
  have s2' := same_new (o := .lst []) s1' nz
  refine ⟨a, x, z, b, ks, ds, rfl, ha.same s2', hb, sqT_same hx s2', hp, fun H3 s3' => ⟨_, rfl, rfl, _, rfl, ?_⟩⟩
  rw [holds_in]
  refine itF (by simp) ?_
  exact k H3 (s2'.trans s3')
theorem lw_pr (hr : Room 4 (LX P w K mg base f cdv A outer s H0 E).A) (W : LwT P w K mg base) : PSs (LX P w K mg base f cdv A outer s H0 E) [nthS bPr 0] (tPr K) := by
  have base : PSs (LX P w K mg base f cdv A outer s H0 E) [nthS bPr 0] _ :=
    (pss_one (ps_if (PW.pt (pw_and (pt_cmpR (op_neA hr.units) (pv 9) (pv 8) (nomark _)) (pw_and (pt_cmpR (op_inMK (K := K) ⟨rfl, rfl, rfl, rfl, rfl⟩ W.R W.V W.T hr) (pv 9) (pv 7) (by rfl)) (pw_and1 (pt_not (PW.pt (pw_and (pt_val (pe_callB call_isi (by rfl) W.isi (by decide +kernel) (pa_cons (pv 9) (pa_cons (pe_bltn (v := .ty "tuple") (by rfl) W.tup (by decide +kernel) rfl) pa_nil))))
      (pw_and1 (pt_cmpR op_eq (pe_callB call_len_seq (by rfl) W.len PySem.boot_len (pa_cons (pv 9) pa_nil)) (pe_callB call_len_seq (by rfl) W.len PySem.boot_len (pa_cons (pv 4) pa_nil)) (nomark _)))))))))) (pss_one (ps_ret pe_bl)) pss_nil))
  refine PSs.imp base fun D σ H h => ?_
  clear base
  obtain ⟨o, x, oc, v, d, b, cs, ds, s0, s1, s2, s3, s5, s6, s10, rfl, hm, hb, hx, hp, hc, cl, tg, ly, so, il, k⟩ := h
  have l2 : ds.length ≤ 10 := by
    have := hp.l
    rw [List.length_map] at this
    omega
  refine ⟨_, rfl, _, rfl, x, d, ds, rfl, tg, pt_tg hx hp, ly, (lay_tup (pt_sm hp) l2).1, fun c => ⟨_, rfl, ?_⟩⟩
  cases c with
  | false =>
    refine itF rfl ?_
    exact k H (Same.refl H)
  | true =>
    refine itT rfl ?_
    refine ⟨_, rfl, _, rfl, o, b, _, d, rfl, hm, hb, tg, so, il, fun H1 s1' => ⟨_, rfl, ?_⟩⟩
    cases hi : inB b d with
    | false =>
      refine itF rfl ?_
      exact k H1 s1'
    | true =>
      refine itT rfl ?_
      obtain ⟨es, rfl, el⟩ := in_tup hb hi
      have tg1 := tg.same s1'
      cases tg1 with
      | oth t n => cases n
      | @tup a xs _ ht lt _ =>
        refine ⟨_, rfl, .ref a, .ty "tuple", .type "tuple", _, true, rfl, .ty _, sqT_ty ht, kit_tup, _, rfl, ?_⟩
        refine itT rfl ?_
        refine ⟨_, rfl, a, xs, rfl, .inr ht, _, rfl, oc, _, rfl, .inl (sqL_same hc s1'), rfl, _, rfl, ?_⟩
        have e : V.int (xs.length : Nat) = V.int ((refsC cs).length : Nat) := by
          rw [lt, el, List.length_map, List.length_map]
        refine itF (by rw [decide_eq_true e]; rfl) ?_
        exact k H1 s1'
end
end K26
set_option Elab.async false
set_option linter.all false
set_option maxRecDepth 100000
set_option maxHeartbeats 4000000
/-! the law: a bound -/
namespace K26
open K34 PySem PySem.Spec PyProof.Rows L2 StX
theorem MdAt.but {K : PySem.W.Frag} {H H' : Hp} {o p c : Addr} {t l : Int} {b : Bd} (h : MdAt K H o b) (hp : H p = some (.dK (penK c t l))) (s : But p H H') : MdAt K H' o b := by
  cases b with
  | rng es fs => exact RgAt.but h hp s
  | rst m r =>
    obtain ⟨dx, h⟩ := h
    exact ⟨dx, s _ _ (ne_of h hp (by intro z; cases z)) h⟩
  | vls ds =>
    obtain ⟨es, ve, ⟨⟨dx, q, h1, h2⟩, h4⟩⟩ := h
    exact ⟨es, ve, ⟨dx, q, s _ _ (ne_of h1 hp (by intro z; cases z)) h1, sqL_but hp s h2⟩, h4⟩
theorem BdOk.pos {ks : List Bool} {b : Bd} (h : BdOk ks b) : 1 ≤ ks.length := by
  cases b with
  | rng es fs => exact h.2.2.2.2.1
  | rst m r =>
    obtain ⟨_, rfl⟩ := h
    exact Nat.le_refl _
  | vls ds =>
    obtain ⟨_, b0, rfl, _⟩ := h
    exact Nat.le_refl _
/-! ### the probes -/
def Prb1 (K : PySem.W.Frag) (H : Hp) (x : V) (d : PyData) : Prop := Tg K H x d ∧ lOk d = true ∧ sOkT d ∧ (itemsD d).length ≤ 100
theorem Prb1.same {K : PySem.W.Frag} {H H' : Hp} {x : V} {d : PyData} (h : Prb1 K H x d) (s : Same H H') : Prb1 K H' x d := ⟨h.1.same s, h.2⟩
structure PrbAt (K : PySem.W.Frag) (H : Hp) (xs : List V) (ds : List PyData) : Prop where
  l : xs.length = ds.length
  t : ∀ (i : Nat) (x : V) (d : PyData), xs[i]? = some x → ds[i]? = some d → Prb1 K H x d
theorem PrbAt.same {K : PySem.W.Frag} {H H' : Hp} {xs : List V} {ds : List PyData} (h : PrbAt K H xs ds) (s : Same H H') : PrbAt K H' xs ds := ⟨h.l, fun i x d e1 e2 => (h.t i x d e1 e2).same s⟩
theorem PrbAt.snoc {K : PySem.W.Frag} {H H' : Hp} {xs : List V} {ds : List PyData} {x : V} {d : PyData} (h : PrbAt K H xs ds) (s : Same H H') (t : Prb1 K H' x d) : PrbAt K H' (xs ++ [x]) (ds ++ [d]) := by
  refine ⟨by rw [List.length_append, List.length_append, h.l]; rfl, fun i y e e1 e2 => ?_⟩
  by_cases hi : i < xs.length
  · rw [List.getElem?_append_left hi] at e1
    rw [List.getElem?_append_left (by rw [← h.l]; exact hi)] at e2
    exact (h.t i y e e1 e2).same s
  · have hl : i < (xs ++ [x]).length := (List.getElem?_eq_some_iff.mp e1).1
    rw [List.length_append, List.length_singleton] at hl
    obtain rfl : i = xs.length := by omega
    rw [List.getElem?_concat_length] at e1
    rw [h.l, List.getElem?_concat_length] at e2
    cases e1
    cases e2
    exact t
theorem dp_sm {K : PySem.W.Frag} {H : Hp} {d : PyData} (h : smD d = true) : Dp K H (vD d) d ∧ d.hasDict = false ∧ sOk d = true ∧ lOk d = true ∧ itemsD d = [] := by
  have ly : d.layable0 = true := by
    obtain ⟨a1, a2, a3⟩ := sm_lay h
    unfold PyData.layable0
    rw [a1, decide_eq_true (by omega), decide_eq_true (by omega)]
    rfl
  cases d with
  | none => exact ⟨.non, rfl, rfl, ly, rfl⟩
  | int i => exact ⟨.int i, rfl, rfl, ly, rfl⟩
  | str s =>
    have h : wordS s = true := h
    exact ⟨.str s, rfl, en_sok (e := .wrd s) h, ly, rfl⟩
  | _ => cases h
theorem dpAll_sm {K : PySem.W.Frag} {H : Hp} : ∀ {ds : List PyData}, ds.all smD = true → DpAll K H (ds.map vD) ds ∧ PyData.hasDictAll ds = false
  | [], _ => ⟨.nil, rfl⟩
  | d :: ds, h => by
    rw [List.all_cons] at h
    obtain ⟨h1, h2⟩ := Bool.and_eq_true_iff.mp h
    obtain ⟨a, b⟩ := dpAll_sm (K := K) (H := H) h2
    obtain ⟨c1, c2, _⟩ := dp_sm (K := K) (H := H) h1
    refine ⟨.cons c1 a, ?_⟩
    show (d.hasDict || PyData.hasDictAll ds) = false
    rw [c2, b]
    rfl
theorem prb_one {K : PySem.W.Frag} {H : Hp} {d : PyData} (h : smD d = true) : Prb1 K H (vD d) d := by
  obtain ⟨c1, c2, c3, c4, c5⟩ := dp_sm (K := K) (H := H) h
  refine ⟨Th.tg (.dp c1 c2), c4, ⟨c3, fun x hx => ?_⟩, ?_⟩
  · rw [c5] at hx
    cases hx
  · rw [c5]
    exact Nat.zero_le _
theorem prb_tup {K : PySem.W.Frag} {H : Hp} {x : Addr} {ds : List PyData} (h : SqT K H x (ds.map vD)) (sm : ds.all smD = true) (l : ds.length ≤ 10) : Prb1 K H (.ref x) (.tuple ds) := by
  refine ⟨.tup h (by rw [List.length_map]) fun i v d q1 q2 => ?_, (lay_tup sm l).1, ⟨rfl, fun d hd => ?_⟩, by show ds.length ≤ 100; omega⟩
  · rw [List.getElem?_map, q2] at q1
    cases q1
    obtain ⟨c1, c2, _⟩ := dp_sm (K := K) (H := H) (List.all_eq_true.mp sm d (List.mem_of_getElem? q2))
    exact .dp c1 c2
  · exact (dp_sm (K := K) (H := H) (List.all_eq_true.mp sm d hd)).2.2.1
theorem prb_list {K : PySem.W.Frag} {H : Hp} {x : Addr} {ds : List PyData} (h : SqL K H x (ds.map vD)) (sm : ds.all smD = true) (l : ds.length ≤ 10) : Prb1 K H (.ref x) (.list ds) := by
  obtain ⟨a, b⟩ := dpAll_sm (K := K) (H := H) sm
  exact ⟨.oth (.dp (.lst h a) b) rfl, (lay_tup sm l).2.1, ⟨rfl, fun d hd => by cases hd⟩, Nat.zero_le _⟩
theorem prb_in {K : PySem.W.Frag} {H : Hp} {x y : Addr} {ds : List PyData} (h : SqT K H x (ds.map vD)) (hy : SqT K H y [.ref x]) (sm : ds.all smD = true) (l : ds.length ≤ 10) : Prb1 K H (.ref y) (.tuple [.tuple ds]) := by
  obtain ⟨a, b⟩ := dpAll_sm (K := K) (H := H) sm
  refine ⟨odd1 hy (.dp (.tup h a) b), (lay_tup sm l).2.2, ⟨rfl, fun d hd => ?_⟩, by show 1 ≤ 100; decide⟩
  have hd : d ∈ [PyData.tuple ds] := hd
  rw [List.mem_singleton.mp hd]
  rfl
def tBd (K : PySem.W.Frag) : TS := fun D σ H => ∃ (p c oc ob a : Addr) (ns : List Int) (t l : Int) (b : Bd) (cs : List (Addr × Bool)) (bs : List (Addr × Bd)) (s0 s2 s3 s7 s8 s9 s10 : Option V), σ = [s0, some (.ref p), s2, s3, some (.ref oc), some (.ref ob), some (.ref a), s7, s8, s9, s10] ∧ PenAt H p c ns t l ∧ t + 3000 < 1000000000000 ∧ BdAt K H a b ∧ BdOk (cs.map (·.2)) b ∧
  SqL K H oc (refsC cs) ∧ (∀ d ∈ cs, ColAt K H d) ∧ cs.length ≤ 2 ∧ SqL K H ob (refsD bs) ∧ BdsAt K H (cs.map (·.2)) bs ∧ bs.length ≤ 6 ∧
  ∀ (t' l' : Int) (H' : Hp) (s7' s8' s9' : Option V), PenAt H' p c ns t' l' → t' ≤ t + 1100 → But p H H' → D.nx [s0, some (.ref p), s2, s3, some (.ref oc), some (.ref ob), some (.ref a), s7', s8', s9', s10] H'
/-- after the keys: the probes, the alien keys -/
def tBe (K : PySem.W.Frag) : TS := fun D σ H => ∃ (p c oc o a x : Addr) (ns : List Int) (t l : Int) (b : Bd) (cs : List (Addr × Bool)) (ds : List PyData) (s0 s2 s3 s5 s9 s10 : Option V), σ = [s0, some (.ref p), s2, s3, some (.ref oc), s5, some (.ref a), some (.ref o), some (.ref x), s9, s10] ∧ PenAt H p c ns t l ∧ t + 1000 < 1000000000000 ∧ MdAt K H o b ∧ BdAt K H a b ∧ BdOk (cs.map (·.2)) b ∧
  SqL K H oc (refsC cs) ∧ (∀ d ∈ cs, ColAt K H d) ∧ cs.length ≤ 2 ∧ SqT K H x (ds.map vD) ∧ PtOk (cs.map (·.2)) ds ∧
  ∀ (t' l' : Int) (H' : Hp) (s9' : Option V), PenAt H' p c ns t' l' → t' ≤ t + 1 → But p H H' → D.nx [s0, some (.ref p), s2, s3, some (.ref oc), s5, some (.ref a), some (.ref o), some (.ref x), s9', s10] H'
section
variable {P : Program} {w : World} {K : PySem.W.Frag} {mg : Str → Option Value} {base : Heap} {f : Addr} {cdv : Value} {A : Around} {outer : List Env} {s : Shared} {H0 : Hp} {E : XK}
theorem lw_be (hr : Room 5 (LX P w K mg base f cdv A outer s H0 E).A) (W : LwT P w K mg base) : PSs (LX P w K mg base f cdv A outer s H0 E) (nthS bBd 2 :: nthS bBd 3 :: []) (tBe K) := by
  have nd := scLaw.nd
  have base : PSs (LX P w K mg base f cdv A outer s H0 E) (nthS bBd 2 :: nthS bBd 3 :: []) _ :=
    (pss_cons (ps_for PassesOwn.never rfl (pi_list (pe_lst (pa_cons (pe_call W.GA.ok (hr.mono (by decide)) rfl W.GA.g W.GA.k W.GA.b .nil pass0 (pa_cons (pv 1) pa_nil)) (pa_cons (pe_tup pa_nil) (pa_cons (pe_op op_repT (pe_tup (pa_cons pe_non pa_nil)) pe_int) (pa_cons (pe_callTy call_list_of (by rfl) W.list (by decide +kernel) (pa_cons (pv 8) pa_nil)) (pa_cons (pe_op op_catE (pv 8) (pe_tup (pa_cons pe_int pa_nil))) (pa_cons (pe_ix (ix_tupK (K := K) rfl) (pv 8) pe_int (fun _ _ => rfl)) (pa_cons (pe_tup (pa_cons (pv 8) pa_nil)) pa_nil))))))))) (pg_name (i := 9) nd rfl (Or.inl rfl)) (lw_pr (hr.mono (by decide)) W))
    (pss_one (ps_if (pt_not (pt_val (pe_call W.GX.ok hr rfl W.GX.g W.GX.k W.GX.b .nil pass0 (pa_cons (pv 7) (pa_cons (pv 6) (pa_cons (pv 8) (pa_cons (pv 4) pa_nil))))))) (pss_one (ps_ret pe_bl)) pss_nil)))
  refine PSs.imp base fun D σ H h => ?_
  clear base
  obtain ⟨p, c, oc, o, a, x, ns, t, l, b, cs, ds, s0, s2, s3, s5, s9, s10, rfl, D0, ht, hm, ha, hb, hc, hca, cl, hx, hp, k⟩ := h
  have sm := pt_sm hp
  have pos : 1 ≤ ds.length := by rw [hp.l]; exact hb.pos
  have l2 : ds.length ≤ 2 := by
    have := hp.l
    rw [List.length_map] at this
    omega
  refine ⟨_, rfl, p, c, ns, t, l, rfl, D0, by omega, fun v dv t4 l4 H4 th aok h4 D4 b4 => ?_⟩
  have eo := eok_any aok
  have lo : lOk dv = true := (Bool.and_eq_true_iff.mp (Bool.and_eq_true_iff.mp aok).2).2
  have r0 : PrbAt K H4 [] [] := ⟨rfl, fun i x d e => by simp at e⟩
  have r1 := r0.snoc (Same.refl H4) (x := v) (d := dv) ⟨Th.tg th, lo, eo.o, eo.n⟩
  refine ⟨(by show 0 ≤ sizeLine; decide), fun e2 n2 => ?_⟩
  have q2 := same_new (o := .tup []) (Same.refl H4) n2
  have r2 := r1.snoc q2 (prb_tup (ds := []) (SqT.of upd_same) rfl (by decide))
  generalize upd H4 e2 (.tup []) = H5 at q2 r2 ⊢
  refine ⟨(by show 1 ≤ sizeLine; decide), fun e3 n3 => ?_⟩
  have q3 := same_new (o := .tup [.non]) (Same.refl H5) n3
  have y3 : (upd H5 e3 (.tup [.non])) e3 = some (.tup [.non]) := upd_same
  generalize upd H5 e3 (.tup [.non]) = H6 at q3 y3 ⊢
  refine ⟨e3, 3, [.non], rfl, rfl, SqT.of y3, by simp, by decide, by decide, by show 1 ≤ 1000; decide, fun z3 m3 => ?_⟩
  have q4 := same_new (o := .tup (List.replicate (3 : Int).toNat [V.non]).flatten) (Same.refl H6) m3
  have r3 := r2.snoc (q3.trans q4) (prb_tup (ds := [.none, .none, .none]) (SqT.of upd_same) rfl (by decide))
  generalize upd H6 z3 (.tup (List.replicate (3 : Int).toNat [V.non]).flatten) = H7 at q4 r3 ⊢
  have q24 := (q2.trans q3).trans q4
  have hx7 : SqT K H7 x (ds.map vD) := sqT_same (sqT_but D0.d b4 hx) q24
  refine ⟨_, rfl, x, ds.map vD, rfl, .inr hx7, fun e4 n4 => ?_⟩
  have q5 := same_new (o := .lst (ds.map vD)) (Same.refl H7) n4
  have r4 := r3.snoc q5 (prb_list (ds := ds) (SqL.of upd_same) sm (by omega))
  generalize upd H7 e4 (.lst (ds.map vD)) = H8 at q5 r4 ⊢
  refine ⟨_, rfl, (by show 1 ≤ sizeLine; decide), fun e5 n5 => ?_⟩
  have q6 := same_new (o := .tup [.int 0]) (Same.refl H8) n5
  have y6 : (upd H8 e5 (.tup [.int 0])) e5 = some (.tup [.int 0]) := upd_same
  generalize upd H8 e5 (.tup [.int 0]) = H9 at q6 y6 ⊢
  refine ⟨x, e5, _, _, rfl, rfl, sqT_same (sqT_same hx7 q5) q6, SqT.of y6, by rw [List.length_map]; show _ + 1 ≤ 1000; omega, fun e6 H10 q7 h6 => ?_⟩
  have r5 := r4.snoc (q6.trans q7) (prb_tup (ds := ds ++ [.int 0]) (by rw [List.map_append]; exact h6) (by rw [List.all_append, sm]; decide +kernel) (by rw [List.length_append]; show _ + 1 ≤ 10; omega))
  have hx10 : SqT K H10 x (ds.map vD) := sqT_same (sqT_same (sqT_same hx7 q5) q6) q7
  obtain ⟨d0, hd0⟩ : ∃ d0, ds[0]? = some d0 := ⟨_, List.getElem?_eq_getElem (by omega)⟩
  refine ⟨_, rfl, x, _, 0, vD d0, rfl, rfl, hx10, atI_nat (j := 0) (by rw [List.getElem?_map, hd0]; rfl), ?_⟩
  have r6 := r5.snoc (Same.refl H10) (prb_one (List.all_eq_true.mp sm d0 (List.mem_of_getElem? hd0)))
  refine ⟨_, rfl, (by show 1 ≤ sizeLine; decide), fun e7 n7 => ?_⟩
  have q8 := same_new (o := .tup [.ref x]) (Same.refl H10) n7
  have r7 := r6.snoc q8 (prb_in (ds := ds) (sqT_same hx10 q8) (SqT.of upd_same) sm (by omega))
  generalize upd H10 e7 (.tup [.ref x]) = H11 at q8 r7 ⊢
  have q48 := (((q24.trans q5).trans q6).trans q7).trans q8
  refine ⟨(by show 7 ≤ sizeLine; decide), fun q nq => ?_⟩
  have r7 : PrbAt K H11 [v, .ref e2, .ref z3, .ref e4, .ref e6, vD d0, .ref e7] [dv, .tuple [], .tuple [.none, .none, .none], .list ds, .tuple (ds ++ [.int 0]), d0, .tuple [.tuple ds]] := r7
  generalize [v, V.ref e2, V.ref z3, V.ref e4, V.ref e6, vD d0, V.ref e7] = xs at r7 ⊢
  generalize [dv, PyData.tuple [], PyData.tuple [.none, .none, .none], PyData.list ds, PyData.tuple (ds ++ [.int 0]), d0, PyData.tuple [.tuple ds]] = es at r7
  have q9 := same_new (o := .lst xs) (Same.refl H11) nq
  have yq : (upd H11 q (.lst xs)) q = some (.lst xs) := upd_same
  have r8 := r7.same q9
  generalize upd H11 q (.lst xs) = H12 at q9 yq r8 ⊢
  have bT : But p H H12 := b4.trans (But.of (q48.trans q9))
  have D12 := D4.same (q48.trans q9)
  clear r0 r1 r2 r3 r4 r5 r6 r7 q2 q3 q4 q5 q6 q7 q8 q9 q24 hx7 hx10
  have hm2 := hm.but D0.d bT
  have ha2 := ha.but D0.d bT
  have hx2 := sqT_but D0.d bT hx
  have hc2 := sqL_but D0.d bT hc
  have hca2 : ∀ d ∈ cs, ColAt K H12 d := fun d hd => (hca d hd).but D0.d bT
  refine ⟨q, rfl, ⟨_, SqL.of yq⟩, ?_⟩
  refine for_it (walk_list (K := K) (a := q) (xs := xs)) (fun j σ H' => ∃ s9' : Option V, σ = [s0, some (.ref p), s2, s3, some (.ref oc), s5, some (.ref a), some (.ref o), some (.ref x), s9', s10] ∧ Same H12 H')
    ⟨_, rfl, Same.refl H12⟩ (fun j σ H' _ y => by obtain ⟨_, _, y⟩ := y; exact SqL.of (y _ _ yq)) ?_ ?_
  · rintro j v' σ Hz H3 hj ⟨s9', rfl, y⟩ ⟨rfl, hv⟩
    have hv : xs[j]? = some v' := hv
    have hj : j < es.length := by rw [← r8.l]; exact hj
    obtain ⟨g1, g2, g3, g4⟩ := r8.t j v' es[j] hv (List.getElem?_eq_getElem hj)
    exact ⟨o, x, oc, v', es[j], b, cs, ds, _, _, _, _, _, _, _, rfl, hm2.same y, hb, sqT_same hx2 y, hp, sqL_same hc2 y, cl, g1.same y, g2, g3, g4, fun H' s' => ⟨_, rfl, y.trans s'⟩⟩
  · rintro σ H3 ⟨s9', rfl, y⟩
    refine ⟨_, rfl, _, rfl, _, rfl, _, rfl, o, a, x, oc, b, ds, cs, rfl, hm2.same y, ha2.same y, hb, sqT_same hx2 y, hp, sqL_same hc2 y, (fun d hd => (hca2 d hd).same y), cl, fun H5 s5' => ⟨_, rfl, ?_⟩⟩
    refine itF rfl ?_
    exact k t4 l4 H5 _ ((D12.same y).same s5') h4 (bT.trans (But.of (y.trans s5')))
theorem lw_bd (hr : Room 7 (LX P w K mg base f cdv A outer s H0 E).A) (W : LwT P w K mg base) : PSs (LX P w K mg base f cdv A outer s H0 E) (nthS bBd 0 :: nthS bBd 1 :: nthS bBd 2 :: nthS bBd 3 :: []) (tBd K) := by
  have nd := scLaw.nd
  have base : PSs (LX P w K mg base f cdv A outer s H0 E) (nthS bBd 0 :: nthS bBd 1 :: nthS bBd 2 :: nthS bBd 3 :: []) _ :=
    (pss_cons (ps_set (i := 7) nd rfl (Or.inl rfl) (pe_call W.GM.ok hr rfl W.GM.g W.GM.k W.GM.b .nil pass0 (pa_cons (pv 6) pa_nil)))
    (pss_cons (ps_for PassesOwn.never rfl (pi_list (pe_call W.GK.ok (hr.mono (by decide)) rfl W.GK.g W.GK.k W.GK.b .nil pass0 (pa_cons (pv 1) (pa_cons (pv 4) (pa_cons (pv 5) pa_nil))))) (pg_name (i := 8) nd rfl (Or.inl rfl)) (lw_pt (hr.mono (by decide)) W))
    (lw_be (hr.mono (by decide)) W)))
  refine PSs.imp base fun D σ H h => ?_
  clear base
  obtain ⟨p, c, oc, ob, a, ns, t, l, b, cs, bs, s0, s2, s3, s7, s8, s9, s10, rfl, D0, ht, ha, hb, hc, hca, cl, hob, hbs, bl, k⟩ := h
  refine ⟨_, rfl, a, b, _, rfl, ha, hb, fun o H1 s1 hm => ?_⟩
  refine ⟨_, rfl, _, rfl, _, rfl, p, c, oc, ob, ns, t, l, cs, bs, rfl, D0.same s1, by omega, sqL_same hc s1, (fun d hd => (hca d hd).same s1), cl, sqL_same hob s1, hbs.same s1, bl, fun q pts t2 l2 H2 hpt l12 h2 D2 b2 hq => ?_⟩
  have bT : But p H H2 := (But.of s1).trans b2
  have hm2 := hm.but (D0.same s1).d b2
  have ha2 := ha.but D0.d bT
  have hc2 := sqL_but D0.d bT hc
  have hca2 : ∀ d ∈ cs, ColAt K H2 d := fun d hd => (hca d hd).but D0.d bT
  refine ⟨q, rfl, ⟨_, SqL.of hq⟩, ?_⟩
  refine for_it (walk_list (K := K) (a := q) (xs := refsP pts)) (fun j σ H' => ∃ s8' : Option V, (1 ≤ j → ∃ d ∈ pts, s8' = some (.ref d.1)) ∧ σ = [s0, some (.ref p), s2, s3, some (.ref oc), some (.ref ob), some (.ref a), some (.ref o), s8', s9, s10] ∧ Same H2 H')
    ⟨_, (fun z => absurd z (by decide)), rfl, Same.refl H2⟩ (fun j σ H' _ y => by obtain ⟨_, _, _, y⟩ := y; exact SqL.of (y _ _ hq)) ?_ ?_
  · rintro j v' σ Hz H3 hj ⟨s8', _, rfl, y⟩ ⟨rfl, hv⟩
    have hv : (refsP pts)[j]? = some v' := hv
    rw [List.getElem?_map] at hv
    obtain ⟨d, hd, rfl⟩ := Option.map_eq_some_iff.mp hv
    have hd := List.mem_of_getElem? hd
    obtain ⟨hx, hp⟩ := hpt d hd
    exact ⟨o, a, d.1, b, _, d.2, _, _, _, _, _, _, _, _, rfl, hm2.same y, ha2.same y, hb, sqT_same hx y, hp, by rw [List.length_map]; exact cl, fun H' s' => ⟨_, (fun _ => ⟨d, hd, rfl⟩), rfl, y.trans s'⟩⟩
  · rintro σ H3 ⟨s8', z8, rfl, y⟩
    obtain ⟨d, hd, rfl⟩ := z8 (by rw [List.length_map, l12]; decide)
    obtain ⟨hx, hp⟩ := hpt d hd
    exact ⟨p, c, oc, o, a, d.1, ns, t2, l2, b, cs, d.2, _, _, _, _, _, _, rfl, D2.same y, by omega, hm2.same y, ha2.same y, hb, sqL_same hc2 y, (fun d hd => (hca2 d hd).same y), cl, sqT_same hx y, hp, fun t' l' H' s9' D' h' b' => k t' l' H' _ _ s9' D' (by omega) (bT.trans ((But.of y).trans b'))⟩
end
end K26
set_option Elab.async false
set_option linter.all false
set_option maxRecDepth 100000
set_option maxHeartbeats 4000000
/-! the law -/
namespace K26
open K34 PySem PySem.Spec PyProof.Rows L2 StX
theorem MnOk.len {ks : List Bool} {m : Mn} (h : MnOk ks m) : ks.length ≤ 2 := by
  cases m with
  | rng =>
    have h : ks.length = 1 ∨ ks.length = 2 := h
    omega
  | vls =>
    have h : ks.length = 1 := h
    omega
  | rst =>
    have h : ks = [false] := h
    rw [h]
    decide
def tTu (K : PySem.W.Frag) : TS := fun D σ H => ∃ (p c : Addr) (ns : List Int) (t l : Int) (s0 s2 s3 s4 s5 s6 s7 s8 s9 s10 : Option V), σ = [s0, some (.ref p), s2, s3, s4, s5, s6, s7, s8, s9, s10] ∧ PenAt H p c ns t l ∧ t + 100000 < 1000000000000 ∧
  ∀ (t' l' : Int) (H' : Hp) (s3' s4' s5' s6' s7' s8' s9' s10' : Option V), PenAt H' p c ns t' l' → t' ≤ t + 8000 → But p H H' → D.nx [s0, some (.ref p), s2, s3', s4', s5', s6', s7', s8', s9', s10'] H'
def spLaw (K : PySem.W.Frag) : Sp := fun vs H Q _ => ∃ (a : Addr) (ns : List Int), vs = [.ref a] ∧ SqL K H a (ns.map V.int) ∧ ns.length ≤ 63 ∧ ∀ H', Q (.bl true) H'
section
variable {P : Program} {w : World} {K : PySem.W.Frag} {mg : Str → Option Value} {base : Heap} {f : Addr} {fd : FuncData} {cdv : Value} {A : Around} {outer : List Env} {s : Shared} {H0 : Hp} {E : XK}
theorem lw_tu (hr : Room 7 (LX P w K mg base f cdv A outer s H0 E).A) (W : LwT P w K mg base) : PSs (LX P w K mg base f cdv A outer s H0 E) (nthS bTurn 0 :: nthS bTurn 1 :: nthS bTurn 2 :: nthS bTurn 3 :: []) (tTu K) := by
  have nd := scLaw.nd
  have base : PSs (LX P w K mg base f cdv A outer s H0 E) (nthS bTurn 0 :: nthS bTurn 1 :: nthS bTurn 2 :: nthS bTurn 3 :: []) _ :=
    (pss_cons (ps_set (i := 3) nd rfl (Or.inl rfl) (pe_call W.GP.ok (hr.mono (by decide)) rfl W.GP.g W.GP.k W.GP.b .nil pass0 (pa_cons (pv 1) (pa_cons (pe_lst (pa_cons pe_str (pa_cons pe_str (pa_cons pe_str (pa_cons pe_str pa_nil))))) pa_nil))))
    (pss_cons (ps_set (i := 4) nd rfl (Or.inl rfl) (pe_call W.GC.ok (hr.mono (by decide)) rfl W.GC.g W.GC.k W.GC.b .nil pass0 (pa_cons (pv 1) (pa_cons (pv 3) pa_nil))))
    (pss_cons (ps_set (i := 5) nd rfl (Or.inl rfl) (pe_call W.GB.ok (hr.mono (by decide)) rfl W.GB.g W.GB.k W.GB.b .nil pass0 (pa_cons (pv 1) (pa_cons (pv 3) (pa_cons (pe_lc (own := [("_law_column", 10)]) (g := gName 10) (tt := tYes) rfl nd (pi_list (pv 4)) (blkOk_by (N := NL) (sc := defScope sLaw) (by decide +kernel)) (fun _ _ _ _ _ => pg_name (i := 10) nd rfl (Or.inl rfl)) (fun _ _ _ _ _ => pts_nil) (fun _ _ _ _ _ => pe_ix (ix_tupK (K := K) rfl) (pv 10) pe_int (fun _ _ => rfl))) (pa_cons pe_int pa_nil))))))
    (pss_one (ps_for PassesOwn.never rfl (pi_list (pv 5)) (pg_name (i := 6) nd rfl (Or.inl rfl)) (lw_bd hr W))))))
  refine PSs.imp base fun D σ H h => ?_
  clear base
  obtain ⟨p, c, ns, t, l, s0, s2, s3, s4, s5, s6, s7, s8, s9, s10, rfl, D0, ht, k⟩ := h
  refine ⟨_, rfl, (by show 4 ≤ sizeLine; decide), fun b nb => ?_⟩
  have q1 := same_new (o := .lst [.str "range", .str "range", .str "values", .str "rest"]) (Same.refl H) nb
  refine ⟨p, c, b, ns, t, l, _, rfl, D0.same q1, by omega, SqL.of upd_same, by simp, (by show 4 < 1000000; decide), fun x t1 l1 H1 hx h1 D1 b1 => ?_⟩
  obtain ⟨m, rfl⟩ : ∃ m, x = .str (mnS m) := by
    simp only [List.mem_cons, List.not_mem_nil, or_false] at hx
    rcases hx with h | h | h | h
    · exact ⟨.rng, h⟩
    · exact ⟨.rng, h⟩
    · exact ⟨.vls, h⟩
    · exact ⟨.rst, h⟩
  refine ⟨_, rfl, _, rfl, p, c, ns, t1, l1, m, rfl, D1, by omega, fun q cs t2 l2 H2 hca hmn h2 D2 b2 hq => ?_⟩
  have b02 : But p H H2 := ((But.of q1).trans b1).trans b2
  have cl : cs.length ≤ 2 := by
    have := hmn.len
    rw [List.length_map] at this
    exact this
  refine ⟨_, rfl, _, rfl, _, rfl, q, rfl, ⟨_, SqL.of hq⟩, fun D0' hD => ?_⟩
  have hD : H2 D0' = none := hD
  refine lc_it (walk_list (K := K) (a := q) (xs := refsC cs)) (fun i H6 => H6 D0' = some (.lst ((cs.take i).map fun d => kV d.2)) ∧ Same H2 H6) ⟨upd_same, same_new (Same.refl H2) hD⟩ (fun i H6 _ y => SqL.of (y.2 _ _ hq)) ?_ ?_
  · rintro i x Hz H6 hi ⟨z1, z4⟩ ⟨rfl, hx⟩
    have hx : (refsC cs)[i]? = some x := hx
    rw [List.getElem?_map] at hx
    obtain ⟨d, hd, rfl⟩ := Option.map_eq_some_iff.mp hx
    obtain ⟨nm, rq, hcol⟩ := (hca d (List.mem_of_getElem? hd)).same z4
    refine ⟨rfl, ?_⟩
    unfold tYes
    dsimp only
    refine iteT ?_
    refine ⟨_, rfl, d.1, _, 1, kV d.2, rfl, rfl, hcol, rfl, ?_⟩
    refine ⟨_, z1, by rw [List.length_map, List.length_take, sizeLine_eq]; omega, ?_, fun b' o' e' => ?_⟩
    · rw [upd_same, List.take_add_one, hd, List.map_append]
      rfl
    · rw [upd_ne (fun z => by rw [z, hD] at e'; cases e')]
      exact z4 _ _ e'
  · rintro H6 ⟨z1, z4⟩
    have z1 : H6 D0' = some (.lst ((cs.take (refsC cs).length).map fun d => kV d.2)) := z1
    rw [List.length_map, List.take_length] at z1
    refine ⟨p, c, D0', ns, t2, l2, m, cs.map (·.2), rfl, D2.same z4, by omega, SqL.of (by rw [z1, List.map_map]; rfl), hmn, fun q2 bs t3 l3 H3 hbs bl h3 D3 b3 hq2 => ?_⟩
    have b63 : But p H2 H3 := (But.of z4).trans b3
    have hc3 : SqL K H3 q (refsC cs) := sqL_but D2.d b63 (SqL.of hq)
    have hca3 : ∀ d ∈ cs, ColAt K H3 d := fun d hd => (hca d hd).but D2.d b63
    refine ⟨_, rfl, q2, rfl, ⟨_, hq2⟩, ?_⟩
    refine for_it (walk_list (K := K) (a := q2) (xs := refsD bs)) (fun j σ H' => ∃ (s6' s7' s8' s9' s10' : Option V) (t' l' : Int), σ = [s0, some (.ref p), s2, some (.str (mnS m)), some (.ref q), some (.ref q2), s6', s7', s8', s9', s10'] ∧ PenAt H' p c ns t' l' ∧ t' ≤ t3 + 1100 * (j : Int) ∧ But p H3 H')
      ⟨_, _, _, _, _, t3, l3, rfl, D3, by omega, But.refl p H3⟩ (fun j σ H' _ y => by obtain ⟨_, _, _, _, _, _, _, _, _, _, y⟩ := y; exact sqL_but D3.d y hq2) ?_ ?_
    · rintro j x σ Hz H7 hj ⟨s6', s7', s8', s9', s10', t7, l7, rfl, D7, h7, b7⟩ ⟨rfl, hx⟩
      have hx : (refsD bs)[j]? = some x := hx
      have hj : j < (refsD bs).length := hj
      rw [List.length_map] at hj
      rw [List.getElem?_map] at hx
      obtain ⟨d, hd, rfl⟩ := Option.map_eq_some_iff.mp hx
      obtain ⟨da, dk⟩ := (hbs.but D3.d b7) d (List.mem_of_getElem? hd)
      exact ⟨p, c, q, q2, d.1, ns, t7, l7, d.2, cs, bs, _, _, _, _, _, _, _, rfl, D7, by omega, da, dk, sqL_but D3.d b7 hc3, (fun d hd => (hca3 d hd).but D3.d b7), cl, sqL_but D3.d b7 hq2, hbs.but D3.d b7, bl, fun t' l' H' s7'' s8'' s9'' D' h' b' => ⟨_, _, _, _, _, t', l', rfl, D', by push_cast; omega, b7.trans b'⟩⟩
    · rintro σ H7 ⟨s6', s7', s8', s9', s10', t7, l7, rfl, D7, h7, b7⟩
      have h7 : t7 ≤ t3 + 1100 * (((refsD bs).length : Nat) : Int) := h7
      rw [List.length_map] at h7
      exact k t7 l7 H7 _ _ _ _ _ _ _ _ D7 (by omega) ((b02.trans b63).trans b7)
theorem ok_law (F : FnP K "law" sLaw f fd) (W : LwT P w K mg base) : FnOk P w K mg base CX0 8 f fd ["_law_script"] (spLaw K) := by
  refine F.ok scLaw (fun vs H Q E h => ?_) (fun cdv A outer s H vs Q E hr h => ?_)
  · obtain ⟨a, ns, rfl, _⟩ := h
    rfl
  · obtain ⟨a, ns, rfl, hs, hn, q⟩ := h
    have nd := scLaw.nd
    refine ⟨_, PSs.nox (pss_cons (ps_set (i := 1) nd rfl (Or.inl rfl) (pe_call W.GPen.ok (hr.mono (by decide)) rfl W.GPen.g W.GPen.k W.GPen.b .nil pass0 (pa_cons (pv 0) pa_nil)))
      (pss_cons (ps_for PassesOwn.never rfl (pi_range1 rfl W.range (pa_cons (pe_op op_add pe_int (pe_callB (call_min2 rfl) (by rfl) W.min (by decide +kernel) (pa_cons pe_int (pa_cons (pe_callB call_len_seq (by rfl) W.len PySem.boot_len (pa_cons (pv 0) pa_nil)) pa_nil)))) pa_nil)) (pg_name (i := 2) nd rfl (Or.inl rfl)) (lw_tu hr W))
      (pss_one (ps_ret pe_bl)))), ?_⟩
    refine ⟨_, rfl, a, ns, rfl, hs, hn, fun p c ms H1 D s1 => ?_⟩
    refine ⟨_, rfl, a, ns.map V.int, rfl, .inl (sqL_same hs s1), _, _, rfl, _, _, rfl, rfl, ?_⟩
    have len : 0 ≤ ((ns.map V.int).length : Int) ∧ ((ns.map V.int).length : Int) ≤ 63 := by rw [List.length_map]; omega
    generalize ((ns.map V.int).length : Int) = n at len ⊢
    refine ⟨8 + (if n < 8 then n else 8), rfl, by split <;> omega, by split <;> omega, for_range (lo := 0) (n := (8 + (if n < 8 then n else 8)).toNat) (fun i σ H' => ∃ (v2 v3 v4 v5 v6 v7 v8 v9 v10 : Option V) (t l : Int), σ = [some (.ref a), some (.ref p), v2, v3, v4, v5, v6, v7, v8, v9, v10] ∧ PenAt H' p c ms t l ∧ t ≤ 8000 * (i : Int))
      ⟨none, none, none, none, none, none, none, none, none, 0, 0, rfl, D, by omega⟩ ?_ ?_⟩
    · rintro i σ H2 hi ⟨v2, v3, v4, v5, v6, v7, v8, v9, v10, t, l, rfl, D2, ht⟩
      have hi20 : i < 16 := by
        have z : (8 + (if n < 8 then n else 8)).toNat ≤ 16 := by split <;> omega
        omega
      exact ⟨p, c, ms, t, l, _, _, _, _, _, _, _, _, _, _, rfl, D2, by omega, fun t' l' H' s3' s4' s5' s6' s7' s8' s9' s10' D' h' b' => ⟨_, _, _, _, _, _, _, _, _, t', l', rfl, D', by push_cast; omega⟩⟩
    · rintro σ H2 ⟨v2, v3, v4, v5, v6, v7, v8, v9, v10, t, l, rfl, D2, ht⟩
      exact q _
end
end K26
set_option Elab.async false
set_option linter.all false
set_option maxRecDepth 100000
set_option maxHeartbeats 0
namespace K26
open K34 PySem PySem.Spec PyProof.Rows L2 StX RevT
section
variable {K : PySem.W.Frag}
theorem clsB_ok {C : Addr} {k : Kd} (h : clsB K C k = true) : ∃ nm q N bs sn sub ab col dd k0 k1 k2 k3 k5, K.lookup C = some (excClassObj nm q C N bs k.bm true sn sub ab col dd k0 k1 k2 k3 k5 k.newId) := by
  unfold clsB at h
  cases e : K.lookup C with
  | none =>
    rw [e] at h
    cases h
  | some o =>
    obtain ⟨oc, od, dt, sl⟩ := o
    rw [e] at h
    cases oc with
    | type t =>
      cases dt with
      | cls cd =>
        obtain ⟨h1, w1⟩ := He.ba h
        obtain ⟨h2, w2⟩ := He.ba w1
        obtain ⟨h3, w3⟩ := He.ba w2
        obtain ⟨h4, w4⟩ := He.ba w3
        clear h w1 w2 w3
        obtain ⟨nm, bs, mro, ns, qn, hd, sn, sb, ab, col, dl⟩ := cd
        have e1 : t = "type" := of_decide_eq_true h1
        have e2 : mro = .ref C :: k.bm := of_decide_eq_true h2
        have e3 : hd = true := h3
        have e4 : dl = false := by simpa using h4
        subst e1 e2 e3 e4
        obtain ⟨l⟩ := sl
        match l, w4 with
        | [k0, k1, k2, k3, some (.builtin n), k5], w4 =>
          have e5 : n = k.newId := of_decide_eq_true w4
          subst e5
          exact ⟨nm, qn, ns, bs, sn, sb, ab, col, od, k0, k1, k2, k3, k5, rfl⟩
      | _ => cases h
    | _ => cases h
theorem ecB_ok {C : Addr} {k : Kd} (h : ecB K C k = true) (s1 : PySem.W.specialIn K (.builtin "object.__class__") "__get__" = some (some (.builtin "getset_descriptor.__get__"))) (s2 : PySem.W.takesIn K (.builtin "object.__class__") = some true) : EC K C k := by
  obtain ⟨h1, h⟩ := He.ba h
  obtain ⟨h2, h⟩ := He.ba h
  obtain ⟨h3, h⟩ := He.ba h
  obtain ⟨h4, h⟩ := He.ba h
  obtain ⟨h5, h⟩ := He.ba h
  obtain ⟨h6, h⟩ := He.ba h
  obtain ⟨h7, h⟩ := He.ba h
  obtain ⟨h8, h9⟩ := He.ba h
  exact ⟨clsB_ok h1, He.eqO_ok h2, h3, ⟨He.eqO_ok h4, He.eqO_ok h5, of_decide_eq_true h6, h7, He.eqO_ok h8, s1, s2, of_decide_eq_true h9⟩⟩
theorem ex_at (h : exB K = true) (i : Nat) {b : Bool} (e : (exL K)[i]? = some b) : b = true := List.all_eq_true.mp h b (List.mem_of_getElem? e)
theorem err_ok {x : Str} {k : Kd} (h : errB K x k = true) (s1 : PySem.W.specialIn K (.builtin "object.__class__") "__get__" = some (some (.builtin "getset_descriptor.__get__"))) (s2 : PySem.W.takesIn K (.builtin "object.__class__") = some true) :
    EC K (He.ga K x) k ∧ PySem.W.findIn K (.ref (He.ga K x)) "__init__" = some (some (.ref (He.ma K (He.ga K x) "__init__"))) ∧ PySem.W.typeIn K (.ref (He.ma K (He.ga K x) "__init__")) = some (.type "function") := by
  obtain ⟨h1, h2⟩ := He.ba h
  obtain ⟨h2, h3⟩ := He.ba h2
  exact ⟨ecB_ok h1 s1 s2, He.eqO_ok h2, of_decide_eq_true h3⟩
end
theorem facts {P : Program} {w : World} {K : PySem.W.Frag} {h : Heap} {mg : Str → Option Value} {f : Addr} (S : Says1 h K) (G : h.Ns mainGlobals mg) (hfa : mg ("law" : Str) = some (.ref f)) :
    ∃ fd : FuncData, (∀ (s : Shared) (v : Value), BindsTo s fd ⟨[v], []⟩ [("_law_script", v)]) ∧ ∀ base : Heap, K.In base → base.Ns mainGlobals mg →
      FnOk P w K mg base CX0 8 f fd ["_law_script"] (spLaw K) := by
  have X := S.kin
  have c := S.d
  have x0 : (errB K "InvalidBound" .ve) = true := ex_at S.x 0 rfl
  have x1 : ((PySem.W.clsIn K (He.ga K "Range")).isSome) = true := ex_at S.x 1 rfl
  have x2 : (decide (PySem.W.typeIn K (.ref (He.ga K "Range")) = some (.type "type"))) = true := ex_at S.x 2 rfl
  have x3 : (He.eqO (PySem.W.findIn K (.ref (He.ga K "Range")) "__class__") (some (some (.builtin "object.__class__")))) = true := ex_at S.x 3 rfl
  have x4 : (decide (PySem.W.mroIn K (He.ga K "Range") (.type "object") = some true)) = true := ex_at S.x 4 rfl
  have x5 : (He.eqO (PySem.W.findIn K (.ref (He.ga K "Range")) "__ne__") (some (some (.builtin "object.__ne__")))) = true := ex_at S.x 5 rfl
  have x6 : ((PySem.W.clsIn K (He.ga K "Values")).isSome) = true := ex_at S.x 6 rfl
  have x7 : (decide (PySem.W.typeIn K (.ref (He.ga K "Values")) = some (.type "type"))) = true := ex_at S.x 7 rfl
  have x8 : (He.eqO (PySem.W.findIn K (.ref (He.ga K "Values")) "__class__") (some (some (.builtin "object.__class__")))) = true := ex_at S.x 8 rfl
  have x9 : (decide (PySem.W.mroIn K (He.ga K "Values") (.type "object") = some true)) = true := ex_at S.x 9 rfl
  have x10 : (He.eqO (PySem.W.findIn K (.ref (He.ga K "Values")) "__ne__") (some (some (.builtin "object.__ne__")))) = true := ex_at S.x 10 rfl
  have x11 : ((PySem.W.clsIn K (He.ga K "Rest")).isSome) = true := ex_at S.x 11 rfl
  have x12 : (decide (PySem.W.typeIn K (.ref (He.ga K "Rest")) = some (.type "type"))) = true := ex_at S.x 12 rfl
  have x13 : (He.eqO (PySem.W.findIn K (.ref (He.ga K "Rest")) "__class__") (some (some (.builtin "object.__class__")))) = true := ex_at S.x 13 rfl
  have x14 : (decide (PySem.W.mroIn K (He.ga K "Rest") (.type "object") = some true)) = true := ex_at S.x 14 rfl
  have x15 : (He.eqO (PySem.W.findIn K (.ref (He.ga K "Rest")) "__ne__") (some (some (.builtin "object.__ne__")))) = true := ex_at S.x 15 rfl
  have x16 : ((PySem.W.clsIn K (He.ga K "Default")).isSome) = true := ex_at S.x 16 rfl
  have x17 : (decide (PySem.W.typeIn K (.ref (He.ga K "Default")) = some (.type "type"))) = true := ex_at S.x 17 rfl
  have x18 : (He.eqO (PySem.W.findIn K (.ref (He.ga K "Default")) "__class__") (some (some (.builtin "object.__class__")))) = true := ex_at S.x 18 rfl
  have x19 : (decide (PySem.W.mroIn K (He.ga K "Default") (.type "object") = some true)) = true := ex_at S.x 19 rfl
  have x20 : (He.eqO (PySem.W.findIn K (.ref (He.ga K "Default")) "__ne__") (some (some (.builtin "object.__ne__")))) = true := ex_at S.x 20 rfl
  have x21 : (decide (PySem.W.specialIn K (.builtin "object.__class__") "__get__" = some (some (.builtin "getset_descriptor.__get__")))) = true := ex_at S.x 21 rfl
  have x22 : (decide (PySem.W.takesIn K (.builtin "object.__class__") = some true)) = true := ex_at S.x 22 rfl
  have x23 : (PySem.W.makesIn K (He.ga K "Default")) = true := ex_at S.x 23 rfl
  have x24 : (He.eqO (PySem.W.findIn K (.ref (He.ga K "Default")) "__init__") (some (some (.builtin "object.__init__")))) = true := ex_at S.x 24 rfl
  have x25 : (PySem.W.keepIn K (.ref (He.ga K "Default"))) = true := ex_at S.x 25 rfl
  have z_int := He.free_ok X G (c.fact 0 (f := .free "int") rfl)
  have z_len := He.free_ok X G (c.fact 1 (f := .free "len") rfl)
  have z_abs := He.free_ok X G (c.fact 2 (f := .free "abs") rfl)
  have z_list := He.free_ok X G (c.fact 3 (f := .free "list") rfl)
  have z_repr := He.free_ok X G (c.fact 4 (f := .free "repr") rfl)
  have z_range := He.free_ok X G (c.fact 5 (f := .free "range") rfl)
  have z_isinstance := He.free_ok X G (c.fact 6 (f := .free "isinstance") rfl)
  have z_str := He.free_ok X G (c.fact 7 (f := .free "str") rfl)
  have z_bool := He.free_ok X G (c.fact 8 (f := .free "bool") rfl)
  have z_all := He.free_ok X G (c.fact 9 (f := .free "all") rfl)
  have z_zip := He.free_ok X G (c.fact 10 (f := .free "zip") rfl)
  have z_tuple := He.free_ok X G (c.fact 11 (f := .free "tuple") rfl)
  have z_set := He.free_ok X G (c.fact 12 (f := .free "set") rfl)
  have z_sorted := He.free_ok X G (c.fact 13 (f := .free "sorted") rfl)
  have z_enumerate := He.free_ok X G (c.fact 14 (f := .free "enumerate") rfl)
  have z_min := He.free_ok X G (c.fact 15 (f := .free "min") rfl)
  have z_max := He.free_ok X G (c.fact 16 (f := .free "max") rfl)
  have z_MAX_NUMBER := He.int_ok X G (c.fact 17 (f := .int "MAX_NUMBER" 1000000000000000000000000000000) rfl)
  have z_MAX_LETTERS := He.int_ok X G (c.fact 18 (f := .int "MAX_LETTERS" 8) rfl)
  have z_MAX_MODULUS := He.int_ok X G (c.fact 19 (f := .int "MAX_MODULUS" 60) rfl)
  have z_MAX_VALUES := He.int_ok X G (c.fact 20 (f := .int "MAX_VALUES" 8) rfl)
  have z_MAX_RANGE_COLUMNS := He.int_ok X G (c.fact 21 (f := .int "MAX_RANGE_COLUMNS" 2) rfl)
  have z_FIRST := He.str_ok X G (c.fact 22 (f := .str "FIRST" "-") rfl)
  have z_LAST := He.str_ok X G (c.fact 23 (f := .str "LAST" "+") rfl)
  have g_InvalidBound := He.glo_ok X G (c.fact 24 (f := .glo "InvalidBound") rfl)
  have g_Range := He.glo_ok X G (c.fact 25 (f := .glo "Range") rfl)
  have g_Values := He.glo_ok X G (c.fact 26 (f := .glo "Values") rfl)
  have g_Rest := He.glo_ok X G (c.fact 27 (f := .glo "Rest") rfl)
  have g_Default := He.glo_ok X G (c.fact 28 (f := .glo "Default") rfl)
  have g_is_number := He.glo_ok X G (c.fact 29 (f := .glo "is_number") rfl)
  have g_is_word := He.glo_ok X G (c.fact 30 (f := .glo "is_word") rfl)
  have g_kind_of := He.glo_ok X G (c.fact 31 (f := .glo "kind_of") rfl)
  have g_is_modulus := He.glo_ok X G (c.fact 32 (f := .glo "is_modulus") rfl)
  have g_is_remainder := He.glo_ok X G (c.fact 33 (f := .glo "is_remainder") rfl)
  have g__is_value := He.glo_ok X G (c.fact 34 (f := .glo "_is_value") rfl)
  have g__are_values := He.glo_ok X G (c.fact 35 (f := .glo "_are_values") rfl)
  have g__are_ends := He.glo_ok X G (c.fact 36 (f := .glo "_are_ends") rfl)
  have g__is_end := He.glo_ok X G (c.fact 37 (f := .glo "_is_end") rfl)
  have g__agree_in_kinds := He.glo_ok X G (c.fact 38 (f := .glo "_agree_in_kinds") rfl)
  have g__entry_kind := He.glo_ok X G (c.fact 39 (f := .glo "_entry_kind") rfl)
  have g__places := He.glo_ok X G (c.fact 40 (f := .glo "_places") rfl)
  have g__law_pen := He.glo_ok X G (c.fact 41 (f := .glo "_law_pen") rfl)
  have g__law_draw := He.glo_ok X G (c.fact 42 (f := .glo "_law_draw") rfl)
  have g__law_pick := He.glo_ok X G (c.fact 43 (f := .glo "_law_pick") rfl)
  have g__law_shuffled := He.glo_ok X G (c.fact 44 (f := .glo "_law_shuffled") rfl)
  have g__law_value := He.glo_ok X G (c.fact 45 (f := .glo "_law_value") rfl)
  have g__law_entry_order := He.glo_ok X G (c.fact 46 (f := .glo "_law_entry_order") rfl)
  have g__law_end_order := He.glo_ok X G (c.fact 47 (f := .glo "_law_end_order") rfl)
  have g__law_end := He.glo_ok X G (c.fact 48 (f := .glo "_law_end") rfl)
  have g__law_ends := He.glo_ok X G (c.fact 49 (f := .glo "_law_ends") rfl)
  have g__law_bounds := He.glo_ok X G (c.fact 50 (f := .glo "_law_bounds") rfl)
  have g__law_holds := He.glo_ok X G (c.fact 51 (f := .glo "_law_holds") rfl)
  have g__law_bound := He.glo_ok X G (c.fact 52 (f := .glo "_law_bound") rfl)
  have g__law_values_of := He.glo_ok X G (c.fact 53 (f := .glo "_law_values_of") rfl)
  have g__law_next := He.glo_ok X G (c.fact 54 (f := .glo "_law_next") rfl)
  have g__law_constants := He.glo_ok X G (c.fact 55 (f := .glo "_law_constants") rfl)
  have g__law_cut_columns := He.glo_ok X G (c.fact 56 (f := .glo "_law_cut_columns") rfl)
  have g__law_any_value := He.glo_ok X G (c.fact 57 (f := .glo "_law_any_value") rfl)
  have g__law_some_keys := He.glo_ok X G (c.fact 58 (f := .glo "_law_some_keys") rfl)
  have g__law_alien_right := He.glo_ok X G (c.fact 59 (f := .glo "_law_alien_right") rfl)
  have g_law := He.glo_ok X G (c.fact 60 (f := .glo "law") rfl)
  have cRange := He.cls_ok (c.fact 61 (f := .cls "Range") rfl)
  have cValues := He.cls_ok (c.fact 62 (f := .cls "Values") rfl)
  have cRest := He.cls_ok (c.fact 63 (f := .cls "Rest") rfl)
  have cDefault := He.cls_ok (c.fact 64 (f := .cls "Default") rfl)
  have mkRange := He.mkr_ok (c.fact 77 (f := .mkr "Range") rfl)
  have mkValues := He.mkr_ok (c.fact 78 (f := .mkr "Values") rfl)
  have mkRest := He.mkr_ok (c.fact 79 (f := .mkr "Rest") rfl)
  have n_low := He.noat_ok (c.fact 65 (f := .noat "Range" "_low") rfl)
  have n_high := He.noat_ok (c.fact 66 (f := .noat "Range" "_high") rfl)
  have n_entries := He.noat_ok (c.fact 67 (f := .noat "Values" "_entries") rfl)
  have n_modulus := He.noat_ok (c.fact 68 (f := .noat "Rest" "_modulus") rfl)
  have n_remainder := He.noat_ok (c.fact 69 (f := .noat "Rest" "_remainder") rfl)
  have m_Range := He.meth_ok (c.fact 70 (f := .meth "Range" "__eq__") rfl)
  have m_Values := He.meth_ok (c.fact 71 (f := .meth "Values" "__eq__") rfl)
  have m_Rest := He.meth_ok (c.fact 72 (f := .meth "Rest" "__eq__") rfl)
  have m_Default := He.meth_ok (c.fact 73 (f := .meth "Default" "__eq__") rfl)
  have k_Range := He.meth_ok (c.fact 74 (f := .meth "Range" "__contains__") rfl)
  have k_Values := He.meth_ok (c.fact 75 (f := .meth "Values" "__contains__") rfl)
  have k_Rest := He.meth_ok (c.fact 76 (f := .meth "Rest" "__contains__") rfl)
  obtain ⟨fd_InvalidBound___init__, F_InvalidBound___init__⟩ := c.def_ 0 (d := hd0) rfl
  obtain ⟨fd_Range___init__, F_Range___init__⟩ := c.def_ 1 (d := hd1) rfl
  obtain ⟨fd_Range___eq__, F_Range___eq__⟩ := c.def_ 2 (d := hd2) rfl
  obtain ⟨fd_Range___contains__, F_Range___contains__⟩ := c.def_ 3 (d := hd3) rfl
  obtain ⟨fd_Values___init__, F_Values___init__⟩ := c.def_ 4 (d := hd4) rfl
  obtain ⟨fd_Values___eq__, F_Values___eq__⟩ := c.def_ 5 (d := hd5) rfl
  obtain ⟨fd_Values___contains__, F_Values___contains__⟩ := c.def_ 6 (d := hd6) rfl
  obtain ⟨fd_Rest___init__, F_Rest___init__⟩ := c.def_ 7 (d := hd7) rfl
  obtain ⟨fd_Rest___eq__, F_Rest___eq__⟩ := c.def_ 8 (d := hd8) rfl
  obtain ⟨fd_Rest___contains__, F_Rest___contains__⟩ := c.def_ 9 (d := hd9) rfl
  obtain ⟨fd_Default___eq__, F_Default___eq__⟩ := c.def_ 10 (d := hd10) rfl
  obtain ⟨fd_is_number, F_is_number⟩ := c.def_ 11 (d := hd11) rfl
  obtain ⟨fd_is_word, F_is_word⟩ := c.def_ 12 (d := hd12) rfl
  obtain ⟨fd_kind_of, F_kind_of⟩ := c.def_ 13 (d := hd13) rfl
  obtain ⟨fd_is_modulus, F_is_modulus⟩ := c.def_ 14 (d := hd14) rfl
  obtain ⟨fd_is_remainder, F_is_remainder⟩ := c.def_ 15 (d := hd15) rfl
  obtain ⟨fd__is_value, F__is_value⟩ := c.def_ 16 (d := hd16) rfl
  obtain ⟨fd__are_values, F__are_values⟩ := c.def_ 17 (d := hd17) rfl
  obtain ⟨fd__are_ends, F__are_ends⟩ := c.def_ 18 (d := hd18) rfl
  obtain ⟨fd__is_end, F__is_end⟩ := c.def_ 19 (d := hd19) rfl
  obtain ⟨fd__agree_in_kinds, F__agree_in_kinds⟩ := c.def_ 20 (d := hd20) rfl
  obtain ⟨fd__entry_kind, F__entry_kind⟩ := c.def_ 21 (d := hd21) rfl
  obtain ⟨fd__places, F__places⟩ := c.def_ 22 (d := hd22) rfl
  obtain ⟨fd__law_pen, F__law_pen⟩ := c.def_ 23 (d := hd23) rfl
  obtain ⟨fd__law_draw, F__law_draw⟩ := c.def_ 24 (d := hd24) rfl
  obtain ⟨fd__law_pick, F__law_pick⟩ := c.def_ 25 (d := hd25) rfl
  obtain ⟨fd__law_shuffled, F__law_shuffled⟩ := c.def_ 26 (d := hd26) rfl
  obtain ⟨fd__law_value, F__law_value⟩ := c.def_ 27 (d := hd27) rfl
  obtain ⟨fd__law_entry_order, F__law_entry_order⟩ := c.def_ 28 (d := hd28) rfl
  obtain ⟨fd__law_end_order, F__law_end_order⟩ := c.def_ 29 (d := hd29) rfl
  obtain ⟨fd__law_end, F__law_end⟩ := c.def_ 30 (d := hd30) rfl
  obtain ⟨fd__law_ends, F__law_ends⟩ := c.def_ 31 (d := hd31) rfl
  obtain ⟨fd__law_bounds, F__law_bounds⟩ := c.def_ 32 (d := hd32) rfl
  obtain ⟨fd__law_holds, F__law_holds⟩ := c.def_ 33 (d := hd33) rfl
  obtain ⟨fd__law_bound, F__law_bound⟩ := c.def_ 34 (d := hd34) rfl
  obtain ⟨fd__law_values_of, F__law_values_of⟩ := c.def_ 35 (d := hd35) rfl
  obtain ⟨fd__law_next, F__law_next⟩ := c.def_ 36 (d := hd36) rfl
  obtain ⟨fd__law_constants, F__law_constants⟩ := c.def_ 37 (d := hd37) rfl
  obtain ⟨fd__law_cut_columns, F__law_cut_columns⟩ := c.def_ 38 (d := hd38) rfl
  obtain ⟨fd__law_any_value, F__law_any_value⟩ := c.def_ 39 (d := hd39) rfl
  obtain ⟨fd__law_some_keys, F__law_some_keys⟩ := c.def_ 40 (d := hd40) rfl
  obtain ⟨fd__law_alien_right, F__law_alien_right⟩ := c.def_ 41 (d := hd41) rfl
  obtain ⟨fd_law, F_law⟩ := c.def_ 42 (d := hd42) rfl
  have s1 := of_decide_eq_true x21
  have s2 := of_decide_eq_true x22
  obtain ⟨eB, iB, tB⟩ := err_ok x0 s1 s2
  have e := hfa.symm.trans g_law
  cases e
  have bnd := FunD.bindsA (ps := ["_law_script"]) F_law fun _ _ _ _ _ _ us hl => match us, hl with | [_], _ => rfl
  refine ⟨fd_law, fun s v => bnd s [v] rfl, fun base _ _ => ?_⟩
  have T1 : TxB mg := ⟨z_int, z_len, z_abs, z_list⟩
  have T2 : TxW mg := ⟨T1, z_isinstance, z_str, z_bool, z_all, z_MAX_NUMBER, z_MAX_LETTERS⟩
  have T3 : TxP mg := ⟨T2, z_tuple, z_zip, z_set, z_sorted, z_FIRST, z_LAST, z_MAX_MODULUS, z_MAX_VALUES, z_MAX_RANGE_COLUMNS⟩
  have KR : KC K mg "Range" := ⟨g_Range, cRange, x1, of_decide_eq_true x2, He.eqO_ok x3, s1, s2, of_decide_eq_true x4, He.eqO_ok x5⟩
  have KV : KC K mg "Values" := ⟨g_Values, cValues, x6, of_decide_eq_true x7, He.eqO_ok x8, s1, s2, of_decide_eq_true x9, He.eqO_ok x10⟩
  have KT : KC K mg "Rest" := ⟨g_Rest, cRest, x11, of_decide_eq_true x12, He.eqO_ok x13, s1, s2, of_decide_eq_true x14, He.eqO_ok x15⟩
  have KD : KC K mg "Default" := ⟨g_Default, cDefault, x16, of_decide_eq_true x17, He.eqO_ok x18, s1, s2, of_decide_eq_true x19, He.eqO_ok x20⟩
  obtain ⟨oB, bB⟩ := ok_eB (P := P) (w := w) (mg := mg) (base := base) F_InvalidBound___init__
  have MB : EM P w K mg base "InvalidBound" (He.ga K "InvalidBound") .ve _ fd_InvalidBound___init__ ["self"] spNo := ⟨g_InvalidBound, eB, iB, tB, oB⟩
  -- the program's checks
  have oIE := ok_isend (P := P) (w := w) (base := base) F__is_end T3 F_is_number g_is_number F_is_word g_is_word
  have oEK := ok_ek (P := P) (w := w) (base := base) F__entry_kind T3 F_kind_of g_kind_of
  have oAG := ok_agr (P := P) (w := w) (base := base) F__agree_in_kinds T3 oEK g__entry_kind F__entry_kind.kp (F__entry_kind.bindsN fun _ _ _ _ _ _ us hl => match us, hl with | [_], _ => rfl)
  have oPL := ok_places (P := P) (w := w) (base := base) F__places T3
  have bAG : Binds K fd__agree_in_kinds ["one", "other"] [] := F__agree_in_kinds.bindsN fun _ _ _ _ _ _ us hl => match us, hl with | [_, _], _ => rfl
  have bPL : Binds K fd__places ["entries"] [] := F__places.bindsN fun _ _ _ _ _ _ us hl => match us, hl with | [_], _ => rfl
  have oAE := ok_areends (P := P) (w := w) (base := base) F__are_ends T3 oIE g__is_end F__is_end.kp (F__is_end.bindsN fun _ _ _ _ _ _ us hl => match us, hl with | [_], _ => rfl) oAG g__agree_in_kinds F__agree_in_kinds.kp bAG oPL g__places F__places.kp bPL
  have oIV := ok_isv (P := P) (w := w) (base := base) F__is_value T3 F_is_number g_is_number F_is_word g_is_word
  have bIV : Binds K fd__is_value ["value"] [] := F__is_value.bindsN fun _ _ _ _ _ _ us hl => match us, hl with | [_], _ => rfl
  have oAV := ok_arevals (P := P) (w := w) (base := base) F__are_values T3 oIV g__is_value F__is_value.kp bIV F_kind_of g_kind_of
  -- the classes
  have RF : RngF P w K mg base := ⟨_, fd_Range___init__, mkRange, ok_rinit F_Range___init__ KR n_low n_high oAE g__are_ends F__are_ends.kp (F__are_ends.bindsN fun _ _ _ _ _ _ us hl => match us, hl with | [_, _], _ => rfl) MB bB, F_Range___init__,
    ⟨_, fd_Range___eq__, ok_req F_Range___eq__ KR z_isinstance n_low n_high, F_Range___eq__.bindsN fun _ _ _ _ _ _ us hl => match us, hl with | [_, _], _ => rfl, m_Range.at_, m_Range.fn, KR⟩⟩
  have GV : FnR P w K mg base (L2.CX P w) 4 _ (spVR K) := ok_vinit (P := P) (w := w) (base := base) F_Values___init__ KV T3 n_entries oAV g__are_values F__are_values.kp (F__are_values.bindsN fun _ _ _ _ _ _ us hl => match us, hl with | [_], _ => rfl) MB bB
  have RT : RstF P w K mg base := ⟨_, fd_Rest___init__, mkRest, ok_tinit F_Rest___init__ KT T3 n_modulus n_remainder F_is_number g_is_number F_is_modulus g_is_modulus F_is_remainder g_is_remainder MB bB, F_Rest___init__,
    ⟨_, fd_Rest___eq__, ok_teq F_Rest___eq__ KT z_isinstance n_modulus n_remainder, F_Rest___eq__.bindsN fun _ _ _ _ _ _ us hl => match us, hl with | [_, _], _ => rfl, m_Rest.at_, m_Rest.fn, KT⟩⟩
  have DF : DftF P w K mg base := ⟨⟨x23, He.eqO_ok x24, x25, KD.hm⟩,
    ⟨_, fd_Default___eq__, ok_deq F_Default___eq__ KD z_isinstance, F_Default___eq__.bindsN fun _ _ _ _ _ _ us hl => match us, hl with | [_, _], _ => rfl, m_Default.at_, m_Default.fn, KD⟩⟩
  have IR : InF P w K mg base "Range" 4 (spRIn K) := ⟨_, fd_Range___contains__, ok_rin F_Range___contains__ KR T3 n_low n_high F_is_number g_is_number F_is_word g_is_word oAG g__agree_in_kinds F__agree_in_kinds.kp bAG oPL g__places F__places.kp bPL, F_Range___contains__.bindsN fun _ _ _ _ _ _ us hl => match us, hl with | [_, _], _ => rfl, k_Range.at_, k_Range.fn⟩
  have IV : InF P w K mg base "Values" 3 (spVIn K) := ⟨_, fd_Values___contains__, ok_vin F_Values___contains__ KV T3 n_entries oIV g__is_value F__is_value.kp bIV, F_Values___contains__.bindsN fun _ _ _ _ _ _ us hl => match us, hl with | [_, _], _ => rfl, k_Values.at_, k_Values.fn⟩
  have IT : InF P w K mg base "Rest" 2 (spTIn K) := ⟨_, fd_Rest___contains__, ok_tin F_Rest___contains__ KT T3 n_modulus n_remainder F_is_number g_is_number, F_Rest___contains__.bindsN fun _ _ _ _ _ _ us hl => match us, hl with | [_, _], _ => rfl, k_Rest.at_, k_Rest.fn⟩
  -- the script's pens
  have GPen : Fn1 P w K mg base 1 "_law_pen" ["_law_script"] (spPen K) := ⟨_, fd__law_pen, ok_pen F__law_pen T1, g__law_pen, F__law_pen.kp, F__law_pen.bindsN fun _ _ _ _ _ _ us hl => match us, hl with | [_], _ => rfl⟩
  have GD : Fn1 P w K mg base 1 "_law_draw" ["_law_pen_here", "_law_many"] spDraw := ⟨_, fd__law_draw, ok_draw F__law_draw T1, g__law_draw, F__law_draw.kp, F__law_draw.bindsN fun _ _ _ _ _ _ us hl => match us, hl with | [_, _], _ => rfl⟩
  have GP : Fn1 P w K mg base 2 "_law_pick" ["_law_pen_here", "_law_options"] (spPick K) := ⟨_, fd__law_pick, ok_pick F__law_pick T1 F__law_draw g__law_draw, g__law_pick, F__law_pick.kp, F__law_pick.bindsN fun _ _ _ _ _ _ us hl => match us, hl with | [_, _], _ => rfl⟩
  have GS : Fn1 P w K mg base 2 "_law_shuffled" ["_law_pen_here", "_law_items"] (spShuf K) := ⟨_, fd__law_shuffled, ok_shuf F__law_shuffled T1 GD, g__law_shuffled, F__law_shuffled.kp, F__law_shuffled.bindsN fun _ _ _ _ _ _ us hl => match us, hl with | [_, _], _ => rfl⟩
  have GVl : Fn1 P w K mg base 3 "_law_value" ["_law_pen_here", "_law_sort"] (spVal K) := ⟨_, fd__law_value, ok_value F__law_value GD GP, g__law_value, F__law_value.kp, F__law_value.bindsN fun _ _ _ _ _ _ us hl => match us, hl with | [_, _], _ => rfl⟩
  have GE : Fn1 P w K mg base 4 "_law_end" ["_law_pen_here", "_law_sorts"] (spEnd K) := ⟨_, fd__law_end, ok_end F__law_end T1 GD GP GVl, g__law_end, F__law_end.kp, F__law_end.bindsN fun _ _ _ _ _ _ us hl => match us, hl with | [_, _], _ => rfl⟩
  have GA : Fn1 P w K mg base 3 "_law_any_value" ["_law_pen_here"] (spAny K) := ⟨_, fd__law_any_value, ok_any F__law_any_value T1 F__law_draw g__law_draw F__law_pick g__law_pick, g__law_any_value, F__law_any_value.kp, F__law_any_value.bindsN fun _ _ _ _ _ _ us hl => match us, hl with | [_], _ => rfl⟩
  have oEO := ok_eorder (P := P) (w := w) (mg := mg) (base := base) F__law_entry_order
  have GO : Fn1 P w K mg base 2 "_law_end_order" ["_law_end_here"] (spPlF K) := ⟨_, fd__law_end_order, ok_endordF F__law_end_order oEO g__law_entry_order F__law_entry_order.kp (F__law_entry_order.bindsN fun _ _ _ _ _ _ us hl => match us, hl with | [_], _ => rfl), g__law_end_order, F__law_end_order.kp, F__law_end_order.bindsN fun _ _ _ _ _ _ us hl => match us, hl with | [_], _ => rfl⟩
  have GEs : Fn1 P w K mg base 5 "_law_ends" ["_law_pen_here", "_law_sorts", "_law_many"] (spEnds K) := ⟨_, fd__law_ends, ok_ends F__law_ends z_range z_sorted GE GO, g__law_ends, F__law_ends.kp, F__law_ends.bindsN fun _ _ _ _ _ _ us hl => match us, hl with | [_, _, _], _ => rfl⟩
  have GB : Fn1 P w K mg base 6 "_law_bounds" ["_law_pen_here", "_law_manner", "_law_sorts", "_law_many"] (spBns K) := ⟨_, fd__law_bounds, ok_bounds F__law_bounds z_len z_tuple z_range z_zip GD GP GVl GS GEs, g__law_bounds, F__law_bounds.kp, F__law_bounds.bindsN fun _ _ _ _ _ _ us hl => match us, hl with | [_, _, _, _], _ => rfl⟩
  have VO : VofF P w K mg base := ⟨_, fd__law_values_of, ok_vof F__law_values_of T3 g_Values mkValues GV, g__law_values_of, F__law_values_of.kp, F__law_values_of.bindsN fun _ _ _ _ _ _ us hl => match us, hl with | [_], _ => rfl⟩
  have GM : Fn1 P w K mg base 7 "_law_bound" ["_law_held"] (spBnd K) := ⟨_, fd__law_bound, ok_bnd F__law_bound z_list RF RT DF VO, g__law_bound, F__law_bound.kp, F__law_bound.bindsN fun _ _ _ _ _ _ us hl => match us, hl with | [_], _ => rfl⟩
  have GH : Fn1 P w K mg base 3 "_law_holds" ["_law_held", "_law_point", "_law_others"] (spHolds K) := ⟨_, fd__law_holds, ok_holds F__law_holds z_int GO, g__law_holds, F__law_holds.kp, F__law_holds.bindsN fun _ _ _ _ _ _ us hl => match us, hl with | [_, _, _], _ => rfl⟩
  have GN : Fn1 P w K mg base 1 "_law_next" ["_law_value_here"] spNext := ⟨_, fd__law_next, ok_next F__law_next T2, g__law_next, F__law_next.kp, F__law_next.bindsN fun _ _ _ _ _ _ us hl => match us, hl with | [_], _ => rfl⟩
  have GCo : Fn1 P w K mg base 1 "_law_constants" ["_law_bounds_here", "_law_place"] (spConsts K) := ⟨_, fd__law_constants, ok_consts F__law_constants, g__law_constants, F__law_constants.kp, F__law_constants.bindsN fun _ _ _ _ _ _ us hl => match us, hl with | [_, _], _ => rfl⟩
  have GC : Fn1 P w K mg base 3 "_law_cut_columns" ["_law_pen_here", "_law_manner"] (spCols K) := ⟨_, fd__law_cut_columns, ok_cols F__law_cut_columns T1 GD GP, g__law_cut_columns, F__law_cut_columns.kp, F__law_cut_columns.bindsN fun _ _ _ _ _ _ us hl => match us, hl with | [_, _], _ => rfl⟩
  have GK : Fn1 P w K mg base 4 "_law_some_keys" ["_law_pen_here", "_law_columns", "_law_bounds_here"] (spKeys K) := ⟨_, fd__law_some_keys, ok_keys F__law_some_keys z_range z_enumerate z_max z_min GD GP GN GCo GVl, g__law_some_keys, F__law_some_keys.kp, F__law_some_keys.bindsN fun _ _ _ _ _ _ us hl => match us, hl with | [_, _, _], _ => rfl⟩
  have GX : Fn1 P w K mg base 5 "_law_alien_right" ["_law_made", "_law_bound_here", "_law_point", "_law_columns"] (spAl K) := ⟨_, fd__law_alien_right, ok_alien F__law_alien_right z_int z_len z_range IR IV IT, g__law_alien_right, F__law_alien_right.kp, F__law_alien_right.bindsN fun _ _ _ _ _ _ us hl => match us, hl with | [_, _, _, _], _ => rfl⟩
  exact ok_law F_law ⟨z_repr, z_isinstance, z_tuple, z_len, z_min, z_range, z_list, GPen, GP, GC, GB, GM, GK, GH, GA, GX, IR, IV, IT⟩
end K26
open PySem PySem.W PySem.Calls PyProof.Rows
theorem PySem.Challenge.cw_partwise_k26_keys_in_bounds_holds : PySem.Challenge.rw_partwise_k26_keys_in_bounds.Holds := by
  w_on; o_law
  refine HandSHeadRun.head_any (r := OpenLaw.row PySem.Challenge.rw_partwise_k26_keys_in_bounds) (q := view (OpenLaw.row PySem.Challenge.rw_partwise_k26_keys_in_bounds).prog [61]) (H := K26.hk) (ob := K26.ob) (M := 20000) (loose := K26.namesL) (d := HandSHeadRun.topDef (OpenLaw.row PySem.Challenge.rw_partwise_k26_keys_in_bounds).prog 61) (kwd := []) K26.ob_eq
    (by kernel_rfl) (fun s => by kernel_rfl) K26.run (by kernel_rfl) (by kernel_rfl) (by kernel_rfl) (by rfl) (by first | assumption | decide +kernel) (by decide +kernel) ⟨rfl, rfl, rfl, rfl, rfl, by decide +kernel⟩ ?hw ?hc
  case hw => w_witness2
  case hc =>
    refine L2.walk_ofE (l := PySem.Challenge.rw_partwise_k26_keys_in_bounds) (n := 63) (k := 8) (x := "_law_script") (CX := L2.CX0) rfl (by decide) (by kernel_rfl) ⟨rfl, by decide, by decide⟩ ?F (fun _ _ _ _ z => z)
    intro w mg fa h Y G hmg0
    obtain ⟨K, S⟩ := Y
    have hmg : mg ("law" : PySem.Str) = some (.ref fa) := by
      have e : (HandSHeadRun.topDef (OpenLaw.row PySem.Challenge.rw_partwise_k26_keys_in_bounds).prog 61).name = ("law" : PySem.Str) := by kernel_rfl
      rw [← e]
      exact hmg0
    obtain ⟨fd, hb, hF⟩ := K26.facts (P := (PySem.Challenge.rw_partwise_k26_keys_in_bounds).prog) (w := w) S G hmg
    exact ⟨K, fd, K26.spLaw K, S.kin, hb, fun H a ns hl _ hS => ⟨a, ns, rfl, hS, hl, fun _ => rfl⟩, hF⟩
