import PyProof.Rows.All
import Wide.All
import OpenK.AllK
import Wide.FinOn
import HandS.ForMost
import HandS.Exc
import HandS.ExcInit
import HandS.ExcIs
import HandS.Defaults
import HandS.MakeKwOnly
import KE.KExcIs
import PyProof.ReprRoads
import HandS.Flow
import HandS.ListEq
import HandS.IsInst
import HandS.Walk
import HandS.HeadHook1
import HandS.HeadHook2
import HandS.ForExc
import HandS.Property
import PyProof.InstNe
import PyProof.TupleCall
import HandS.OwnEq
import HandS.SetBool
import HandS.SetKeys
import PyProof.SetRoads
import HandS.Star
import HandS.Zip
import HandS.Conv
import OpenK.KOps
import OpenK.KMeth
import HandS.Style
import HandS.TupAny
import HandS.RevTup
import HandS.TryMany
import HandS.ExcField
import HandS.Lambda
import HandS.Comp
import PyProof.ReprLen
import HandS.WordsExc
import HandS.Head0
import HandS.Head1
import HandS.Head2
import HandS.HeadHook4
import HandS.EndTab
import KE.KStateDown
import PySem.Challenge.RW_partwise_k02_schemas
set_option Elab.async false
set_option linter.all false
set_option maxRecDepth 100000
set_option maxHeartbeats 0
namespace K34
open PySem PySem.Spec PyProof.Rows L2
def bmVE : List Value := [.type "ValueError", .type "Exception", .type "BaseException", .type "object"]
def bmKE : List Value := [.type "KeyError", .type "LookupError", .type "Exception", .type "BaseException", .type "object"]
def bmLE : List Value := [.type "LookupError", .type "Exception", .type "BaseException", .type "object"]
def bmOE : List Value := [.type "OverflowError", .type "ArithmeticError", .type "Exception", .type "BaseException", .type "object"]
def bmRE : List Value := [.type "RuntimeError", .type "Exception", .type "BaseException", .type "object"]
inductive Kd where | ve | ke | le | oe | re
  deriving DecidableEq
def Kd.bm : Kd → List Value
  | .ve => bmVE | .ke => bmKE | .le => bmLE | .oe => bmOE | .re => bmRE
def Kd.newId : Kd → String
  | .ve => "ValueError.__new__" | .ke => "LookupError.__new__" | .le => "LookupError.__new__" | .oe => "OverflowError.__new__" | .re => "RuntimeError.__new__"
end K34
namespace K02
open K34 PySem PySem.Spec PyProof.Rows L2
def top (i : Nat) : Stmt := PySem.Challenge.pw_partwise_k02_schemas.main.body.getD i (.Pass ⟨0, 0, 0, 0⟩)
abbrev sIsNumber : Stmt := top 10
abbrev sIsWord : Stmt := top 11
abbrev sIsName : Stmt := top 12
abbrev sPen : Stmt := top 19
abbrev sDraw : Stmt := top 20
abbrev sPick : Stmt := top 21
abbrev sValue : Stmt := top 22
abbrev sAny : Stmt := top 23
abbrev sWords : Stmt := top 26
abbrev sColumns : Stmt := top 27
abbrev sLIsWord : Stmt := top 30
abbrev sIsOf : Stmt := top 31
abbrev sMet : Stmt := top 32
abbrev sIsCell : Stmt := top 24
abbrev sIsRow : Stmt := top 25
abbrev sLSchema : Stmt := top 28
abbrev sSomeRow : Stmt := top 29
abbrev sBent : Stmt := top 33
abbrev sTitles : Stmt := top 34
abbrev sMakeUp : Stmt := top 17
abbrev sLaw : Stmt := top 35
abbrev sEN : Stmt := inClass (top 1) 0
abbrev sEK : Stmt := inClass (top 2) 0
abbrev sInit : Stmt := inClass (top 15) 0
abbrev sGetN : Stmt := inClass (top 15) 1
abbrev sGetK : Stmt := inClass (top 15) 2
abbrev sGetR : Stmt := inClass (top 15) 3
abbrev sIsVal : Stmt := inClass (top 15) 4
abbrev sEq : Stmt := inClass (top 15) 5
abbrev sESc : Stmt := inClass (top 3) 0
abbrev sEUn : Stmt := inClass (top 4) 0
abbrev sSInit : Stmt := inClass (top 16) 0
abbrev sSCols : Stmt := inClass (top 16) 1
abbrev sSNames : Stmt := inClass (top 16) 2
abbrev sSRow : Stmt := inClass (top 16) 3
abbrev sSEq : Stmt := inClass (top 16) 4
abbrev sSLen : Stmt := inClass (top 16) 5
abbrev sSItem : Stmt := inClass (top 16) 6
def kinds : List Str := ["number", "word"]
def reserved : List Str := ["and", "or", "not", "is", "null", "in", "rest", "to", "of", "into", "by", "where", "set", "add", "columns", "order", "limit"]
abbrev R : PySem.W.OpenRow := PySem.W.OpenLaw.row PySem.Challenge.rw_partwise_k02_schemas
/-! ### what is read off the heap behind the top -/
def clsB (K : PySem.W.Frag) (C : Addr) (k : Kd) : Bool := match K.lookup C with
  | some ⟨.type t, _, .cls cd, sl⟩ => decide (t = "type") && (decide (cd.mro = .ref C :: k.bm) && (cd.hasDict && (!cd.hasDel && (match sl.toList with
    | [_, _, _, _, some (.builtin n), _] => decide (n = k.newId)
    | _ => false))))
  | _ => false
def ecB (K : PySem.W.Frag) (C : Addr) (k : Kd) : Bool := clsB K C k && (He.eqO (PySem.W.findIn K (.ref C) "__setattr__") (some (some (.builtin "object.__setattr__"))) && (PySem.W.keepIn K (.ref C) &&
  (He.eqO (PySem.W.findIn K (.ref C) "__getattribute__") (some (some (.builtin "BaseException.__getattribute__"))) && (He.eqO (PySem.W.findIn K (.ref C) "__getattr__") (some none) && (decide (PySem.W.subIn K (.ref C) (.type "BaseException") = some true) &&
  (PySem.W.hasDictIn K C && (He.eqO (PySem.W.findIn K (.ref C) "__class__") (some (some (.builtin "object.__class__"))) && decide (PySem.W.mroIn K C (.type "object") = some true))))))))
def errB (K : PySem.W.Frag) (x : Str) (k : Kd) : Bool := ecB K (He.ga K x) k && (He.eqO (PySem.W.findIn K (.ref (He.ga K x)) "__init__") (some (some (.ref (He.ma K (He.ga K x) "__init__")))) && decide (PySem.W.typeIn K (.ref (He.ma K (He.ga K x) "__init__")) = some (.type "function")))
/-- a getter's address, what stands there -/
def gtA (K : PySem.W.Frag) (c m : Str) : Addr := match PySem.W.recIn K (He.ma K (He.ga K c) m) "property" with
  | some (.ref g :: _) => g
  | _ => 0
def gtW (K : PySem.W.Frag) (c m : Str) : He.FnW := match K.lookup (gtA K c m) with
  | some ⟨_, _, .func q, _⟩ => some (q.name, q.qualname, q.params, q.body, q.scope, q.globals, q.closure, q.builtins)
  | _ => none
def gtB (K : PySem.W.Frag) (c m qual : Str) : Bool := PySem.W.keepIn K (.ref (gtA K c m)) && (match K.lookup (gtA K c m) with
  | some ⟨_, _, .func q, _⟩ => PySem.W.codeIn K q.code qual && (He.dflB K q.defaults [] && He.kwdB K q.kwdefaults [])
  | _ => false)
def prB (K : PySem.W.Frag) (c m : Str) : Bool := He.eqO (PySem.W.findIn K (.ref (He.ga K c)) m) (some (some (.ref (He.ma K (He.ga K c) m)))) && (decide (PySem.W.specialIn K (.ref (He.ma K (He.ga K c) m)) "__get__" = some (some (.builtin "property.__get__"))) &&
  (decide (PySem.W.takesIn K (.ref (He.ma K (He.ga K c) m)) = some true) && (match PySem.W.recIn K (He.ma K (He.ga K c) m) "property" with
    | some (.ref _ :: _) => true
    | _ => false)))
def dvs (l : List Str) : List He.Dv := l.map .str
def exL (K : PySem.W.Frag) : List Bool := [errB K "InvalidName" .ve, errB K "InvalidKind" .ve, errB K "InvalidSchema" .ve, errB K "UnknownColumn" .ke, !decide (He.ga K "InvalidSchema" = He.ga K "UnknownColumn"), !decide (He.ga K "Column" = He.ga K "Schema"), He.tupB K "RESERVED" (dvs reserved), He.tupB K "KINDS" (dvs kinds), (PySem.W.clsIn K (He.ga K "Column")).isSome, decide (PySem.W.typeIn K (.ref (He.ga K "Column")) = some (.type "type")), He.eqO (PySem.W.findIn K (.ref (He.ga K "Column")) "__class__") (some (some (.builtin "object.__class__"))), decide (PySem.W.mroIn K (He.ga K "Column") (.type "object") = some true), He.eqO (PySem.W.findIn K (.ref (He.ga K "Column")) "__ne__") (some (some (.builtin "object.__ne__"))), (PySem.W.clsIn K (He.ga K "Schema")).isSome, decide (PySem.W.typeIn K (.ref (He.ga K "Schema")) = some (.type "type")), He.eqO (PySem.W.findIn K (.ref (He.ga K "Schema")) "__class__") (some (some (.builtin "object.__class__"))), decide (PySem.W.mroIn K (He.ga K "Schema") (.type "object") = some true), He.eqO (PySem.W.findIn K (.ref (He.ga K "Schema")) "__ne__") (some (some (.builtin "object.__ne__"))), decide (PySem.W.mroIn K (He.ga K "Column") (.ref (He.ga K "Schema")) = some false), PySem.W.fnIn K (He.ma K (He.ga K "Schema") "__getitem__"), decide (PySem.W.specialIn K (.builtin "object.__class__") "__get__" = some (some (.builtin "getset_descriptor.__get__"))), decide (PySem.W.takesIn K (.builtin "object.__class__") = some true), prB K "Column" "name", gtB K "Column" "name" "Column.name", prB K "Schema" "columns", gtB K "Schema" "columns" "Schema.columns", prB K "Schema" "names", gtB K "Schema" "names" "Schema.names"]
def exB (K : PySem.W.Frag) : Bool := (exL K).all id
def lawD : List He.Defn := [(("law" : Str), none)]
def tbB (g : Addr → Option Obj) (K : PySem.W.Frag) : Bool := He.tabsB g lawD K
def hd0 : He.DefD := ⟨(("InvalidName" : Str), some ("__init__" : Str)), "__init__", "InvalidName.__init__", defArgs sEN, defBody sEN, defScope sEN, [], []⟩
def hd1 : He.DefD := ⟨(("InvalidKind" : Str), some ("__init__" : Str)), "__init__", "InvalidKind.__init__", defArgs sEK, defBody sEK, defScope sEK, [], []⟩
def hd2 : He.DefD := ⟨(("InvalidSchema" : Str), some ("__init__" : Str)), "__init__", "InvalidSchema.__init__", defArgs sESc, defBody sESc, defScope sESc, [], []⟩
def hd3 : He.DefD := ⟨(("UnknownColumn" : Str), some ("__init__" : Str)), "__init__", "UnknownColumn.__init__", defArgs sEUn, defBody sEUn, defScope sEUn, [], []⟩
def hd4 : He.DefD := ⟨(("Column" : Str), some ("__init__" : Str)), "__init__", "Column.__init__", defArgs sInit, defBody sInit, defScope sInit, [], [(("is_required" : Str), .bl false)]⟩
def hd5 : He.DefD := ⟨(("Column" : Str), some ("is_value" : Str)), "is_value", "Column.is_value", defArgs sIsVal, defBody sIsVal, defScope sIsVal, [], []⟩
def hd6 : He.DefD := ⟨(("Column" : Str), some ("__eq__" : Str)), "__eq__", "Column.__eq__", defArgs sEq, defBody sEq, defScope sEq, [], []⟩
def hd7 : He.DefD := ⟨(("Schema" : Str), some ("__init__" : Str)), "__init__", "Schema.__init__", defArgs sSInit, defBody sSInit, defScope sSInit, [], []⟩
def hd8 : He.DefD := ⟨(("Schema" : Str), some ("is_row" : Str)), "is_row", "Schema.is_row", defArgs sSRow, defBody sSRow, defScope sSRow, [], []⟩
def hd9 : He.DefD := ⟨(("Schema" : Str), some ("__eq__" : Str)), "__eq__", "Schema.__eq__", defArgs sSEq, defBody sSEq, defScope sSEq, [], []⟩
def hd10 : He.DefD := ⟨(("Schema" : Str), some ("__len__" : Str)), "__len__", "Schema.__len__", defArgs sSLen, defBody sSLen, defScope sSLen, [], []⟩
def hd11 : He.DefD := ⟨(("Schema" : Str), some ("__getitem__" : Str)), "__getitem__", "Schema.__getitem__", defArgs sSItem, defBody sSItem, defScope sSItem, [], []⟩
def hd12 : He.DefD := ⟨(("is_number" : Str), none), "is_number", "is_number", defArgs sIsNumber, defBody sIsNumber, defScope sIsNumber, [], []⟩
def hd13 : He.DefD := ⟨(("is_word" : Str), none), "is_word", "is_word", defArgs sIsWord, defBody sIsWord, defScope sIsWord, [], []⟩
def hd14 : He.DefD := ⟨(("is_name" : Str), none), "is_name", "is_name", defArgs sIsName, defBody sIsName, defScope sIsName, [], []⟩
def hd15 : He.DefD := ⟨(("_make_up_schema" : Str), none), "_make_up_schema", "_make_up_schema", defArgs sMakeUp, defBody sMakeUp, defScope sMakeUp, [], []⟩
def hd16 : He.DefD := ⟨(("_law_pen" : Str), none), "_law_pen", "_law_pen", defArgs sPen, defBody sPen, defScope sPen, [], []⟩
def hd17 : He.DefD := ⟨(("_law_draw" : Str), none), "_law_draw", "_law_draw", defArgs sDraw, defBody sDraw, defScope sDraw, [], []⟩
def hd18 : He.DefD := ⟨(("_law_pick" : Str), none), "_law_pick", "_law_pick", defArgs sPick, defBody sPick, defScope sPick, [], []⟩
def hd19 : He.DefD := ⟨(("_law_value" : Str), none), "_law_value", "_law_value", defArgs sValue, defBody sValue, defScope sValue, [], []⟩
def hd20 : He.DefD := ⟨(("_law_any_value" : Str), none), "_law_any_value", "_law_any_value", defArgs sAny, defBody sAny, defScope sAny, [], []⟩
def hd21 : He.DefD := ⟨(("_law_is_cell" : Str), none), "_law_is_cell", "_law_is_cell", defArgs sIsCell, defBody sIsCell, defScope sIsCell, [], []⟩
def hd22 : He.DefD := ⟨(("_law_is_row" : Str), none), "_law_is_row", "_law_is_row", defArgs sIsRow, defBody sIsRow, defScope sIsRow, [], []⟩
def hd23 : He.DefD := ⟨(("_law_words" : Str), none), "_law_words", "_law_words", defArgs sWords, defBody sWords, defScope sWords, [], []⟩
def hd24 : He.DefD := ⟨(("_law_columns" : Str), none), "_law_columns", "_law_columns", defArgs sColumns, defBody sColumns, defScope sColumns, [], []⟩
def hd25 : He.DefD := ⟨(("_law_schema" : Str), none), "_law_schema", "_law_schema", defArgs sLSchema, defBody sLSchema, defScope sLSchema, [], []⟩
def hd26 : He.DefD := ⟨(("_law_some_row" : Str), none), "_law_some_row", "_law_some_row", defArgs sSomeRow, defBody sSomeRow, defScope sSomeRow, [], []⟩
def hd27 : He.DefD := ⟨(("_law_is_word" : Str), none), "_law_is_word", "_law_is_word", defArgs sLIsWord, defBody sLIsWord, defScope sLIsWord, [], []⟩
def hd28 : He.DefD := ⟨(("_law_is_of" : Str), none), "_law_is_of", "_law_is_of", defArgs sIsOf, defBody sIsOf, defScope sIsOf, [], []⟩
def hd29 : He.DefD := ⟨(("_law_met" : Str), none), "_law_met", "_law_met", defArgs sMet, defBody sMet, defScope sMet, [], []⟩
def hd30 : He.DefD := ⟨(("_law_bent_row" : Str), none), "_law_bent_row", "_law_bent_row", defArgs sBent, defBody sBent, defScope sBent, [], []⟩
def hd31 : He.DefD := ⟨(("_law_titles_right" : Str), none), "_law_titles_right", "_law_titles_right", defArgs sTitles, defBody sTitles, defScope sTitles, [], []⟩
def hd32 : He.DefD := ⟨(("law" : Str), none), "law", "law", defArgs sLaw, defBody sLaw, defScope sLaw, [], []⟩
def fn : List He.DefD := [hd0, hd1, hd2, hd3, hd4, hd5, hd6, hd7, hd8, hd9, hd10, hd11, hd12, hd13, hd14, hd15, hd16, hd17, hd18, hd19, hd20, hd21, hd22, hd23, hd24, hd25, hd26, hd27, hd28, hd29, hd30, hd31, hd32]
def fa : List He.Fa := [.free "int", .free "len", .free "abs", .free "list", .free "repr", .free "range", .free "isinstance", .free "str", .free "bool", .free "all", .free "zip", .free "tuple", .free "ValueError", .free "KeyError", .int "MAX_NUMBER" 1000000000000000000000000000000, .int "MAX_LETTERS" 8, .int "MAX_COLUMNS" 5, .glo "Column", .glo "Schema", .glo "KINDS", .glo "RESERVED", .glo "InvalidName", .glo "InvalidKind", .glo "InvalidSchema", .glo "UnknownColumn", .glo "is_number", .glo "is_word", .glo "is_name", .glo "_make_up_schema", .glo "_law_pen", .glo "_law_draw", .glo "_law_pick", .glo "_law_value", .glo "_law_any_value", .glo "_law_is_cell", .glo "_law_is_row", .glo "_law_words", .glo "_law_columns", .glo "_law_schema", .glo "_law_some_row", .glo "_law_is_word", .glo "_law_is_of", .glo "_law_met", .glo "_law_bent_row", .glo "_law_titles_right", .glo "law", .cls "Column", .cls "Schema", .noat "Column" "_name", .noat "Column" "_kind", .noat "Column" "_is_required", .noat "Schema" "_columns", .meth "Column" "is_value", .meth "Column" "__eq__", .meth "Schema" "is_row", .meth "Schema" "__eq__", .meth "Schema" "__len__", .meth "Schema" "__getitem__", .mkr "Column", .mkr "Schema", .noat "InvalidName" "value", .noat "InvalidKind" "value", .noat "UnknownColumn" "value"]
def gts (K : PySem.W.Frag) : List He.FnW := [gtW K "Column" "name", gtW K "Schema" "columns", gtW K "Schema" "names"]
def gtv (x q : Str) (st : Stmt) : He.FnW := some (x, q, defArgs st, .stmts (defBody st), defScope st, mainGlobals, [], builtinsNs)
def gvs : List He.FnW := [gtv "name" "Column.name" sGetN, gtv "columns" "Schema.columns" sSCols, gtv "names" "Schema.names" sSNames]
def namesL : List Str := (R.prog.main.scope.names.map (·.1)).filter fun x => !(x == "law" || x == "__name__")
/-- where what is looked at stands -/
def asL : List Addr := [3, 6, 4, 31, 51, 71, 91, 95, 102, 107, 114, 115, 171, 239, 248, 255, 262, 269, 276, 283, 290, 295, 300, 305, 310, 317, 322, 329, 336, 343, 348, 353, 0, 30, 50, 70, 90, 101, 106, 113, 170, 238, 247, 254, 261, 268, 275, 282, 289, 294, 299, 304, 309, 316, 321, 328, 335, 342, 347, 352, 28, 29, 32, 48, 49, 52, 68, 69, 72, 88, 89, 92, 96, 97, 98, 99, 100, 103, 104, 105, 108, 109, 110, 111, 112, 130, 138, 146, 154, 161, 168, 169, 172, 173, 189, 197, 203, 208, 215, 222, 229, 236, 237, 240, 241, 244, 245, 246, 249, 250, 251, 252, 253, 256, 257, 258, 259, 260, 263, 264, 265, 266, 267, 270, 271, 272, 273, 274, 277, 278, 279, 280, 281, 284, 285, 286, 287, 288, 291, 292, 293, 296, 297, 298, 301, 302, 303, 306, 307, 308, 311, 312, 313, 314, 315, 318, 319, 320, 323, 324, 325, 326, 327, 330, 331, 332, 333, 334, 337, 338, 339, 340, 341, 344, 345, 346, 349, 350, 351, 27, 47, 67, 87, 129, 123, 137, 145, 153, 160, 167, 188, 196, 202, 207, 214, 221, 228, 235, 22, 23, 24, 25, 26, 42, 43, 44, 45, 46, 62, 63, 64, 65, 66, 82, 83, 84, 85, 86, 124, 125, 126, 127, 128, 136, 144, 152, 155, 156, 157, 158, 159, 162, 163, 164, 165, 166, 183, 184, 185, 186, 187, 195, 201, 204, 205, 206, 209, 210, 211, 212, 213, 216, 217, 218, 219, 220, 223, 224, 225, 226, 227, 230, 231, 232, 233, 234]
abbrev AlK : Type := (He.AlD × List He.FnW) × Bool
def obsK (g : Addr → Option Obj) : AlK := ((He.obsD fa fn (He.frT g asL), gts (He.frT g asL)), exB (He.frT g asL) && tbB g (He.frT g asL))
/-- what is known of the heap behind the top -/
structure Says1 (h : Heap) (K : PySem.W.Frag) : Prop where
  kin : K.In h
  d : He.SaysD fa fn K
  g : gts K = gvs
  x : exB K = true
  hd : PySem.W.codeHdIn K (He.cT K ("law", none)).1 (He.cT K ("law", none)).2 = true
  out : K.lookup (He.cT K ("law", none)).2 = none
  nil : h.get? (He.cT K ("law", none)).2 = some { cls := .none, data := .fields #[] }
theorem says_of {h : Heap} (e : obsK h.get? = ((He.valD fn, gvs), true)) : Says1 h (He.frT h.get? asL) := by
  obtain ⟨x1, x2⟩ := He.ba (congrArg Prod.snd e)
  have x3 := List.all_eq_true.mp x2 (("law" : Str), none) (List.mem_singleton.mpr rfl)
  obtain ⟨x4, x5⟩ := He.ba x3
  cases q : h.get? (He.cT (He.frT h.get? asL) ("law", none)).2 with
  | none =>
    rw [q] at x5
    cases x5
  | some o =>
    rw [q] at x5
    exact ⟨He.frT_in, congrArg (fun z : AlK => z.1.1) e, congrArg (fun z : AlK => z.1.2) e, x1, x4, He.frT_none q x5, by rw [q, He.emptyTab_eq x5]⟩
def hk : PySem.W.Hook where
  α := AlK
  obs := fun s => obsK s.heap.get?
  val := fun _ => ((He.valD fn, gvs), true)
  says := fun _ h => ∃ K : PySem.W.Frag, Says1 h K
  of := fun _ _ e => ⟨_, says_of e⟩
  keeps := fun _ _ _ ⟨K, c⟩ kp => ⟨K, PySem.W.Frag.In.keeps c.kin kp, c.d, c.g, c.x, c.hd, c.out, kp _ _ c.nil⟩
def ob (s : PySem.W.SharedT) : AlK := obsK (HandSHeadRun.getT s)
theorem ob_eq (s : PySem.W.SharedT) : ob s = hk.obs s.abs := by
  have e : HandSHeadRun.getT s = s.abs.heap.get? := funext (HandSHeadRun.getT_eq s)
  show obsK (HandSHeadRun.getT s) = obsK s.abs.heap.get?
  rw [e]
theorem run (w : World) : HandSHeadRun.RunEq R (PySem.W.view R.prog [35]) hk ob 20000 namesL w := by
  intro os
  kernel_rfl
end K02
set_option Elab.async false
set_option linter.all false
set_option maxRecDepth 100000
set_option maxHeartbeats 4000000
namespace K34
open PySem PySem.Spec PyProof.Rows PySem.HandSPX PySem.Builtin PySem.Builtin.ObjectAttr
/-! ### the mro of a built-in base, what it says -/
structure BmOk (B : String) (bm : List Value) : Prop where
  own : bm.contains (.type B) = true
  noA : bm.contains (.type "AttributeError") = false
  noN : bm.contains (.type "NameError") = false
  obj : bm.contains (.type "object") = true
  ne : bm.isEmpty = false
  pass : ∀ self : Value, refuseLoop self "__setattr__" bm = pure ()
theorem okVE : BmOk "ValueError" bmVE := ⟨by decide +kernel, by decide +kernel, by decide +kernel, by decide +kernel, rfl, F.store_ValueError.passes⟩
theorem okKE : BmOk "LookupError" bmKE := ⟨by decide +kernel, by decide +kernel, by decide +kernel, by decide +kernel, rfl, fun self => by unfold bmKE; kernel_rfl⟩
theorem okLE : BmOk "LookupError" bmLE := ⟨by decide +kernel, by decide +kernel, by decide +kernel, by decide +kernel, rfl, fun self => by unfold bmLE; kernel_rfl⟩
theorem okOE : BmOk "OverflowError" bmOE := ⟨by decide +kernel, by decide +kernel, by decide +kernel, by decide +kernel, rfl, fun self => by unfold bmOE; kernel_rfl⟩
theorem okRE : BmOk "RuntimeError" bmRE := ⟨by decide +kernel, by decide +kernel, by decide +kernel, by decide +kernel, rfl, fun self => by unfold bmRE; kernel_rfl⟩
/-! ### C(..), positional or by keyword: type.__call__, BaseException.__new__, the own __init__ -/
section
variable {M : Model} {A : Around} {E : Value → Shared → Prop} {h : Heap} {g : Array GenState} {d : Drawn} {t : Nat} {os : OsState}
variable {nm q : Str} {C N : Addr} {bs bm bmB : List Value} {hdct : Bool} {sn : List Str} {sub : List Value} {ab : Bool} {col : Option Bool} {dd : Option Addr} {k0 k1 k2 k3 k5 : Option Value} {B newId initId : String}
theorem chk_new (F : ExcBaseFacts B newId initId bmB) (O : BmOk B bm) {ws : List Value} {kv : List (Str × Value)} (hk : kv = [] ∨ (∃ y u, kv = [(y, u)]) ∨ ∃ y u z o, kv = [(y, u), (z, o)]) {Q : Unit → Shared → Prop}
    (hC : h.get? C = some (excClassObj nm q C N bs bm hdct sn sub ab col dd k0 k1 k2 k3 k5 newId)) (hq : Q () ⟨h, g, d, t, os⟩) : wpAny M A (checkBuiltinCall newId ⟨.ref C :: ws, kv⟩) Q E ⟨h, g, d, t, os⟩ := by
  have hcB : (Value.ref C :: bm).contains (.type B) = true := by rw [List.contains_cons, O.own, Bool.or_true]
  have hst := F.noStar
  rcases hk with rfl | ⟨y, u, rfl⟩ | ⟨y, u, z, o, rfl⟩
  · simp only [checkBuiltinCall, F.newKind, F.newSplit, F.newRow]
    repeat (first | refine wpAny_loadPart_at hC ?_ | (refine wpAny_isSubtype_exc hC ?_; rw [hcB]) | refine wpAny_staticBase_exc hC ?_ | refine wpAny_madeBy_exc hC ?_ | simp only [bne_self_eq_false, Bool.false_eq_true, if_false] | wp_step)
    exact hq
  · simp only [checkBuiltinCall, F.newKind, F.newSplit, F.newRow]
    repeat (first | refine wpAny_loadPart_at hC ?_ | (refine wpAny_isSubtype_exc hC ?_; rw [hcB]) | refine wpAny_staticBase_exc hC ?_ | refine wpAny_madeBy_exc hC ?_ | simp only [bne_self_eq_false, Bool.false_eq_true, if_false] | wp_step)
    exact hq
  · simp only [checkBuiltinCall, F.newKind, F.newSplit, F.newRow]
    repeat (first | refine wpAny_loadPart_at hC ?_ | (refine wpAny_isSubtype_exc hC ?_; rw [hcB]) | refine wpAny_staticBase_exc hC ?_ | refine wpAny_madeBy_exc hC ?_ | simp only [bne_self_eq_false, Bool.false_eq_true, if_false] | wp_step)
    exact hq
end
section
variable {prog : Program} {w : World} {A : Around} {E : Value → Shared → Prop} {R : Result → Shared → Prop} {h : Heap} {g : Array GenState} {d : Drawn} {t : Nat} {os : OsState}
variable {nm q : Str} {C N : Addr} {bs bm bmB : List Value} {hdct : Bool} {sn : List Str} {sub : List Value} {ab : Bool} {col : Option Bool} {dd : Option Addr} {k0 k1 k2 k3 k5 : Option Value} {B newId initId : String}
theorem run_new (F : ExcBaseFacts B newId initId bmB) (O : BmOk B bm) {ws : List Value} {kv : List (Str × Value)}
    (hC : h.get? C = some (excClassObj nm q C N bs bm hdct sn sub ab col dd k0 k1 k2 k3 k5 newId))
    (hq : R (.ok (.ret (.ref (h.objs.size + 1)))) ⟨(h.push (W.kdv_tup ws)).push (excO C h.objs.size), g, d, t, os⟩) (hws : ws.length ≤ sizeLine) :
    codeAny (model prog w) A (.builtin newId ⟨.ref C :: ws, kv⟩) R ⟨h, g, d, t, os⟩ := by
  have he := F.ends
  have c1 : (Value.ref C :: bm).contains (.type B) = true := by rw [List.contains_cons, O.own, Bool.or_true]
  have c2 : (Value.ref C :: bm).contains (.type "AttributeError") = false := by rw [List.contains_cons, O.noA]; rfl
  have c3 : (Value.ref C :: bm).contains (.type "NameError") = false := by rw [List.contains_cons, O.noN]; rfl
  refine codeAny_builtinAt F.entry ?_
  unfold Builtin.«BaseException.__new__»
  refine PySem.wpAt_bind ?_
  show PySem.wpAt _ _ _ (PySem.stack >>= _) _ _ _
  refine PySem.wpAt_bind (PySem.wpAt_stack fun p below => wpAt_of_wpAny ?_)
  wp_walk
  refine wpAt_of_wpAny ?_
  rw [F.owner]
  repeat (first | with_reducible refine wpAny_madeHere_exc F.canon hC ?_ | with_reducible refine wpAny_loadPart_at hC ?_ | (with_reducible refine wpAny_isSubtype_exc hC ?_; first | rw [c1] | rw [c2] | rw [c3]) | wp_step)
  show R _ _
  rw [Heap.size_push]
  exact hq
theorem type_call (F : ExcBaseFacts B newId initId bmB) (O : BmOk B bm) {ws : List Value} {kv : List (Str × Value)} (hk : kv = [] ∨ (∃ y u, kv = [(y, u)]) ∨ ∃ y u z o, kv = [(y, u), (z, o)]) {fI : Addr} {Q : Fin → Shared → Prop}
    (hC : h.get? C = some (excClassObj nm q C N bs bm hdct sn sub ab col dd k0 k1 k2 k3 k5 newId))
    (hi : W.Looks (model prog w) h (typeLookup (.ref C) "__init__") (some (.ref fI))) (hb : ∀ self, W.Looks (model prog w) h (bindSpecial (.ref fI) self) (.ref fI, [self])) (hws : ws.length ≤ sizeLine)
    (hq : codeAny (model prog w) A (.call (.ref fI) ⟨.ref (h.objs.size + 1) :: ws, kv⟩)
      (fun r s' => match r with | .ok (.ret v) => v = .none ∧ Q (.done (.ret (.ref (h.objs.size + 1)))) s' | .ok _ => False | .error e => E e s')
      ⟨(h.push (W.kdv_tup ws)).push (excO C h.objs.size), g, d, t, os⟩) :
    wpAny (model prog w) A (Builtin.«type.__call__» ⟨.ref C :: ws, kv⟩) Q E ⟨h, g, d, t, os⟩ := by
  repeat (first | with_reducible refine wpAny_loadPart_at hC ?_ | with_reducible refine wpAny_madeBy_exc hC ?_ | wp_step)
  refine codeAny_call_builtin_code (Code.quiet_builtin _ F.quiet) (chk_new F O hk hC ?_)
  refine run_new F O hC ?_ hws
  show wpAny _ _ _ _ _ _
  have kp : ∀ b o, h.get? b = some o → ((h.push (W.kdv_tup ws)).push (excO C h.objs.size)).get? b = some o := fun b o e => Heap.get?_push_of_some _ (Heap.get?_push_of_some _ e)
  have hC1 := kp _ _ hC
  have hx : ((h.push (W.kdv_tup ws)).push (excO C h.objs.size)).get? (h.objs.size + 1) = some (excO C h.objs.size) := by heap_get
  have cC : (Value.ref C :: bm).contains (.ref C) = true := by simp
  have i1 := hi.keeps kp
  have b1 := (hb (.ref (h.objs.size + 1))).keeps kp
  unfold isInstance
  repeat (first | with_reducible refine wpAny_loadPart_at hx ?_ | (with_reducible refine wpAny_isSubtype_exc hC1 ?_; rw [cC]) | wp_step)
  show wpAny _ _ (typeLookup (.ref C) _) _ _ _
  refine i1.at ?_
  refine wpAny_holding (wpAny_bind (b1.at ?_))
  refine wpAny_bind (wpAny_call (codeAny_mono hq fun r s' z => ?_))
  rcases r with e | (v | _ | _ | _) <;> first | exact z | exact z.elim | skip
  obtain ⟨rfl, z⟩ := z
  first
    | exact wpAny_pure (wpAny_pure z)
    | (wp_walk; exact z)
theorem call_E (F : ExcBaseFacts B newId initId bmB) (O : BmOk B bm) {ws : List Value} {kv : List (Str × Value)} (hk : kv = [] ∨ (∃ y u, kv = [(y, u)]) ∨ ∃ y u z o, kv = [(y, u), (z, o)]) {fI : Addr}
    (hC : h.get? C = some (excClassObj nm q C N bs bm hdct sn sub ab col dd k0 k1 k2 k3 k5 newId))
    (hi : W.Looks (model prog w) h (typeLookup (.ref C) "__init__") (some (.ref fI))) (hb : ∀ self, W.Looks (model prog w) h (bindSpecial (.ref fI) self) (.ref fI, [self])) (hws : ws.length ≤ sizeLine)
    (hq : codeAny (model prog w) (A.under (.builtin "type.__call__" ⟨.ref C :: ws, kv⟩)) (.call (.ref fI) ⟨.ref (h.objs.size + 1) :: ws, kv⟩) (W.InitBack (h.objs.size + 1) R)
      ⟨(h.push (W.kdv_tup ws)).push (excO C h.objs.size), g, d, t, os⟩) :
    codeAny (model prog w) A (.call (.ref C) ⟨ws, kv⟩) R ⟨h, g, d, t, os⟩ := by
  have f1 := tc_lookup
  have f2 := tc_bind (.ref C)
  have hTy : (⟨h, g, d, t, os⟩ : Shared).TypeIs (.ref C) "type" := ⟨_, hC, rfl⟩
  refine codeAny_of_tree ?_
  show wpAny _ _ (callAny (.ref C) _) _ _ _
  repeat (any_goals (first | assumption | with_reducible refine wpAny_loadPart_at hC ?_ | wp_step))
  refine ⟨rfl, ?_⟩
  refine codeAny_call_builtin_at (Code.quiet_builtin _ (by decide +kernel)) entry_typeCall (wpAny_check_type_call_sub hC (type_call F O hk hC hi hb hws ?_))
  refine codeAny_mono hq fun r s' z => ?_
  rcases r with e | (v | _ | _ | _) <;> exact z
end
end K34
set_option Elab.async false
set_option linter.all false
set_option maxRecDepth 100000
set_option maxHeartbeats 4000000
namespace K34
open PySem PySem.Spec PyProof.Rows PySem.HandSPX PySem.Builtin PySem.Builtin.ObjectAttr
/-! ### self.x = v on an exception: the first field, a further one -/
section
variable {prog : Program} {w : World} {A : Around} {R : Result → Shared → Prop} {hp : Heap} {g : Array GenState} {d : Drawn} {t : Nat} {os : OsState}
theorem osa_new {K : W.Frag} {x C : Addr} {nm : Str} {tk : Tok} {v : Value} {fv : Array Value} {cd : ClassData} {B : String} {bm : List Value}
    (X : K.In hp) (hx : hp.get? x = some { cls := .ref C, data := .fields fv }) (hcd : W.clsIn K C = some cd) (O : BmOk B bm) (hm : cd.mro = .ref C :: bm) (hh : cd.hasDict = true) (ha : W.findIn K (.ref C) nm = some none)
    (hq : ∀ h' tk' dx, (∀ b o, b ≠ x → hp.get? b = some o → h'.get? b = some o) → hp.objs.size ≤ dx → dx ≠ x → h'.get? x = some { cls := .ref C, dict := some dx, data := .fields fv } →
      h'.Ns1 dx (fun y => if y = nm then some v else none) → R (.ok (.ret .none)) ⟨h', g, d, tk', os⟩) :
    codeAny (model prog w) A (.call (.builtin "object.__setattr__") ⟨[.ref x, .str nm tk, v], []⟩) R ⟨hp, g, d, t, os⟩ := by
  have J : W.InstAt hp x { cls := .ref C, data := .fields fv } C none := ⟨hx, rfl, rfl, trivial⟩
  have SF := F.store_object
  have ne : cd.mro.isEmpty = false := by rw [hm] <;> rfl
  have ob : cd.mro.contains (.type "object") = true := by rw [hm, List.contains_cons, O.obj, Bool.or_true]
  have hxs : x ≠ hp.objs.size := Nat.ne_of_lt (Heap.lt_size hx)
  have sub : W.Looks (model prog w) hp (isInstance (.ref x) (.type "object")) true := J.type.andThen (W.looks_mroIn X (by unfold W.mroIn; rw [hcd, Option.bind_some, if_neg (by rw [ne]; decide), ob]))
  refine codeAny_call_builtin SF.slot.plain SF.entry (@W.check_slot (model prog w) _ _ ⟨hp, g, d, t, os⟩ "object.__setattr__" "object" "__setattr__" (.ref x) [.str nm tk, v] [] _ SF.kind SF.split sub (SF.args (.ref x) (.str nm tk) v) ?_)
  have m1 : W.Looks (model prog w) hp (mroOf (.ref C)) cd.mro := (W.looks_clsIn X hcd).andThen .now
  have m2 : W.Looks (model prog w) hp (storeTaker? none) none := .now
  have m3 : W.Looks (model prog w) hp (classData C) cd := W.looks_clsIn X hcd
  rw [W.osa_eq, refuse_eq]
  refine wpAny_bind (wpAny_bind (J.type.at (wpAny_bind (m1.at ?_))))
  rw [hm, refuseLoop_ref, O.pass]
  refine wpAny_pure (wpAny_bind (J.type.at (wpAny_bind ((W.looks_findIn X ha).at (wpAny_bind (m2.at ?_))))))
  show wpAny _ _ (storeInOwnDict (.ref x) (.ref C) (.str nm tk) nm v false) _ _ _
  obtain ⟨nm0, bs0, mro0, ns0, qn0, hd0, sn0, sb0, ab0, col0, del0⟩ := cd
  dsimp only at hh
  subst hh
  unfold storeInOwnDict ownDictForStores
  repeat (first | with_reducible refine store_in_new ?_ ?_ | with_reducible refine wpAny_loadPart_at hx ?_ | with_reducible refine m3.at ?_ | wp_step)
  · exact ⟨_, #[], _, (Heap.get?_update_ne _ _ _ _ hxs.symm).trans (Heap.get?_push_at rfl rfl), rfl, fun e he => absurd he (by simp), fun _ => rfl⟩
  · intro h' tk' hn' hs
    have hx1 : (hp.push { cls := .type "dict", data := .dict #[] }).get? x = some { cls := .ref C, data := .fields fv } := Heap.get?_push_of_some _ hx
    refine hq h' tk' hp.objs.size (fun b o hb ho => ?_) (Nat.le_refl _) hxs.symm ?_ hn'
    · exact (hs.2 b (Nat.ne_of_lt (Heap.lt_size ho))).trans ((Heap.get?_update_ne _ _ _ _ hb).trans (Heap.get?_push_of_some _ ho))
    · exact (hs.2 x hxs).trans (Heap.get?_update_self _ hx1 rfl)
theorem osa_more {K : W.Frag} {nm : Str} {tk : Tok} {v : Value} {x C dx : Addr} {fv : Array Value} {cd : ClassData} {m0 : Str → Option Value} {nl : List Str} {B : String} {bm : List Value}
    (X : K.In hp) (hx : hp.get? x = some { cls := .ref C, dict := some dx, data := .fields fv }) (hns : hp.Ns1 dx m0) (hw : Within m0 nl) (hz : nl.length ≤ 1000) (hcd : W.clsIn K C = some cd) (O : BmOk B bm) (hm : cd.mro = .ref C :: bm) (hh : cd.hasDict = true)
    (ha : W.findIn K (.ref C) nm = some none)
    (hq : ∀ h' tk', (∀ b o, b ≠ dx → hp.get? b = some o → h'.get? b = some o) → h'.Ns1 dx (fun y => if y = nm then some v else m0 y) → R (.ok (.ret .none)) ⟨h', g, d, tk', os⟩) :
    codeAny (model prog w) A (.call (.builtin "object.__setattr__") ⟨[.ref x, .str nm tk, v], []⟩) R ⟨hp, g, d, t, os⟩ := by
  obtain ⟨oD, esD, epD, hoD, hdD, _⟩ := hns.count hw
  have J : W.InstAt hp x { cls := .ref C, dict := some dx, data := .fields fv } C (some oD) := ⟨hx, rfl, rfl, hoD⟩
  have SF := F.store_object
  have ne : cd.mro.isEmpty = false := by rw [hm] <;> rfl
  have ob : cd.mro.contains (.type "object") = true := by rw [hm, List.contains_cons, O.obj, Bool.or_true]
  have sub : W.Looks (model prog w) hp (isInstance (.ref x) (.type "object")) true := J.type.andThen (W.looks_mroIn X (by unfold W.mroIn; rw [hcd, Option.bind_some, if_neg (by rw [ne]; decide), ob]))
  refine codeAny_call_builtin SF.slot.plain SF.entry (@W.check_slot (model prog w) _ _ ⟨hp, g, d, t, os⟩ "object.__setattr__" "object" "__setattr__" (.ref x) [.str nm tk, v] [] _ SF.kind SF.split sub (SF.args (.ref x) (.str nm tk) v) ?_)
  have m1 : W.Looks (model prog w) hp (mroOf (.ref C)) cd.mro := (W.looks_clsIn X hcd).andThen .now
  have m2 : W.Looks (model prog w) hp (storeTaker? none) none := .now
  have m3 : W.Looks (model prog w) hp (classData C) cd := W.looks_clsIn X hcd
  rw [W.osa_eq, refuse_eq]
  refine wpAny_bind (wpAny_bind (J.type.at (wpAny_bind (m1.at ?_))))
  rw [hm, refuseLoop_ref, O.pass]
  refine wpAny_pure (wpAny_bind (J.type.at (wpAny_bind ((W.looks_findIn X ha).at (wpAny_bind (m2.at ?_))))))
  show wpAny _ _ (storeInOwnDict (.ref x) (.ref C) (.str nm tk) nm v false) _ _ _
  obtain ⟨nm0, bs0, mro0, ns0, qn0, hd0, sn0, sb0, ab0, col0, del0⟩ := cd
  dsimp only at hh
  subst hh
  unfold storeInOwnDict ownDictForStores
  repeat (first | with_reducible refine OEX.store_in_old hns hw hz ?_ | with_reducible refine wpAny_loadPart_at hx ?_ | with_reducible refine m3.at ?_ | wp_step)
  intro h' tk' hn' hs
  exact hq h' tk' (fun b o hb ho => (hs.2 b hb).trans ho) hn'
end
end K34
set_option Elab.async false
set_option linter.all false
set_option maxRecDepth 100000
set_option maxHeartbeats 4000000
namespace K34
open PySem PySem.Spec PyProof.Rows L2
def Kd.B : Kd → String
  | .ve => "ValueError" | .ke => "LookupError" | .le => "LookupError" | .oe => "OverflowError" | .re => "RuntimeError"
theorem Kd.base : ∀ k : Kd, ∃ initId bmB, ExcBaseFacts k.B k.newId initId bmB
  | .ve => ⟨_, _, F.excBase_ValueError⟩
  | .ke => ⟨_, _, F.excBase_LookupError⟩
  | .le => ⟨_, _, F.excBase_LookupError⟩
  | .oe => ⟨_, _, F.excBase_OverflowError⟩
  | .re => ⟨_, _, F.excBase_RuntimeError⟩
theorem Kd.ok : ∀ k : Kd, BmOk k.B k.bm
  | .ve => okVE | .ke => okKE | .le => okLE | .oe => okOE | .re => okRE
/-- what the written part says of an own class of errors, directly below the base k -/
structure EC (K : PySem.W.Frag) (C : Addr) (k : Kd) : Prop where
  cls : ∃ nm q N bs sn sub ab col dd k0 k1 k2 k3 k5, K.lookup C = some (excClassObj nm q C N bs k.bm true sn sub ab col dd k0 k1 k2 k3 k5 k.newId)
  sa : PySem.W.findIn K (.ref C) "__setattr__" = some (some (.builtin "object.__setattr__"))
  kC : PySem.W.keepIn K (.ref C) = true
  at_ : ExcC K C
section
variable {X : Cx} {pins : List (Addr × Obj)} {σ : L2.St} {H : Hp} {s : Shared} {a C dx : Addr} {f : Str} {y : V} {u : Value} {fs : List (Str × V)} {Q : Unit → Shared → Prop} {E : Value → Shared → Prop} {A : Around} {k : Kd}
/-- self.f = y on an exception without fields -/
theorem st_first (T : EC X.K C k) (I : Inv X pins σ H s) (e : H a = some (exo a C none)) (hno : PySem.W.findIn X.K (.ref C) f = some none) (ry : RelV y u)
    (h : ∀ dx s', H dx = none → dx ≠ a → Inv X pins σ (upd (upd H dx (exd dx [(f, y)])) a (exo a C (some dx))) s' → Q () s') : wpAny (model X.prog X.w) A (setAttr (.ref a) f u) Q E s := by
  obtain ⟨nm, q, N, bs, sn, sub, ab, col, dd, k0, k1, k2, k3, k5, hC⟩ := T.cls
  have hcl : PySem.W.clsIn X.K C = some { name := nm, bases := bs, mro := .ref C :: k.bm, ns := N, qualname := q, hasDict := true, slotNames := sn, subclasses := sub, abstract := ab, collection := col, hasDel := false } := by unfold PySem.W.clsIn; rw [hC] <;> rfl
  obtain ⟨t1, ho⟩ := exo_at I.hok e
  obtain ⟨hp, g, d, t, os⟩ := s
  refine PySem.W.set_plain I.kIn (ox := { cls := .ref C, dict := none, data := .fields #[.ref t1, .none, .none, .none, .bool false, .none] }) (od := none) ⟨ho, rfl, rfl, trivial⟩ T.sa ?_
  refine osa_new I.kIn ho hcl k.ok rfl rfl hno (fun h' tk' dx kp dn dne hx hn => ?_)
  have hnd : H dx = none := I.hok.fresh dn
  have nd : ∀ {b : Addr} {o : Obj}, hp.get? b = some o → b ≠ dx := fun {b o} z => Nat.ne_of_lt (Nat.lt_of_lt_of_le (Heap.lt_size z) dn)
  have na : ∀ {b : Addr}, H b = none → b ≠ a := fun {b} n z => by
    rw [z, e] at n
    cases n
  have un1 : Un X.fs [] H (upd (upd H dx (exd dx [(f, y)])) a (exo a C (some dx))) hp h' := {
    keep := fun b o z n _ _ => kp b o (na n) z
    slot := fun b o z n _ _ => ⟨o.slots, kp b o (na n) z⟩
    free := fun b o z n _ => by rw [upd_ne (na n), upd_ne (nd z)]; exact n
    there := fun b o z _ => by
      by_cases hb : b = a
      · exact ⟨_, by rw [hb]; exact hx⟩
      · exact ⟨o, kp b o hb z⟩
    tups := fun b xs z => by rw [upd_ne (at_ne e z exo_tup), upd_ne (ne_of_none z hnd)]; exact z
    frzs := fun b o v z => by rw [upd_ne (at_ne e z exo_frz), upd_ne (ne_of_none z hnd)]; exact z
    tbls := fun b ps z => ⟨#[], by rw [upd_ne (at_ne e z exo_tbl), upd_ne (ne_of_none z hnd), z]; simp⟩ }
  refine h dx _ hnd dne (I.un (t' := tk') un1 fun b o z => ?_)
  by_cases hb : b = a
  · subst hb
    rw [upd_same] at z
    cases z
    exact exo_ok hx
  · rw [upd_ne hb] at z
    by_cases hd : b = dx
    · subst hd
      rw [upd_same] at z
      cases z
      exact exd_ok hn (relO_put (fs := []) ry fun g => True.intro)
    · rw [upd_ne hd] at z
      refine (I.hok b o z).stay (fun c v hc w => kp c v ?_ w) (fun c hc => by rw [upd_ne (at_ne e hc exo_own), upd_ne (ne_of_none hc hnd)]; exact hc) (fun c xs hc => by rw [upd_ne (at_ne e hc exo_tup), upd_ne (ne_of_none hc hnd)]; exact hc)
      rcases hc with hc | hc
      · rw [hc]
        exact hb
      · exact at_ne e hc exo_own
/-- a further field -/
theorem st_more (T : EC X.K C k) (I : Inv X pins σ H s) (e : H a = some (exo a C (some dx))) (ed : H dx = some (exd dx fs)) (hl : fs.length ≤ 900) (hno : PySem.W.findIn X.K (.ref C) f = some none) (ry : RelV y u)
    (h : ∀ s', Inv X pins σ (upd H dx (exd dx ((f, y) :: fs))) s' → Q () s') : wpAny (model X.prog X.w) A (setAttr (.ref a) f u) Q E s := by
  obtain ⟨nm, q, N, bs, sn, sub, ab, col, dd, k0, k1, k2, k3, k5, hC⟩ := T.cls
  have hcl : PySem.W.clsIn X.K C = some { name := nm, bases := bs, mro := .ref C :: k.bm, ns := N, qualname := q, hasDict := true, slotNames := sn, subclasses := sub, abstract := ab, collection := col, hasDel := false } := by unfold PySem.W.clsIn; rw [hC] <;> rfl
  obtain ⟨t1, ho⟩ := exo_at I.hok e
  obtain ⟨mA, hns, rel⟩ := exd_at I.hok ed
  have hw := within_of rel
  obtain ⟨hp, g, d, t, os⟩ := s
  obtain ⟨oD, _, _, hoD, _, _⟩ := hns.count hw
  refine PySem.W.set_plain I.kIn (ox := { cls := .ref C, dict := some dx, data := .fields #[.ref t1, .none, .none, .none, .bool false, .none] }) (od := some oD) ⟨ho, rfl, rfl, hoD⟩ T.sa ?_
  refine osa_more I.kIn ho hns hw (by rw [List.length_map]; omega) hcl k.ok rfl rfl hno (fun h' tk' kp hn => ?_)
  have hd : ∃ o, h'.get? dx = some o := by
    obtain ⟨o, _, _, e', _⟩ := hn
    exact ⟨o, e'⟩
  exact h _ (I.write (t' := tk') (x := dx) (e := dx) (o := exd dx ((f, y) :: fs)) (by rw [ed]; exact True.intro) (.inl rfl) kp hd (exd_ok hn (relO_put ry rel)))
end
/-- self.f = e, self an error of the class at C -/
def tSt (K : PySem.W.Frag) (k : Kd) (f : Str) (to te : TE) : TS := fun D σ H => te σ H fun y H1 => to σ H1 fun x H2 => ∃ a C : Addr, x = .ref a ∧ EC K C k ∧ PySem.W.findIn K (.ref C) f = some none ∧
  ((H2 a = some (exo a C none) ∧ ∀ dx, H2 dx = none → dx ≠ a → D.nx σ (upd (upd H2 dx (exd dx [(f, y)])) a (exo a C (some dx)))) ∨
    ∃ (dx : Addr) (fs : List (Str × V)), H2 a = some (exo a C (some dx)) ∧ H2 dx = some (exd dx fs) ∧ fs.length ≤ 900 ∧ D.nx σ (upd H2 dx (exd dx ((f, y) :: fs))))
section
variable {X : Cx} {o e : Expr} {es : List Expr} {to te : TE} {ta tk : TA} {f x : Str} {p p' p1 p2 pos : Pos} {k : Kd} {kws : List Keyword}
theorem ps_st (ho : PE X o to) (he : PE X e te) (hs : swapsWith e (some (.Attribute o f p')) pos.line X.env = pure false := by rfl) : PS X (.Assign [.Attribute o f p'] e pos) (tSt X.K k f to te) := by
  refine ⟨fun pins s σ H D I h => ?_⟩
  refine plainObj_wpAny_Assign_Attribute (thn (he.run pins s σ H _ I h) fun v s1 ⟨y, H1, I1, r1, q1⟩ => thn (ho.run pins s1 σ H1 _ I1 q1) fun u s2 ⟨z, H2, I2, r2, a, C, ex, T, hno, q⟩ => ?_) hs
  subst ex
  obtain rfl : u = Value.ref a := r2
  rcases q with ⟨ea, q⟩ | ⟨dx, fs, ea, ed, hl, q⟩
  · exact st_first T I2 ea hno r1 fun dx s' n ne J => ⟨σ, _, J, q dx n ne⟩
  · exact st_more T I2 ea ed hl hno r1 fun s' J => ⟨σ, _, J, q⟩
/-- an error's making: its class, its __init__ -/
structure EM (P : Program) (w : World) (K : PySem.W.Frag) (mg : Str → Option Value) (base : Heap) (x : Str) (C : Addr) (k : Kd) (fI : Addr) (fd : FuncData) (ps : List Str) (sp : Sp) : Prop where
  g : mg x = some (.ref C)
  c : EC K C k
  init : PySem.W.findIn K (.ref C) "__init__" = some (some (.ref fI))
  ty : PySem.W.typeIn K (.ref fI) = some (.type "function")
  ok : FnOk P w K mg base CX0 1 fI fd ps sp
/-- C(..): a new error at a, then __init__ -/
def tMkE (C : Addr) (sp : Sp) (t : TA) : TE := fun σ H Q => t σ H fun vs H1 => vs.length ≤ 1000 ∧ ∀ a, H1 a = none → sp (.ref a :: vs) (upd H1 a (exo a C none)) (fun v H2 => v = .non ∧ Q (.ref a) H2) E0
theorem run_mkE {pins : List (Addr × Obj)} {σ : L2.St} {H : Hp} {s : Shared} {Q : VK} {C fI : Addr} {fd : FuncData} {ps : List Str} {sp : Sp} {us ws : List Value} {kv : List (Str × Value)} {zs : List V} (M : EM X.prog X.w X.K X.mg X.base x C k fI fd ps sp) (hr : Room 2 X.A)
    (hk : kv = [] ∨ (∃ y u, kv = [(y, u)]) ∨ ∃ y u z o, kv = [(y, u), (z, o)]) (hus : us.length ≤ 1000) (I : Inv X pins σ H s) (r : Vals zs ws)
    (hb : ∀ (s' : Shared) (a : Addr), X.K.In s'.heap → BindsTo s' fd ⟨.ref a :: us, kv⟩ (ps.zip (.ref a :: ws)))
    (h : ∀ a, H a = none → sp (.ref a :: zs) (upd H a (exo a C none)) (fun v H2 => v = .non ∧ Q (.ref a) H2) E0) : wpAny (model X.prog X.w) X.A (call (.ref C) us kv) (EP X pins σ Q) X.xe s := by
  obtain ⟨nm, q, N, bs, sn, sub, ab, col, dd, k0, k1, k2, k3, k5, hC⟩ := M.c.cls
  obtain ⟨initId, bmB, FB⟩ := k.base
  obtain ⟨hp, g, dr, tk, os⟩ := s
  have hsz : hp.objs.size ≤ hp.objs.size + 1 := Nat.le_succ _
  have hq := h (hp.objs.size + 1) (I.hok.fresh hsz)
  have kk : ∀ b o, hp.get? b = some o → ((hp.push (PySem.W.kdv_tup us)).push (PySem.HandSPX.excO C hp.objs.size)).get? b = some o := fun b o e => Heap.get?_push_of_some _ (Heap.get?_push_of_some _ e)
  have hget : ((hp.push (PySem.W.kdv_tup us)).push (PySem.HandSPX.excO C hp.objs.size)).get? (hp.objs.size + 1) = some (PySem.HandSPX.excO C hp.objs.size) := by heap_get
  have I2 : Inv X pins σ (upd H (hp.objs.size + 1) (exo (hp.objs.size + 1) C none)) ⟨(hp.push (PySem.W.kdv_tup us)).push (PySem.HandSPX.excO C hp.objs.size), g, dr, tk, os⟩ :=
    I.laid (t' := tk) (a := hp.objs.size + 1) (o := exo (hp.objs.size + 1) C none) (h' := (hp.push (PySem.W.kdv_tup us)).push (PySem.HandSPX.excO C hp.objs.size)) kk hsz (exo_ok hget)
  have r2 : Vals (V.ref (hp.objs.size + 1) :: zs) (Value.ref (hp.objs.size + 1) :: ws) := .cons rfl r
  have hz : us.length ≤ sizeLine := by
    rw [sizeLine_eq]
    omega
  refine wpAny_call (call_E FB k.ok hk (I.kIn _ _ hC) (PySem.W.looks_findIn I.kIn M.init) (fun self => PySem.W.bind_fn I.kIn self M.ty) hz
    (codeAny_mono (M.ok.run _ X.stack _ _ ⟨Value.ref (hp.objs.size + 1) :: us, kv⟩ (Value.ref (hp.objs.size + 1) :: ws) _ _ E0 (hr.make C us kv) (I2.env0.make C us kv) (hb _ (hp.objs.size + 1) I2.kIn) r2 hq) fun r s' hq' => ?_))
  cases r with
  | error er => exact False.elim hq'
  | ok fl =>
    cases fl with
    | ret u =>
      obtain ⟨v, H', I3, rv, ev, q3⟩ := I2.after hq'
      subst ev
      exact ⟨rv, ⟨V.ref (hp.objs.size + 1), H', I3, rfl, q3⟩⟩
    | next => exact False.elim hq'
    | brk => exact False.elim hq'
    | cont => exact False.elim hq'
/-- C(e, ..) -/
theorem pe_mkE {C fI : Addr} {fd : FuncData} {ps : List Str} {sp : Sp} (M : EM X.prog X.w X.K X.mg X.base x C k fI fd ps sp) (hr : Room 2 X.A) (hb : Binds X.K fd ps []) (hg : Gl X x) (ha : PA X (e :: es) ta)
    (hdb : (x == ("__debug__" : Str)) = false := by decide) (he : starEach (e :: es) X.env = (false, eval e X.env) :: starEach es X.env := by rfl) (hpl : (backTo pos (starEach es X.env)).any (·.1) = false := by rfl) :
    PE X (.Call (.Name x p) (e :: es) [] pos) (tMkE C sp ta) := by
  refine ⟨fun pins s σ H Q I h => ?_⟩
  refine wpAny_Call_Name_kw (ld_glob I hg M.g ?_ hdb)
  refine PySem.W.callWith_K (h₀ := X.base) I.ok.mod.kin M.c.kC (thn (ha.run pos pins s σ H _ I h) fun us s1 ⟨vs, H1, I1, r1, hz, q1⟩ => ⟨I1.kIn, ?_⟩) he hpl
  have hlen : (V.ref s1.heap.objs.size :: vs).length = ps.length := M.ok.len _ _ _ _ (q1 (s1.heap.objs.size) (I1.hok.fresh (Nat.le_refl _)))
  refine run_mkE (us := us) (ws := us) (zs := vs) M hr (.inl rfl) (by rw [← Paired.length r1]; exact hz) I1 r1 (fun s' a X' => ?_) q1
  have e := hb s' (.ref a :: us) X' (by rw [List.append_nil, ← hlen, List.length_cons, List.length_cons, r1.length])
  rw [List.append_nil] at e
  exact e
/-- C() -/
theorem pe_mkE0 {C fI : Addr} {fd : FuncData} {ps : List Str} {sp : Sp} (M : EM X.prog X.w X.K X.mg X.base x C k fI fd ps sp) (hr : Room 2 X.A) (hb : Binds X.K fd ps []) (hg : Gl X x) (hdb : (x == ("__debug__" : Str)) = false := by decide) :
    PE X (.Call (.Name x p) [] [] pos) (tMkE C sp tNil) := by
  refine ⟨fun pins s σ H Q I h => ?_⟩
  obtain ⟨hz, q1⟩ := h
  refine wpAny_Call_Name_kw (ld_glob I hg M.g ?_ hdb)
  have hlen : (V.ref s.heap.objs.size :: ([] : List V)).length = ps.length := M.ok.len _ _ _ _ (q1 (s.heap.objs.size) (I.hok.fresh (Nat.le_refl _)))
  refine PySem.W.callWith_K0 I.kIn M.c.kC (run_mkE (us := []) (ws := []) (zs := []) M hr (.inl rfl) (Nat.zero_le _) I .nil (fun s' a X' => ?_) q1)
  have e := hb s' [.ref a] X' (by rw [List.append_nil, ← hlen]; rfl)
  rw [List.append_nil] at e
  exact e
/-- C(f = e, ..): one or two keywords, in the parameters' order -/
theorem pe_mkEK {C fI : Addr} {fd : FuncData} {ps ks : List Str} {sp : Sp} (M : EM X.prog X.w X.K X.mg X.base x C k fI fd ps sp) (hr : Room 2 X.A) (hn : ks.length = 1 ∨ ks.length = 2)
    (hb : ∀ (s' : Shared) (a : Addr) (ws : List Value), ws.length = ks.length → BindsTo s' fd ⟨[.ref a], ks.zip ws⟩ (ps.zip (.ref a :: ws))) (hp : ps.length = ks.length + 1) (hg : Gl X x) (hkw : PK X kws tk)
    (hall : (backToKw pos (keywordEach kws X.env)).all (·.1.isSome) = true := by rfl) (hks : (backToKw pos (keywordEach kws X.env)).filterMap (·.1) = ks := by rfl) (hdb : (x == ("__debug__" : Str)) = false := by decide)
    (hpl : ((backTo pos (starEach [] X.env)).any (·.1) || (backToKw pos (keywordEach kws X.env)).any (·.1.isNone)) = false := by rfl) :
    PE X (.Call (.Name x p) [] kws pos) (tMkE C sp tk) := by
  refine ⟨fun pins s σ H Q I h => ?_⟩
  refine wpAny_Call_Name_kw (ld_glob I hg M.g ?_ hdb)
  refine PySem.W.callWith_KW0 (h₀ := X.base) I.ok.mod.kin M.c.kC hall ?_ hpl
  refine thn (hkw.run pos pins s σ H _ I h) fun ws s2 ⟨zs, H2, I2, rz, hz, q2⟩ => ⟨I2.kIn, ?_⟩
  rw [hks]
  have hlen : (V.ref s2.heap.objs.size :: zs).length = ps.length := M.ok.len _ _ _ _ (q2 (s2.heap.objs.size) (I2.hok.fresh (Nat.le_refl _)))
  have hw : ws.length = ks.length := by
    rw [← rz.length]
    rw [List.length_cons] at hlen
    omega
  refine run_mkE (us := []) (ws := ws) (zs := zs) M hr ?_ (Nat.zero_le _) I2 rz (fun s' a X' => hb s' a ws hw) q2
  rcases hn with hn | hn
  · match ks, ws, hn, hw with
    | [y], [u], _, _ => exact .inr (.inl ⟨y, u, rfl⟩)
  · match ks, ws, hn, hw with
    | [y, z], [u, o], _, _ => exact .inr (.inr ⟨y, u, z, o, rfl⟩)
/-- e.f, e an error whose fields stand in its dict -/
def tFE (K : PySem.W.Frag) (f : Str) (te : TE) : TE := fun σ H Q => te σ H fun x H1 => ∃ (a C d : Addr) (k : Kd) (fs : List (Str × V)) (v : V), x = .ref a ∧ H1 a = some (exo a C (some d)) ∧ H1 d = some (exd d fs) ∧ EC K C k ∧ PySem.W.findIn K (.ref C) f = some none ∧ fs.lookup f = some v ∧ Q v H1
theorem pe_fE (he : PE X e te) (hb : attributeBase e f X.env (eval e X.env) = eval e X.env := by rfl) : PE X (.Attribute e f pos) (tFE X.K f te) := by
  refine ⟨fun pins s σ H Q I h => ?_⟩
  refine attr_of hb (thn (he.run pins s σ H _ I h) fun u s1 ⟨z, H1, I1, rx, a, C, d, k, fs, v, ez, ea, ed, T, hno, hl, q⟩ => ?_)
  subst ez
  obtain rfl : u = Value.ref a := rx
  obtain ⟨t1, ho⟩ := exo_at I1.hok ea
  obtain ⟨mA, hns, rel⟩ := exd_at I1.hok ed
  obtain ⟨od, hod, hlk⟩ := lookIn_ns hns
  obtain ⟨w', hu, ru⟩ := RelO.some_of (v := v) (o := mA f) (by rw [← hl]; exact rel f)
  have J : PySem.W.InstAt s1.heap a { cls := .ref C, dict := some d, data := .fields #[.ref t1, .none, .none, .none, .bool false, .none] } C (some od) := ⟨ho, rfl, rfl, hod⟩
  exact HandSPX.exc_get I1.kIn J T.at_.hg T.at_.hk T.at_.hs (PySem.W.findObj_own T.at_.hd hno rfl (by rw [hlk, hu])) (handed_of ru) ⟨v, H1, I1.tok _, ru, q⟩
end
end K34
set_option Elab.async false
set_option linter.all false
set_option maxRecDepth 100000
set_option maxHeartbeats 4000000
namespace K34
open PySem PySem.Spec PyProof.Rows L2
/-! ### isinstance of an error -/
/-- an error of the class at C stands at a -/
def ErrAt (H : Hp) (a C : Addr) : Prop := ∃ d : Option Addr, H a = some (exo a C d) ∧ (d = none ∨ ∃ dd fs, d = some dd ∧ H dd = some (exd dd fs))
theorem ErrAt.same {H H' : Hp} {a C : Addr} (e : ErrAt H a C) (s : Same H H') : ErrAt H' a C := by
  obtain ⟨d, h1, h2⟩ := e
  refine ⟨d, s _ _ h1, ?_⟩
  rcases h2 with h | ⟨dd, fs, h, h3⟩
  · exact .inl h
  · exact .inr ⟨dd, fs, h, s _ _ h3⟩
def rIsX (K : PySem.W.Frag) : List V → Hp → VK → Prop := fun xs H Q => ∃ (a C : Addr) (k : Kd) (c : V) (cv : Value) (b : Bool), xs = [.ref a, c] ∧ ErrAt H a C ∧ EC K C k ∧ (∀ u, RelV c u → u = cv) ∧ PySem.W.kitOne K (.ref C) cv = some b ∧ Q (.bl b) H
theorem call_isX {X : Cx} : CallR X (.builtin "isinstance") (rIsX X.K) := by
  intro pins s σ H xs us Q I r h
  obtain ⟨a, C, k, c, cv, b, rfl, ⟨d, ea, hd⟩, T, hcv, e, q⟩ := h
  cases r with
  | cons rx rr =>
    cases rr with
    | cons rt rr =>
      cases rr
      cases rx
      have ec := hcv _ rt
      subst ec
      obtain ⟨t1, ho⟩ := exo_at I.hok ea
      obtain ⟨od, J⟩ : ∃ od, PySem.W.InstAt s.heap a { cls := .ref C, dict := d, data := .fields #[.ref t1, .none, .none, .none, .bool false, .none] } C od := by
        rcases hd with rfl | ⟨dd, fs, rfl, ed⟩
        · exact ⟨none, ho, rfl, rfl, trivial⟩
        · obtain ⟨mA, hns, rel⟩ := exd_at I.hok ed
          obtain ⟨oD, _, _, hoD, _, _⟩ := hns
          exact ⟨some oD, ho, rfl, rfl, hoD⟩
      have hcl : (PySem.W.clsIn X.K C).isSome = true := by
        obtain ⟨cd, hc, _⟩ := PySem.W.any_some T.at_.hd
        rw [hc] <;> rfl
      exact PySem.W.kia_one (PySem.W.kitx_exc hcl T.at_.hg T.at_.hk T.at_.hs T.at_.ha T.at_.hn T.at_.ht T.at_.hm) I.kIn J e (fun z => nomatch z) fun tk => ⟨.bl b, H, I.kept (t' := tk) fun _ _ z => z, rfl, q⟩
section
variable {K : PySem.W.Frag} {C C' : Addr} {k k' : Kd}
theorem bm_ref : ∀ (k : Kd) (C : Addr), k.bm.contains (Value.ref C) = false
  | .ve, _ => rfl | .ke, _ => rfl | .le, _ => rfl | .oe, _ => rfl | .re, _ => rfl
theorem bm_ne : ∀ (k : Kd), k.bm.isEmpty = false
  | .ve => rfl | .ke => rfl | .le => rfl | .oe => rfl | .re => rfl
theorem EC.cd (T : EC K C k) : ∃ cd : ClassData, PySem.W.clsIn K C = some cd ∧ cd.mro = .ref C :: k.bm := by
  obtain ⟨nm, q, N, bs, sn, sub, ab, col, dd, k0, k1, k2, k3, k5, hC⟩ := T.cls
  refine ⟨_, by unfold PySem.W.clsIn; rw [hC], rfl⟩
theorem EC.ty (T : EC K C k) : PySem.W.typeIn K (.ref C) = some (.type "type") := by
  obtain ⟨nm, q, N, bs, sn, sub, ab, col, dd, k0, k1, k2, k3, k5, hC⟩ := T.cls
  show (K.lookup C).map (·.cls) = _
  rw [hC] <;> rfl
/-- isinstance(e, C'), C' an own class of errors -/
theorem kit_own (T : EC K C k) (T' : EC K C' k') : PySem.W.kitOne K (.ref C) (.ref C') = some (decide (C = C')) := by
  unfold PySem.W.kitOne
  by_cases h : C = C'
  · rw [if_pos (by rw [h]; exact beq_self_eq_true _), decide_eq_true h]
  · rw [if_neg (by intro z; exact h (Value.ref.inj (beq_iff_eq.mp z))), decide_eq_false h]
    obtain ⟨cd, hc, hm⟩ := T.cd
    obtain ⟨cd', hc', _⟩ := T'.cd
    show (if ((PySem.W.clsIn K C').isSome && PySem.W.typeIn K (.ref C') == some (.type "type")) = true then PySem.W.subIn K (.ref C) (.ref C') else none) = some false
    rw [if_pos (by rw [hc', T'.ty]; rfl)]
    show (PySem.W.clsIn K C).bind _ = _
    rw [hc, Option.bind_some, hm, if_neg (by simp), List.contains_cons, bm_ref, Bool.or_false]
    refine congrArg some (beq_eq_false_iff_ne.mpr fun z => h (Value.ref.inj z).symm)
/-- isinstance(e, T), T a built-in class -/
theorem kit_blt (T : EC K C k) (n : String) (hn : PySem.W.kitMeta n = true) : PySem.W.kitOne K (.ref C) (.type n) = some (k.bm.contains (.type n)) := by
  unfold PySem.W.kitOne
  rw [if_neg (by intro z; exact nomatch (beq_iff_eq.mp z))]
  obtain ⟨cd, hc, hm⟩ := T.cd
  show (if PySem.W.kitMeta n = true then PySem.W.subIn K (.ref C) (.type n) else none) = _
  rw [if_pos hn]
  show (PySem.W.clsIn K C).bind _ = _
  rw [hc, Option.bind_some, hm, if_neg (by simp), List.contains_cons]
  rfl
end
/-! ### xs.count(True), xs a list of bools -/
def isT (v : Value) : Bool := match v with
  | .bool b => b
  | _ => false
theorem bools_vals : ∀ {bs : List Bool} {us : List Value}, Vals (bs.map V.bl) us → (∀ y ∈ us, ∃ b, y = .bool b) ∧ us.countP isT = bs.count true
  | [], _, r => by
    cases r
    exact ⟨fun y hy => absurd hy (by simp), rfl⟩
  | b :: bs, _, r => by
    cases r with
    | cons r1 r2 =>
      obtain ⟨h1, h2⟩ := bools_vals r2
      cases (show _ = Value.bool b from r1)
      refine ⟨fun y hy => ?_, ?_⟩
      · rcases List.mem_cons.mp hy with e | e
        · exact ⟨b, e⟩
        · exact h1 y e
      · rw [List.countP_cons, List.count_cons, h2]
        cases b <;> rfl
def rCntT (K : PySem.W.Frag) : V → List V → Hp → VK → Prop := fun x xs H Q => ∃ (p : Addr) (bs : List Bool), x = .ref p ∧ xs = [.bl true] ∧ SqL K H p (bs.map V.bl) ∧ Q (.int (bs.count true : Nat)) H
theorem mt_cntT {X : Cx} : MtR X "list.count" (rCntT X.K) := by
  intro pins s σ H x xs v us Q I rx rxs h
  obtain ⟨p, bs, rfl, rfl, hs, q⟩ := h
  cases rx
  obtain ⟨u, rfl, ru⟩ := rxs.one
  cases (show u = Value.bool true from ru)
  obtain ⟨its, rv, ⟨⟨cls, dd, data, sl⟩, n, ho, hc, hdn, hd⟩, hlen⟩ := I.list hs
  simp only at hc hd
  subst hc hd
  obtain ⟨h1, h2⟩ := bools_vals rv
  refine call_meets PySem.F.slot_list_count ⟨_, ho, rfl⟩ PySem.F.entry_list_count (PySem.F.args_list_count_2 _ _)
    (SeqAt.list_countAt p its.toArray n dd sl (.bool true) isT) ⟨ho, fun y hy => ?_, ?_⟩
  · obtain ⟨b, rfl⟩ := h1 y (by simpa using hy)
    have z := SeqAt.EqAt.bool_bool (A := (X.A).in1) (s := s) b true
    have e : (b == true) = isT (.bool b) := by cases b <;> rfl
    rw [e] at z
    exact z
  · refine ⟨.int (bs.count true : Nat), H, I.tok _, ⟨s.toks, ?_⟩, q⟩
    show Value.int ((its.toArray.toList.countP isT : Nat) : Int) s.toks = _
    rw [show its.toArray.toList = its from by simp, h2]
/-! ### repr of data; nothing guards it -/
inductive Th (K : PySem.W.Frag) (H : Hp) : V → PyData → Prop
  | dp {v : V} {d : PyData} : Dp K H v d → d.hasDict = false → Th K H v d
  | d0 {a : Addr} : H a = some (.dK []) → Th K H (.ref a) (.dict [])
  | d1 {a : Addr} : H a = some (.dK [(.inr "a", .int 1)]) → Th K H (.ref a) (.dict [(.str "a", .int 1)])
theorem dp_same {K : PySem.W.Frag} {H H' : Hp} (e : ∀ b o, H b = some o → H' b = some o) : ∀ (d : PyData) (v : V), Dp K H v d → Dp K H' v d := by
  have sT : ∀ {a : Addr} {xs : List V}, SqT K H a xs → SqT K H' a xs := fun {a xs} h => by
    rcases h with (h | ⟨o, h⟩) | h
    · exact .inl (.inl (e _ _ h))
    · exact .inl (.inr ⟨o, e _ _ h⟩)
    · exact .inr h
  have sL : ∀ {a : Addr} {xs : List V}, SqL K H a xs → SqL K H' a xs := fun {a xs} h => Same.seq e h
  intro d v h
  exact Dp.rec (motive_1 := fun v d _ => Dp K H' v d) (motive_2 := fun vs ds _ => DpAll K H' vs ds) .non .bl .int .str (fun h1 _ ih => .lst (sL h1) ih) (fun h1 _ ih => .tup (sT h1) ih) .nil (fun _ _ i1 i2 => .cons i1 i2) h
theorem Th.same {K : PySem.W.Frag} {H H' : Hp} {v : V} {d : PyData} (t : Th K H v d) (e : ∀ b o, H b = some o → H' b = some o) : Th K H' v d := by
  cases t with
  | dp h n => exact .dp (dp_same e _ _ h) n
  | d0 h => exact .d0 (e _ _ h)
  | d1 h => exact .d1 (e _ _ h)
section
variable {X : Cx} {pins : List (Addr × Obj)} {σ : L2.St} {H : Hp} {s : Shared}
theorem Th.reads {v : V} {u : Value} {d : PyData} (I : Inv X pins σ H s) (t : Th X.K H v d) (r : RelV v u) : ∃ as, Reads s.heap u d as ∧ (d.hasDict = true → sysModules ∉ as) := by
  cases t with
  | dp h n =>
    obtain ⟨as, q⟩ := Dp.reads I d v u h r
    exact ⟨as, q, fun z => by rw [n] at z; cases z⟩
  | @d0 a h =>
    cases (show u = Value.ref a from r)
    obtain ⟨_, hn, vs, rel, o, es, ep, ho, hx, hd, he⟩ := dk_of I.hok h
    cases rel
    obtain ⟨_, pr, _⟩ := he
    have e0 : es.toList = [] := by
      generalize es.toList = l at pr
      cases pr
      rfl
    refine ⟨_, Reads.dict (as := []) (bs := []) ho hx.1 hd (by rw [e0]; exact .nil) (by rw [e0]; exact .nil), fun _ z => ?_⟩
    have z2 : sysModules = a := by simpa using z
    rw [z2] at hn
    simp at hn
  | @d1 a h =>
    cases (show u = Value.ref a from r)
    obtain ⟨_, hn, vs, rel, o, es, ep, ho, hx, hd, he⟩ := dk_of I.hok h
    obtain ⟨_, pr, _⟩ := he
    cases rel with
    | @cons _ q _ _ r1 r2 =>
      cases r2
      obtain ⟨k1, v1⟩ := q
      obtain ⟨ek, t1, ev⟩ := r1
      have ek' : Sum.inr ("a" : Str) = k1 := ek
      have ev' : v1 = Value.int 1 t1 := ev
      subst ek' ev'
      obtain ⟨e, e0, hk, hv⟩ : ∃ e : DictEntry, es.toList = [e] ∧ (mixKind X.prog X.w).is (.inr ("a" : Str)) e.key = true ∧ e.val = Value.int 1 t1 := by
        generalize es.toList = l at pr
        cases pr with
        | cons p1 p2 p3 =>
          cases p3
          exact ⟨_, rfl, p1, p2⟩
      obtain ⟨t2, hk2⟩ : ∃ t2, e.key = Value.str ("a" : Str) t2 := by
        rcases keyIs_shape (show keyIs (.inr ("a" : Str)) e.key = true from hk) with ⟨i, t, z, _⟩ | ⟨x, t, z, z2⟩
        · cases z
        · cases z
          exact ⟨t, z2⟩
      have q1 : Reads s.heap e.key (.str ("a" : Str)) [] := by rw [hk2]; exact .str _ _
      have q2 : Reads s.heap e.val (.int 1) [] := by rw [hv]; exact .int _ _
      refine ⟨_, Reads.dict (as := [] ++ []) (bs := [] ++ []) ho hx.1 hd (by rw [e0]; exact .cons q1 .nil) (by rw [e0]; exact .cons q2 .nil), fun _ z => ?_⟩
      have z2 : sysModules = a := by simpa using z
      rw [z2] at hn
      simp at hn
/-- a written list: its place is not that of the table of modules -/
def tLstM (t : TA) : TE := fun σ H Q => t σ H fun xs H1 => xs.length ≤ sizeLine ∧ ∀ p, H1 p = none → p ≠ sysModules → Q (.ref p) (upd H1 p (.lst xs))
theorem pe_lstM {es : List Expr} {t : TA} {pos : Pos} (h : PA X es t) : PE X (.List es pos) (tLstM t) := by
  refine ⟨fun pins s σ H Q I hq => ?_⟩
  refine wpAny_List_spliced (thn (h.run pos pins s σ H _ I hq) fun us s1 ⟨xs, H1, I1, r, z, q⟩ => ⟨by rw [← r.length]; exact z, ?_⟩)
  have hf : H1 s1.heap.objs.size = none := I1.hok.fresh (Nat.le_refl _)
  refine ⟨.ref s1.heap.objs.size, upd H1 s1.heap.objs.size (.lst xs), I1.laid (t' := s1.toks) (fun b u e => Heap.get?_push_of_some _ e) (Nat.le_refl _) ?_, rfl, q _ hf (Nat.ne_of_gt I1.big)⟩
  exact ⟨z, us, 0, r, Heap.get?_push_size _ rfl⟩
/-- repr of a datum -/
def rRepr (K : PySem.W.Frag) : List V → Hp → VK → Prop := fun xs H Q => ∃ v d, xs = [v] ∧ Th K H v d ∧ d.showable = true ∧ d.shown.length ≤ sizeLine ∧ d.depth ≤ 8 ∧ Q (.str d.shown) H
theorem call_repr (hg : X.A.guards = some []) (hu : X.A.units + 64 < cLine) : CallR X (.builtin "repr") (rRepr X.K) := by
  intro pins s σ H xs us Q I r h
  obtain ⟨v, d, rfl, t, hs, hl, hd, q⟩ := h
  obtain ⟨u, rfl, ru⟩ := vals1 r
  obtain ⟨as, rd, hm⟩ := t.reads I ru
  have fin : ∀ tk, EP X pins σ Q (.str d.shown tk) { s with toks := s.toks + 1 } := fun tk => ⟨.str _, H, I.tok _, ⟨_, rfl⟩, q⟩
  cases rd with
  | none => exact PySem.P.repr_of_none (fin _)
  | bool b =>
    refine PySem.P.repr_of_bool ?_
    have z := fin s.toks
    simp only [PyData.shown] at z
    exact z
  | int i tk =>
    have hi : i.natAbs.log2 < 1920 := of_decide_eq_true (by simpa only [PyData.showable] using hs)
    refine PySem.P.repr_of_int hi ?_
    have z := fin s.toks
    simp only [PyData.shown] at z
    exact z
  | str x tk =>
    have z := fin s.toks
    simp only [PyData.shown] at z hl
    exact PySem.P.repr_of_str z hl
  | list h1 h2 h3 h4 => exact repr_of_reads' (.list h1 h2 h3 h4) hs hm hg (by omega) (fun _ _ e => e) (fun h' u' tk kp => ⟨.str _, H, I.kept kp, ⟨_, rfl⟩, q⟩) hl
  | tuple h1 h2 h3 h4 => exact repr_of_reads' (.tuple h1 h2 h3 h4) hs hm hg (by omega) (fun _ _ e => e) (fun h' u' tk kp => ⟨.str _, H, I.kept kp, ⟨_, rfl⟩, q⟩) hl
  | dict h1 h2 h3 h4 h5 => exact repr_of_reads' (.dict h1 h2 h3 h4 h5) hs hm hg (by omega) (fun _ _ e => e) (fun h' u' tk kp => ⟨.str _, H, I.kept kp, ⟨_, rfl⟩, q⟩) hl
/-- repr of a list of a datum, twice -/
def rRepr2 (K : PySem.W.Frag) : List V → Hp → VK → Prop := fun xs H Q => ∃ p v d, xs = [.ref p] ∧ p ≠ sysModules ∧ H p = some (.lst [v, v]) ∧ Th K H v d ∧ (PyData.list [d, d]).showable = true ∧ (PyData.list [d, d]).shown.length ≤ sizeLine ∧ (PyData.list [d, d]).depth ≤ 8 ∧ Q (.str (PyData.list [d, d]).shown) H
theorem call_repr2 (hg : X.A.guards = some []) (hu : X.A.units + 64 < cLine) : CallR X (.builtin "repr") (rRepr2 X.K) := by
  intro pins s σ H xs us Q I r h
  obtain ⟨p, v, d, rfl, hp, hH, t, hs, hl, hd, q⟩ := h
  obtain ⟨u, rfl, ru⟩ := vals1 r
  cases (show u = Value.ref p from ru)
  obtain ⟨its, rv, ⟨o, n, ho, hc, _, hdat⟩, _⟩ := I.list (SqL.of hH)
  cases rv with
  | cons r1 r2 =>
    cases r2 with
    | cons r2 r3 =>
      cases r3
      obtain ⟨as, d1, m1⟩ := t.reads I r1
      obtain ⟨bs, d2, m2⟩ := t.reads I r2
      have rd : Reads s.heap (.ref p) (.list [d, d]) _ := .list ho hc hdat (.cons d1 (.cons d2 .nil))
      refine repr_of_reads' rd hs (fun hh z => ?_) hg (by omega) (fun _ _ e => e) (fun h' u' tk kp => ⟨.str _, H, I.kept kp, ⟨_, rfl⟩, q⟩) hl
      have hdd : d.hasDict = true := by
        have z : (d.hasDict || (d.hasDict || false)) = true := by simpa only [PyData.hasDict, PyData.hasDictAll] using hh
        simpa using z
      rcases List.mem_cons.mp z with e | e
      · exact hp e.symm
      · rcases List.mem_append.mp e with e | e
        · exact m1 hdd e
        · rcases List.mem_append.mp e with e | e
          · exact m2 hdd e
          · cases e
end
end K34
set_option Elab.async false
set_option linter.all false
set_option maxRecDepth 100000
set_option maxHeartbeats 4000000
/-! a def's promise where no guard runs: FnOk's twin, its body, its call, the law's call -/
namespace K34
open PySem PySem.Spec PyProof.Rows L2
structure FnG (P : Program) (w : World) (K : PySem.W.Frag) (mg : Str → Option Value) (base : Heap) (k : Nat) (f : Addr) (fd : FuncData) (ps : List Str) (sp : Sp) : Prop where
  len : ∀ vs H Q E, sp vs H Q E → vs.length = ps.length
  go : ∀ (A : Around) (outer : List Env) (s : Shared) (H : Hp) (args : Args) (us : List Value) (vs : List V) (Q : VK) (E : XK), A.guards = some [] → Room k A → Env0 P w K mg base A outer s H → BindsTo s fd args (ps.zip us) → Vals vs us → sp vs H Q E →
    codeAny (model P w) A (.call (.ref f) args) (CR CX0 outer P w H s Q E) s
section
variable {P : Program} {w : World} {K : PySem.W.Frag} {mg : Str → Option Value} {base : Heap} {x qual : Str} {params : Arguments} {body : List Stmt} {scope : Scope} {dvs : List V} {kws : List (Str × V)} {f : Addr} {fd : FuncData}
theorem okGl {N ps : List Str} {k : Nat} {sp : Sp} {oc dV kV doc pm cdv ct : Value} {od an : Option Addr} {osl : Array (Option Value)} (lk : K.lookup f = some ⟨oc, od, .func (PySem.W.fnOf x qual params body scope dV kV doc pm an cdv ct), osl⟩) (hcd : PySem.W.codeIn K cdv qual = true)
    (S : FnScope N ps scope) (len : ∀ vs H Q E, sp vs H Q E → vs.length = ps.length)
    (hbody : ∀ (A : Around) (outer : List Env) (s : Shared) (H : Hp) (vs : List V) (Q : VK) (E : XK), A.guards = some [] → Room k (A.deeper (envOfC qual scope s.heap.objs.size f cdv)) → sp vs H Q E →
      ∃ t, PSs (cxOf CX0 P w K mg base N qual scope f cdv A outer s H E) body t ∧ t { nx := fun _ H' => Q .non H', rt := Q } (start N vs) H) : FnG P w K mg base (k + 1) f (PySem.W.fnOf x qual params body scope dV kV doc pm an cdv ct) ps sp := by
  refine ⟨len, fun A outer s H args us vs Q E hga hro e0 hb r hsp => ?_⟩
  have hl := len _ _ _ _ hsp
  have kx : K.In s.heap := e0.mod.kin.keeps fun b o e => (e0.bs b o e).1
  have lim : s.heap.NoLimit := e0.mod.nolimit.keeps fun b o e => (e0.bs b o e).1
  have hk : ∀ y ∈ ps.zip us, scope.names.lookup y.1 = some .local ∨ (scope.names.lookup y.1 = some .cell ∧ ((cellsFrom (s.heap.objs.size + 1) scope.names []).lookup y.1).isSome = true) := fun ⟨n, v⟩ hy => by
    rcases S.par n (List.of_mem_zip hy).1 with z | z
    · exact .inl z
    · exact .inr ⟨z, PySem.W.cellsFrom_some _ _ _ (.inl z)⟩
  refine codeAny_call_function hro.depth (kx _ _ lk) rfl S.co S.gen rfl (PySem.W.codeRec_of kx hcd) (hb _ _ _ _ ?_)
  refine wpAny_newFunctionEnv_cells S.kind hk fun env he s1 z => ?_
  subst he
  refine ⟨lim.keeps z.toInCall.keep, codeAny_func ?_⟩
  obtain ⟨t, ht, hq⟩ := hbody A outer s H vs Q E hga (hro.deeper _) hsp
  have I : Inv (cxOf CX0 P w K mg base N qual scope f cdv A outer s H E) [] (start N vs) H s1 := inv_start S hro.hd e0 hl r z
  refine wpAny_mono (ht.run [] s1 (start N vs) H _ I hq) (fun fl s' hs => ?_) fun e s' hs => hs
  have fin : ∀ {σ' : L2.St} {H' : Hp} {v : V} {u : Value}, Inv (cxOf CX0 P w K mg base N qual scope f cdv A outer s H E) [] σ' H' s' → RelV v u → Q v H' → CE outer P w H s Q u s' :=
    fun {σ' H' v u} J rv q => ⟨v, H', J.os, J.bare, J.base, J.hok, rv, q⟩
  cases fl with
  | ret u =>
    obtain ⟨v, σ', H', J, rv, q⟩ := hs
    exact fin J rv q
  | next =>
    obtain ⟨σ', H', J, q⟩ := hs
    exact fin (v := V.non) (u := Value.none) J rfl q
  | brk =>
    obtain ⟨_, _, _, q⟩ := hs
    exact False.elim q
  | cont =>
    obtain ⟨_, _, _, q⟩ := hs
    exact False.elim q
theorem okG {N ps : List Str} {k : Nat} {sp : Sp} (F : FunD K x qual params body scope dvs kws f fd) (S : FnScope N ps scope) (len : ∀ vs H Q E, sp vs H Q E → vs.length = ps.length)
    (hbody : ∀ (cdv : Value) (A : Around) (outer : List Env) (s : Shared) (H : Hp) (vs : List V) (Q : VK) (E : XK), A.guards = some [] → Room k (A.deeper (envOfC qual scope s.heap.objs.size f cdv)) → sp vs H Q E →
      ∃ t, PSs (cxOf CX0 P w K mg base N qual scope f cdv A outer s H E) body t ∧ t { nx := fun _ H' => Q .non H', rt := Q } (start N vs) H) : FnG P w K mg base (k + 1) f fd ps sp := by
  obtain ⟨oc, od, dV, kV, doc, pm, an, cdv, ct, osl, rfl, lk, hcd, _, _⟩ := F.ex
  exact okGl lk hcd S len fun A outer s H vs Q E hga hr hsp => hbody cdv A outer s H vs Q E hga hr hsp
end
section
variable {X : Cx} {k : Nat} {f : Addr} {fd : FuncData} {ps : List Str} {sp : Sp} {x : Str} {p pos : Pos} {e : Expr} {es : List Expr} {t : TA}
theorem pe_callG (F : FnG X.prog X.w X.K X.mg X.base k f fd ps sp) (hga : X.A.guards = some []) (hr : Room k X.A) (hg : Gl X x) (hm : X.mg x = some (.ref f)) (hk : PySem.W.keepIn X.K (.ref f) = true) (hb : Binds X.K fd ps [])
    (ha : PA X (e :: es) t) (hdb : (x == ("__debug__" : Str)) = false := by decide) (he : starEach (e :: es) X.env = (false, eval e X.env) :: starEach es X.env := by rfl) (hpl : (backTo pos (starEach es X.env)).any (·.1) = false := by rfl) :
    PE X (.Call (.Name x p) (e :: es) [] pos) (tCall sp [] E0 t) := by
  refine ⟨fun pins s σ H Q I h => ?_⟩
  refine wpAny_Call_Name_kw (ld_glob I hg hm ?_ hdb)
  refine PySem.W.callWith_K (h₀ := X.base) I.ok.mod.kin hk (thn (ha.run pos pins s σ H _ I h) fun us s1 ⟨vs, H1, I1, r, q⟩ => ⟨I1.kIn, ?_⟩) he hpl
  have r2 : Vals (vs ++ []) (us ++ []) := r.append .nil
  have hl : (us ++ []).length = ps.length := by rw [← r2.length]; exact F.len _ _ _ _ q
  show wpAny _ _ (call (.ref f) us) _ _ _
  refine wpAny_call (codeAny_mono (F.go X.A X.stack s1 H1 ⟨us, []⟩ (us ++ []) (vs ++ []) Q E0 hga hr I1.env0 (hb s1 us I1.kIn hl) r2 q) fun r s' hq => ?_)
  cases r with
  | error e => exact False.elim hq
  | ok fl =>
    cases fl with
    | ret u => exact I1.after hq
    | next => exact False.elim hq
    | brk => exact False.elim hq
    | cont => exact False.elim hq
end
/-- the law's def at the heap behind the top -/
theorem law_G {P : Program} {w : World} {K : PySem.W.Frag} {mg mb : Str → Option Value} {k : Nat} {fa a : Addr} {fd : FuncData} {x : Str} {sp : Sp} {s1 : Shared} {vs : List Value} {ns : List Int}
    (kx : K.In s1.heap) (hns : s1.heap.Ns mainGlobals mg) (hb : s1.heap.Ns builtinsNs mb) (hbb : ∀ y : Str, y ≠ "__name__" → mb y = bootBuiltins y) (hlim : s1.heap.NoLimit) (hg : s1.gens = #[])
    (ha : s1.heap.get? a = some { cls := .type "list", data := .seq vs.toArray }) (hi : IntsAre vs ns) (hl : ns.length ≤ sizeLine) (hr : Room k callerA)
    (F : ∀ base : Heap, K.In base → base.Ns mainGlobals mg → FnG P w K mg base k fa fd [x] sp) (hbd : ∀ (s : Shared) (u : Value), BindsTo s fd ⟨[u], []⟩ [(x, u)])
    (hsp : ∀ H : Hp, Only H → SqL K H a (ns.map V.int) → sp [.ref a] H (fun v _ => v = .bl true) fun _ _ _ => False) :
    codeAny (model P w) callerA (.call (.ref fa) ⟨[.ref a], []⟩) (fun r s' => r = .ok (.ret (.bool true)) ∧ OldK s1.heap s'.heap ∧ s'.os = s1.os ∧ AllBare s'.gens) s1 := by
  have rv := vals_ints hi
  have lv := hi.length
  have core : ∀ H : Hp, Only H → SqL K H a (ns.map V.int) → HOk P w H s1.heap → (∀ b, H b ≠ none → b = a) → (H a ≠ none → K.lookup a = none) →
      codeAny (model P w) callerA (.call (.ref fa) ⟨[.ref a], []⟩) (fun r s' => r = .ok (.ret (.bool true)) ∧ OldK s1.heap s'.heap ∧ s'.os = s1.os ∧ AllBare s'.gens) s1 := by
    intro H hO hS hok hA hK
    have bo : ∀ {b : Addr} {o : Obj}, s1.heap.get? b = some o → H b = none → (hidT s1.heap H).get? b = some o := fun e n => hidT_get e n
    have nA : ∀ {b : Addr} {o : Obj} {es : Array DictEntry} {ep : Nat}, s1.heap.get? b = some o → o.data = .dict es ep → H b = none := fun {b o es ep} e d => by
      cases q : H b with
      | none => rfl
      | some u =>
        have e' : b = a := hA b (by rw [q]; simp)
        subst e'
        rw [ha] at e; cases e
        have d' : Data.seq vs.toArray _ = Data.dict es ep := d
        cases d'
    have nsK : ∀ {b : Addr} {m : Str → Option Value}, s1.heap.Ns b m → (hidT s1.heap H).Ns b m := fun {b m} ⟨o, es, ep, e, d, r⟩ => ⟨o, es, ep, bo e (nA e d), d, r⟩
    have hKb : K.In (hidT s1.heap H) := fun b o e => bo (kx b o e) (by
      cases q : H b with
      | none => rfl
      | some u =>
        have e' : b = a := hA b (by rw [q]; simp)
        subst e'
        rw [hK (by rw [q]; simp)] at e; cases e)
    have hM : Mod K mg (hidT s1.heap H) := ⟨hKb, nsK hns, ⟨mb, nsK hb, hbb⟩, let ⟨mc, h1, h2⟩ := hlim; ⟨mc, nsK h1, h2⟩⟩
    have e0 : Env0 P w K mg (hidT s1.heap H) callerA [] s1 H := ⟨rfl, hM, fun b o e => of_hidT e, Nat.le_of_eq (hidT_size _ _), trivial, fun b hb => absurd (show b ∈ ([] : List Addr) from hb) (by simp), hok, .of_eq hg⟩
    refine codeAny_mono ((F _ hKb (nsK hns)).go callerA [] s1 H ⟨[.ref a], []⟩ [.ref a] [.ref a] _ _ rfl hr e0 (hbd s1 (.ref a)) (.cons rfl .nil) (hsp H hO hS)) fun r s' h => ?_
    cases r with
    | error e => exact False.elim h
    | ok fl =>
      cases fl with
      | next => exact False.elim h
      | brk => exact False.elim h
      | cont => exact False.elim h
      | ret u =>
        obtain ⟨v, H', os, bare, un, hok', r', q⟩ := h
        have q' : v = .bl true := q
        subst q'
        obtain rfl : u = Value.bool true := r'
        refine ⟨rfl, OldK.of_keep fun b o e => ?_, os, bare⟩
        cases q : H b with
        | none => exact un.keep b o e q (by intro z; exact absurd (show b ∈ ([] : List Addr) from z) (by simp)) (by simp)
        | some u =>
          rcases hO b with z | ⟨ob, xs, z⟩
          · rw [q] at z; cases z
          · have z2 := un.frzs b ob _ z
            obtain ⟨e1, _⟩ := hok b _ z
            obtain ⟨e2, _⟩ := hok' b _ z2
            rw [e] at e1; cases e1
            exact e2
  cases hk : K.lookup a with
  | some o =>
    have e := kx a o hk
    rw [ha] at e
    cases e
    refine core (fun _ => none) (fun _ => .inl rfl) (.inr ⟨_, vs.toArray, _, hk, rfl, rfl, rfl, by rw [List.size_toArray, lv]; exact hl, by simpa using rv⟩) (fun b u z => by have z' : (none : Option HO) = some u := z; cases z') (fun b z => absurd rfl z) fun z => absurd rfl z
  | none =>
    refine core (fun b => if b = a then some (.frz { cls := .type "list", data := .seq vs.toArray } (.lst (ns.map V.int))) else none) (fun b => ?_) (.inl (.inr ⟨{ cls := .type "list", data := .seq vs.toArray }, if_pos rfl⟩)) (fun b u z => ?_) (fun b z => ?_) fun _ => hk
    · by_cases hb : b = a
      · exact .inr ⟨_, _, if_pos hb⟩
      · exact .inl (if_neg hb)
    · by_cases hb : b = a
      · have z' := (if_pos hb).symm.trans z
        cases z'
        subst hb
        exact ⟨ha, by rw [List.length_map]; exact hl, vs, _, rv, ha⟩
      · have z' := (if_neg hb).symm.trans z
        cases z'
    · by_cases hb : b = a
      · exact hb
      · exact absurd (if_neg hb) z
/-- a law: F gives the written part, the function object, the promise over every base -/
theorem walk_G {l : PySem.W.OpenLaw} {n k : Nat} {q : Program} {loose : List Str} {XP : (Str → Option Value) → Heap → Prop} {YP : World → Heap → Prop} {d : DefRec} {x : Str}
    (hn : l.most = some n) (hn2 : n ≤ sizeLine) (hdf : d.params.defaults = []) (hr : Room k callerA)
    (F : ∀ (w : World) (mg : Str → Option Value) (fa : Addr) (h : Heap), YP w h → h.Ns mainGlobals mg → mg d.name = some (.ref fa) →
      ∃ (K : PySem.W.Frag) (fd : FuncData) (sp : Sp), K.In h ∧ (∀ (s : Shared) (u : Value), BindsTo s fd ⟨[u], []⟩ [(x, u)]) ∧
        (∀ (H : Hp) (a : Addr) (ns : List Int), ns.length ≤ n → Only H → SqL K H a (ns.map V.int) → sp [.ref a] H (fun v _ => v = .bl true) fun _ _ _ => False) ∧
        ∀ base : Heap, K.In base → base.Ns mainGlobals mg → FnG l.prog w K mg base k fa fd [x] sp) :
    PySem.W.WalkO q loose XP YP l.row.toRowW d [] (fun f vs => PySem.call f vs) := by
  refine Att.attach_call hn hdf fun w s0 s1 mg mb fa o pm cd doc a vs ns G Y ho hd hcd hmg hobj hints hlen hg => ?_
  obtain ⟨K, fd, sp, kx, hb, hsp, hF⟩ := F w mg fa _ Y G.T.g hmg
  exact law_G kx G.T.g G.T.b G.T.builtins G.T.nolimit hg hobj hints (Nat.le_trans hlen hn2) hr hF hb fun H hO hS => hsp H a ns hlen hO hS
end K34
set_option Elab.async false
set_option linter.all false
set_option maxRecDepth 100000
set_option maxHeartbeats 4000000
namespace K02
open PySem PySem.Spec PyProof.Rows L2
abbrev FnP (K : PySem.W.Frag) (x : Str) (st : Stmt) (f : Addr) (fd : FuncData) : Prop := FunD K x x (defArgs st) (defBody st) (defScope st) [] [] f fd
/-! ### the pen -/
def penK (c : Addr) (t l : Int) : List (Key × V) := [(.inr "cells", .ref c), (.inr "turn", .int t), (.inr "left", .int l)]
theorem pen_cells (c : Addr) (t l : Int) : valV (penK c t l) (.inr ("cells" : Str)) = some (.ref c) := by kernel_rfl
theorem pen_turn (c : Addr) (t l : Int) : valV (penK c t l) (.inr ("turn" : Str)) = some (.int t) := by kernel_rfl
theorem pen_left (c : Addr) (t l : Int) : valV (penK c t l) (.inr ("left" : Str)) = some (.int l) := by kernel_rfl
theorem put_turn (c : Addr) (t l z : Int) : putK (penK c t l) (.inr ("turn" : Str)) (.int z) = penK c z l := by kernel_rfl
theorem put_left (c : Addr) (t l z : Int) : putK (penK c t l) (.inr ("left" : Str)) (.int z) = penK c t z := by kernel_rfl
/-- a pen stands at p, its cells at c -/
structure PenAt (H : Hp) (p c : Addr) (ns : List Int) (t l : Int) : Prop where
  d : H p = some (.dK (penK c t l))
  c : H c = some (.lst (ns.map .int))
  ht : 0 ≤ t
  hl : 0 ≤ l
  hn : ns.length ≤ 63
theorem get_cells {H : Hp} {p c : Addr} {t l : Int} (h : H p = some (.dK (penK c t l))) : DGet H p (.str "cells") (some (.ref c)) := by
  have g := DGet.k (k := Sum.inr ("cells" : Str)) h
  rw [pen_cells] at g
  exact g
theorem get_turn {H : Hp} {p c : Addr} {t l : Int} (h : H p = some (.dK (penK c t l))) : DGet H p (.str "turn") (some (.int t)) := by
  have g := DGet.k (k := Sum.inr ("turn" : Str)) h
  rw [pen_turn] at g
  exact g
theorem get_left {H : Hp} {p c : Addr} {t l : Int} (h : H p = some (.dK (penK c t l))) : DGet H p (.str "left") (some (.int l)) := by
  have g := DGet.k (k := Sum.inr ("left" : Str)) h
  rw [pen_left] at g
  exact g
theorem set_turn {H : Hp} {p c : Addr} {t l : Int} (h : H p = some (.dK (penK c t l))) (z : Int) : DPut H p (.str "turn") (.int z) (upd H p (.dK (penK c z l))) := by
  have g := DPut.k (k := Sum.inr ("turn" : Str)) (v := .int z) h (show 3 < sizeLine from by decide)
  rw [put_turn] at g
  exact g
theorem set_left {H : Hp} {p c : Addr} {t l : Int} (h : H p = some (.dK (penK c t l))) (z : Int) : DPut H p (.str "left") (.int z) (upd H p (.dK (penK c t z))) := by
  have g := DPut.k (k := Sum.inr ("left" : Str)) (v := .int z) h (show 3 < sizeLine from by decide)
  rw [put_left] at g
  exact g
/-- all that was tracked is as it was, but for what stands at p -/
def But (p : Addr) (H H' : Hp) : Prop := ∀ b o, b ≠ p → H b = some o → H' b = some o
theorem But.refl (p : Addr) (H : Hp) : But p H H := fun _ _ _ h => h
theorem But.trans {p : Addr} {H H1 H2 : Hp} (a : But p H H1) (b : But p H1 H2) : But p H H2 := fun c o n h => b c o n (a c o n h)
theorem But.of {p : Addr} {H H' : Hp} (a : Same H H') : But p H H' := fun c o _ h => a c o h
theorem But.put {p : Addr} {H H' : Hp} {o : HO} (a : But p H H') : But p H (upd H' p o) := fun c u n h => by rw [upd_ne n]; exact a c u n h
theorem But.new {p q : Addr} {H H' : Hp} {o : HO} (a : But p H H') (n : H q = none) : But p H (upd H' q o) := fun c u n' h => by
  rw [upd_ne (ne_of_none h n)]
  exact a c u n' h
theorem But.anew {p q : Addr} {H H' : Hp} {o : HO} (a : But p H H') (n : H' q = none) : But p H (upd H' q o) := fun c u n' h => by
  have h' := a c u n' h
  rw [upd_ne (ne_of_none h' n)]
  exact h'
theorem same_new {q : Addr} {H H' : Hp} {o : HO} (a : Same H H') (n : H' q = none) : Same H (upd H' q o) := fun c u h => by
  rw [upd_ne (ne_of_none (a c u h) n)]
  exact a c u h
theorem itT {A B : Prop} {c : Bool} (hc : c = true) (h : A) : if c = true then A else B := by
  subst hc
  exact iteT h
theorem itF {A B : Prop} {c : Bool} (hc : c = false) (h : B) : if c = true then A else B := by
  subst hc
  exact iteF h
def spDraw : Sp := fun vs H Q _ => ∃ (p c : Addr) (ns : List Int) (t l m : Int), vs = [.ref p, .int m] ∧ PenAt H p c ns t l ∧ t < 1000000000000 ∧ 0 < m ∧ m < 1073741824 ∧
  ∀ (k t' l' : Int) (H' : Hp), 0 ≤ k → k < m → t' ≤ t + 1 → PenAt H' p c ns t' l' → But p H H' → Q (.int k) H'
theorem scDraw : FnScope ["_law_pen_here", "_law_many", "_law_digit", "_law_turn", "_law_cell", "_law_primes", "_law_prime", "_law_drawn"] ["_law_pen_here", "_law_many"] (defScope sDraw) :=
  ⟨rfl, rfl, rfl, by decide +kernel, rfl, by decide +kernel, by decide +kernel⟩
structure TxB (mg : Str → Option Value) : Prop where
  int : mg "int" = none
  len : mg "len" = none
  abs : mg "abs" = none
  list : mg "list" = none
theorem can_ints : ∀ ns : List Int, PyData.canLayAll0 (ns.map PyData.int) = true
  | [] => rfl
  | n :: r => by
    show (PyData.canLay0 (.int n) && PyData.canLayAll0 (r.map PyData.int)) = true
    rw [can_ints r]
    rfl
theorem depth_ints : ∀ ns : List Int, PyData.depthAll (ns.map PyData.int) ≤ 1
  | [] => by decide
  | n :: r => by
    have := depth_ints r
    show max (PyData.depth (.int n)) (PyData.depthAll (r.map PyData.int)) ≤ 1
    refine Nat.max_le.mpr ⟨?_, this⟩
    rw [PyData.depth]
    all_goals decide
theorem shaped_ints (ns : List Int) : SeqAt.shaped (.list (ns.map PyData.int)) = true := by
  have h1 : PyData.canLay0 (.list (ns.map PyData.int)) = true := can_ints ns
  have h2 : (PyData.list (ns.map PyData.int)).depth ≤ 64 := by
    have := depth_ints ns
    rw [PyData.depth]
    omega
  show (PyData.canLay0 (.list (ns.map PyData.int)) && decide ((PyData.list (ns.map PyData.int)).depth ≤ 64)) = true
  rw [h1, decide_eq_true h2]
  rfl
theorem dp_ints {K : PySem.W.Frag} {H : Hp} : ∀ ns : List Int, DpAll K H (ns.map V.int) (ns.map PyData.int)
  | [] => .nil
  | n :: r => .cons (.int n) (dp_ints r)
theorem eqv_nil (ns : List Int) : PyData.eqv (.list (ns.map PyData.int)) (.list []) = ns.isEmpty := by
  cases ns with
  | nil => rfl
  | cons n r => rfl
theorem len_pos {ns : List Int} (h : ns ≠ []) : (0 : Int) < ((ns.map V.int).length : Int) := by
  have hl : 0 < ns.length := List.length_pos_iff.mpr h
  rw [List.length_map]
  omega
theorem cell_at {ns : List Int} {t : Int} (ht : 0 ≤ t) (h : ns ≠ []) : ∃ z, atI (ns.map V.int) (t % ((ns.map V.int).length : Int)) = some (.int z) := by
  rw [List.length_map]
  have hl : 0 < ns.length := List.length_pos_iff.mpr h
  have h0 : 0 ≤ t % (ns.length : Int) := Int.emod_nonneg _ (by omega)
  have h1 : t % (ns.length : Int) < ns.length := Int.emod_lt_of_pos _ (by omega)
  obtain ⟨j, hj⟩ : ∃ j : Nat, t % (ns.length : Int) = (j : Int) := ⟨(t % (ns.length : Int)).toNat, by omega⟩
  have hjl : j < ns.length := by omega
  refine ⟨ns[j], ?_⟩
  rw [hj]
  exact atI_nat (by rw [List.getElem?_map, List.getElem?_eq_getElem hjl]; rfl)
def primes : List Int := [2147483629, 2147483647, 2147483587, 2147483563, 2147483579]
theorem prime_at {t : Int} (ht : 0 ≤ t) : ∃ z, atI (primes.map V.int) (t % 5) = some (.int z) ∧ 2147483500 < z ∧ z < 2147483648 := by
  have h0 : 0 ≤ t % 5 := Int.emod_nonneg _ (by omega)
  have h1 : t % 5 < 5 := Int.emod_lt_of_pos _ (by omega)
  have hc : t % 5 = 0 ∨ t % 5 = 1 ∨ t % 5 = 2 ∨ t % 5 = 3 ∨ t % 5 = 4 := by omega
  rcases hc with e | e | e | e | e <;> rw [e]
  · exact ⟨2147483629, rfl, by decide, by decide⟩
  · exact ⟨2147483647, rfl, by decide, by decide⟩
  · exact ⟨2147483587, rfl, by decide, by decide⟩
  · exact ⟨2147483563, rfl, by decide, by decide⟩
  · exact ⟨2147483579, rfl, by decide, by decide⟩
theorem hu64_of {A : Around} {k : Nat} (hr : Room k A) : A.units + 64 < cLine := hr.units
section
variable {P : Program} {w : World} {K : PySem.W.Frag} {mg : Str → Option Value} {base : Heap} {f : Addr} {fd : FuncData}
theorem ok_draw (F : FnP K "_law_draw" sDraw f fd) (T : TxB mg) : FnOk P w K mg base CX0 1 f fd ["_law_pen_here", "_law_many"] spDraw := by
  refine F.ok scDraw (fun vs H Q E h => ?_) (fun cdv A outer s H vs Q E hr h => ?_)
  · obtain ⟨p, c, ns, t, l, m, rfl, _⟩ := h
    rfl
  · obtain ⟨p, c, ns, t, l, m, rfl, D, ht, m0, m1, k⟩ := h
    have hu := hu_of hr
    have hu64 := hu64_of hr
    have nd := scDraw.nd
    refine ⟨_, PSs.nox (pss_cons (ps_if (pt_cmpR op_gt (pe_dget hu (pv 0) pe_str (fun _ _ => rfl)) pe_int (nomark _))
        (pss_cons (ps_set (i := 2) nd rfl (Or.inl rfl) (pe_op op_mod (pe_callTy call_int1 (by rfl) T.int (by decide +kernel) (pa_cons (pe_dget hu (pv 0) pe_str (fun _ _ => rfl)) pa_nil)) (pv 1)))
      (pss_cons (ps_dput hu (pv 0) pe_str (pe_op op_fdiv (pe_dget hu (pv 0) pe_str (fun _ _ => rfl)) (pv 1)) rfl)
      (pss_one (ps_ret (pv 2))))) pss_nil)
      (pss_cons (ps_set (i := 3) nd rfl (Or.inl rfl) (pe_dget hu (pv 0) pe_str (fun _ _ => rfl)))
      (pss_cons (ps_dput hu (pv 0) pe_str (pe_op op_add (pv 3) pe_int) rfl)
      (pss_cons (ps_set (i := 4) nd rfl (Or.inl rfl) (pe_op op_add (pe_op op_mul pe_int (pv 3)) pe_int))
      (pss_cons (ps_if (pt_cmpR (op_neD hu64) (pe_dget hu (pv 0) pe_str (fun _ _ => rfl)) (pe_lst pa_nil) (nomark _))
        (pss_one (ps_set (i := 4) nd rfl (Or.inl rfl) (pe_ix ix_list (pe_dget hu (pv 0) pe_str (fun _ _ => rfl)) (pe_op op_mod (pe_callTy call_int1 (by rfl) T.int (by decide +kernel) (pa_cons (pv 3) pa_nil)) (pe_callB call_len_seq (by rfl) T.len PySem.boot_len (pa_cons (pe_dget hu (pv 0) pe_str (fun _ _ => rfl)) pa_nil))) (fun _ _ => rfl)))) pss_nil)
      (pss_cons (ps_if (PW.pt (pw_and (pt_cmpR op_lt (pv 3) (pe_callB call_len_seq (by rfl) T.len PySem.boot_len (pa_cons (pe_dget hu (pv 0) pe_str (fun _ _ => rfl)) pa_nil)) (nomark _)) (pw_and1 (pt_cmpR op_ge (pe_callB call_abs (by rfl) T.abs (by decide +kernel) (pa_cons (pv 4) pa_nil)) (pe_op op_pow pe_int pe_int) (nomark _)))))
        (pss_cons (ps_dput hu (pv 0) pe_str (pe_op op_fdiv (pe_op op_sub (pe_callB call_abs (by rfl) T.abs (by decide +kernel) (pa_cons (pv 4) pa_nil)) (pe_op op_pow pe_int pe_int)) (pv 1)) rfl)
      (pss_one (ps_ret (pe_op op_mod (pe_op op_sub (pe_callB call_abs (by rfl) T.abs (by decide +kernel) (pa_cons (pv 4) pa_nil)) (pe_op op_pow pe_int pe_int)) (pv 1))))) pss_nil)
      (pss_cons (ps_set (i := 5) nd rfl (Or.inl rfl) (pe_lst (pa_cons pe_int (pa_cons pe_int (pa_cons pe_int (pa_cons pe_int (pa_cons pe_int pa_nil)))))))
      (pss_cons (ps_set (i := 6) nd rfl (Or.inl rfl) (pe_ix ix_list (pv 5) (pe_op op_mod (pe_callTy call_int1 (by rfl) T.int (by decide +kernel) (pa_cons (pv 3) pa_nil)) pe_int) (fun _ _ => rfl)))
      (pss_cons (ps_set (i := 7) nd rfl (Or.inl rfl) (pe_op op_mod (pe_callTy call_int1 (by rfl) T.int (by decide +kernel) (pa_cons (pe_op op_add (pe_op op_add (pe_op op_mul (pe_op op_mod (pe_callTy call_int1 (by rfl) T.int (by decide +kernel) (pa_cons (pv 4) pa_nil)) (pv 6)) pe_int) (pe_op op_mul (pv 3) (pe_op op_add (pe_op op_mul pe_int (pv 3)) pe_int))) pe_int) pa_nil)) (pv 6)))
      (pss_cons (ps_set (i := 7) nd rfl (Or.inl rfl) (pe_op op_mod (pe_callTy call_int1 (by rfl) T.int (by decide +kernel) (pa_cons (pe_op op_mul (pv 7) (pe_op op_add (pv 7) pe_int)) pa_nil)) (pe_ix ix_list (pv 5) (pe_op op_mod (pe_callTy call_int1 (by rfl) T.int (by decide +kernel) (pa_cons (pe_op op_add (pv 3) pe_int) pa_nil)) pe_int) (fun _ _ => rfl))))
      (pss_one (ps_ret (pe_op op_mod (pe_callTy call_int1 (by rfl) T.int (by decide +kernel) (pa_cons (pe_op op_fdiv (pe_op op_mod (pe_callTy call_int1 (by rfl) T.int (by decide +kernel) (pa_cons (pe_op op_add (pe_op op_add (pe_op op_mul (pv 7) (pv 7)) (pe_op op_mul pe_int (pv 7))) (pv 3)) pa_nil)) pe_int) pe_int) pa_nil)) (pv 1)))))))))))))), ?_⟩
    have hpc : c ≠ p := ne_of D.c D.d (by intro z; cases z)
    have reP : ∀ {H' : Hp} {t' l' : Int}, But p H H' → 0 ≤ t' → 0 ≤ l' → H' p = some (.dK (penK c t' l')) → PenAt H' p c ns t' l' := fun b h1 h2 h3 => ⟨h3, b c _ hpc D.c, h1, h2, D.hn⟩
    -- left > 0
    refine ⟨_, rfl, p, .int l, rfl, get_left D.d, _, _, rfl, rfl, _, rfl, ?_⟩
    refine ite2 (fun _ => ?_) (fun _ => ?_)
    · refine ⟨_, rfl, p, .int l, rfl, get_left D.d, .inl ⟨l, rfl, _, rfl, _, _, rfl, rfl, m0, ?_⟩⟩
      refine ⟨_, rfl, p, .int l, rfl, get_left D.d, _, rfl, _, _, rfl, rfl, ⟨m0, m1⟩, _, rfl, p, _, rfl, set_left D.d _, ?_⟩
      refine ⟨_, rfl, ?_⟩
      have b : But p H (upd H p (.dK (penK c t (l / m)))) := (But.refl p H).put
      exact k (l % m) t (l / m) _ (Int.emod_nonneg _ (by omega)) (Int.emod_lt_of_pos _ m0) (by omega) (reP b D.ht (Int.ediv_nonneg D.hl (by omega)) upd_same) b
    · refine ⟨_, rfl, p, .int t, rfl, get_turn D.d, ?_⟩
      refine ⟨_, rfl, _, _, rfl, rfl, _, rfl, p, _, rfl, set_turn D.d _, ?_⟩
      have b1 : But p H (upd H p (.dK (penK c (t + 1) l))) := (But.refl p H).put
      generalize hH1 : upd H p (.dK (penK c (t + 1) l)) = H1 at b1 ⊢
      have d1 : H1 p = some (.dK (penK c (t + 1) l)) := by rw [← hH1]; exact upd_same
      have D1 := reP b1 (by have := D.ht; omega) D.hl d1
      refine ⟨_, rfl, _, _, rfl, rfl, .inl ⟨by decide, by decide⟩, _, _, rfl, rfl, ?_⟩
      refine ⟨_, rfl, p, .ref c, rfl, get_cells d1, (by show 0 ≤ sizeLine; decide), fun q hq => ⟨.list (ns.map .int), .list [], .lst (SqL.of (by rw [upd_ne (ne_of_none D1.c hq)]; exact D1.c)) (dp_ints ns), .lst (SqL.of upd_same) .nil, shaped_ints ns, rfl, _, rfl, ?_⟩⟩
      have b2 : But p H (upd H1 q (.lst [])) := b1.anew hq
      have d2 : (upd H1 q (.lst [])) p = some (.dK (penK c (t + 1) l)) := by rw [upd_ne (ne_of_none d1 hq)]; exact d1
      generalize upd H1 q (.lst []) = H2 at b2 d2 ⊢
      have D2 := reP b2 (by have := D.ht; omega) D.hl d2
      have c2 := D2.c
      have t0 := D.ht
      rw [eqv_nil]
      by_cases hns : ns = []
      all_goals
        first
          | (refine itF (by rw [hns]; rfl) ?_
             dsimp only
             generalize 43 * t + 19 = z)
          | (refine itT (by cases ns with | nil => exact absurd rfl hns | cons _ _ => rfl) ?_
             obtain ⟨z, hz⟩ := cell_at (ns := ns) t0 hns
             refine ⟨_, rfl, p, .ref c, rfl, get_cells d2, _, rfl, .inl ⟨t, rfl, _, rfl, p, .ref c, rfl, get_cells d2, c, ns.map V.int, rfl, .inl (SqL.of c2), _, _, rfl, rfl, len_pos hns, c, ns.map V.int, _, .int z, rfl, rfl, SqL.of c2, hz, ?_⟩⟩)
        refine ⟨_, rfl, _, rfl, p, .ref c, rfl, get_cells d2, c, _, rfl, .inl (SqL.of c2), _, _, rfl, rfl, _, rfl, ?_⟩
        refine ite2 (fun _ => ?_) (fun _ => ?_)
        · refine ⟨_, rfl, _, rfl, _, _, rfl, rfl, ⟨by decide, by decide, by decide⟩, _, _, rfl, rfl, _, rfl, ?_⟩
          refine ite2 (fun hge => ?_) (fun _ => ?_)
          · have hge' := of_decide_eq_true hge
            refine ⟨_, rfl, _, rfl, _, _, rfl, rfl, ⟨by decide, by decide, by decide⟩, _, _, rfl, rfl, _, rfl, _, _, rfl, rfl, ⟨m0, m1⟩, _, rfl, p, _, rfl, set_left d2 _, ?_⟩
            refine ⟨_, rfl, _, rfl, _, _, rfl, rfl, ⟨by decide, by decide, by decide⟩, _, _, rfl, rfl, _, rfl, _, _, rfl, rfl, m0, ?_⟩
            have b3 := b2.put (o := .dK (penK c (t + 1) (((if z < 0 then -z else z) - 10 ^ (18 : Int).toNat) / m)))
            exact k _ (t + 1) _ _ (Int.emod_nonneg _ (by omega)) (Int.emod_lt_of_pos _ m0) (Int.le_refl _) (reP b3 (by omega) (Int.ediv_nonneg (Int.sub_nonneg_of_le hge') (by omega)) upd_same) b3
          · obtain ⟨pr, hpr, p0, p1⟩ := prime_at t0
            obtain ⟨ps, hps, p2, p3⟩ := prime_at (t := t + 2) (by omega)
            refine ⟨(by show 5 ≤ sizeLine; decide), fun q5 h5 => ?_⟩
            have b3 := b2.anew (o := .lst (primes.map V.int)) h5
            have d3 : (upd H2 q5 (.lst (primes.map V.int))) p = some (.dK (penK c (t + 1) l)) := by rw [upd_ne (ne_of_none d2 h5)]; exact d2
            have l5 : SqL K (upd H2 q5 (.lst (primes.map V.int))) q5 (primes.map V.int) := SqL.of upd_same
            refine ⟨_, rfl, _, rfl, .inl ⟨t, rfl, _, _, rfl, rfl, (by show (0 : Int) < 5; decide), q5, _, _, .int pr, rfl, rfl, l5, hpr, ?_⟩⟩
            have e0 := Int.emod_nonneg z (b := pr) (by omega)
            have e1 := Int.emod_lt_of_pos z (b := pr) (by omega)
            refine ⟨_, rfl, .inl ⟨z, rfl, _, rfl, _, _, rfl, rfl, (by show 0 < pr; omega), _, _, rfl, rfl, .inl ⟨by omega, by omega⟩, _, rfl, _, rfl, _, _, rfl, rfl, .inl ⟨by decide, by decide⟩, _, _, rfl, rfl, _, _, rfl, rfl, .inl ⟨by omega, by omega⟩, _, _, rfl, rfl, _, _, rfl, rfl, .inl ⟨_, rfl, _, rfl, _, _, rfl, rfl, (by show 0 < pr; omega), ?_⟩⟩⟩
            dsimp only
            generalize hd : (z % pr * 39373 + t * (30011 * t + 8117) + 23) % pr = d
            have f0 : 0 ≤ d := by rw [← hd]; exact Int.emod_nonneg _ (by omega)
            have f1 : d < pr := by rw [← hd]; exact Int.emod_lt_of_pos _ (by omega)
            refine ⟨_, rfl, _, rfl, _, _, rfl, rfl, _, _, rfl, rfl, .inl ⟨by omega, by omega⟩, .inl ⟨_, rfl, _, rfl, _, rfl, _, _, rfl, rfl, .inl ⟨_, rfl, _, _, rfl, rfl, (by show (0 : Int) < 5; decide), q5, _, _, .int ps, rfl, rfl, l5, hps, _, _, rfl, rfl, (by show 0 < ps; omega), ?_⟩⟩⟩
            dsimp only
            generalize hg : d * (d + 69621) % ps = g
            have g0 : 0 ≤ g := by rw [← hg]; exact Int.emod_nonneg _ (by omega)
            have g1 : g < ps := by rw [← hg]; exact Int.emod_lt_of_pos _ (by omega)
            refine ⟨_, rfl, _, rfl, _, _, rfl, rfl, .inl ⟨by omega, by omega⟩, _, rfl, _, _, rfl, rfl, .inl ⟨by decide, by decide⟩, _, _, rfl, rfl, _, rfl, _, _, rfl, rfl, .inl ⟨_, rfl, _, _, rfl, rfl, (by show (0 : Int) < 2147483549; decide), _, _, rfl, rfl, ⟨by decide, by decide⟩, .inl ⟨_, rfl, _, rfl, _, _, rfl, rfl, m0, ?_⟩⟩⟩
            exact k _ (t + 1) l _ (Int.emod_nonneg _ (by omega)) (Int.emod_lt_of_pos _ m0) (Int.le_refl _) (reP b3 (by omega) D.hl d3) b3
        · refine iteF ?_
          obtain ⟨pr, hpr, p0, p1⟩ := prime_at t0
          obtain ⟨ps, hps, p2, p3⟩ := prime_at (t := t + 2) (by omega)
          refine ⟨(by show 5 ≤ sizeLine; decide), fun q5 h5 => ?_⟩
          have b3 := b2.anew (o := .lst (primes.map V.int)) h5
          have d3 : (upd H2 q5 (.lst (primes.map V.int))) p = some (.dK (penK c (t + 1) l)) := by rw [upd_ne (ne_of_none d2 h5)]; exact d2
          have l5 : SqL K (upd H2 q5 (.lst (primes.map V.int))) q5 (primes.map V.int) := SqL.of upd_same
          refine ⟨_, rfl, _, rfl, .inl ⟨t, rfl, _, _, rfl, rfl, (by show (0 : Int) < 5; decide), q5, _, _, .int pr, rfl, rfl, l5, hpr, ?_⟩⟩
          have e0 := Int.emod_nonneg z (b := pr) (by omega)
          have e1 := Int.emod_lt_of_pos z (b := pr) (by omega)
          refine ⟨_, rfl, .inl ⟨z, rfl, _, rfl, _, _, rfl, rfl, (by show 0 < pr; omega), _, _, rfl, rfl, .inl ⟨by omega, by omega⟩, _, rfl, _, rfl, _, _, rfl, rfl, .inl ⟨by decide, by decide⟩, _, _, rfl, rfl, _, _, rfl, rfl, .inl ⟨by omega, by omega⟩, _, _, rfl, rfl, _, _, rfl, rfl, .inl ⟨_, rfl, _, rfl, _, _, rfl, rfl, (by show 0 < pr; omega), ?_⟩⟩⟩
          dsimp only
          generalize hd : (z % pr * 39373 + t * (30011 * t + 8117) + 23) % pr = d
          have f0 : 0 ≤ d := by rw [← hd]; exact Int.emod_nonneg _ (by omega)
          have f1 : d < pr := by rw [← hd]; exact Int.emod_lt_of_pos _ (by omega)
          refine ⟨_, rfl, _, rfl, _, _, rfl, rfl, _, _, rfl, rfl, .inl ⟨by omega, by omega⟩, .inl ⟨_, rfl, _, rfl, _, rfl, _, _, rfl, rfl, .inl ⟨_, rfl, _, _, rfl, rfl, (by show (0 : Int) < 5; decide), q5, _, _, .int ps, rfl, rfl, l5, hps, _, _, rfl, rfl, (by show 0 < ps; omega), ?_⟩⟩⟩
          dsimp only
          generalize hg : d * (d + 69621) % ps = g
          have g0 : 0 ≤ g := by rw [← hg]; exact Int.emod_nonneg _ (by omega)
          have g1 : g < ps := by rw [← hg]; exact Int.emod_lt_of_pos _ (by omega)
          refine ⟨_, rfl, _, rfl, _, _, rfl, rfl, .inl ⟨by omega, by omega⟩, _, rfl, _, _, rfl, rfl, .inl ⟨by decide, by decide⟩, _, _, rfl, rfl, _, rfl, _, _, rfl, rfl, .inl ⟨_, rfl, _, _, rfl, rfl, (by show (0 : Int) < 2147483549; decide), _, _, rfl, rfl, ⟨by decide, by decide⟩, .inl ⟨_, rfl, _, rfl, _, _, rfl, rfl, m0, ?_⟩⟩⟩
          exact k _ (t + 1) l _ (Int.emod_nonneg _ (by omega)) (Int.emod_lt_of_pos _ m0) (Int.le_refl _) (reP b3 (by omega) D.hl d3) b3
end
end K02
set_option Elab.async false
set_option linter.all false
set_option maxRecDepth 100000
set_option maxHeartbeats 4000000
namespace K02
open K34 PySem PySem.Spec PyProof.Rows L2
theorem cut_ints (ns : List Int) (lo hi : Option Int) : ∃ ms : List Int, cutV (ns.map V.int) lo hi = ms.map V.int ∧ ms.length ≤ ns.length := by
  refine ⟨(ns.drop (HT.sIx (ns.map V.int).length 0 lo)).take (HT.sIx (ns.map V.int).length (ns.map V.int).length hi - HT.sIx (ns.map V.int).length 0 lo), ?_, ?_⟩
  · unfold cutV
    rw [List.map_take, List.map_drop]
  · rw [List.length_take, List.length_drop]
    omega
theorem But.seq {K : PySem.W.Frag} {p o : Addr} {H H' : Hp} {xs : List V} {kvs : List (Key × V)} (b : But p H H') (hp : H p = some (.dK kvs)) (h : SqL K H o xs) : SqL K H' o xs := by
  rcases h with (h | ⟨u, h⟩) | h
  · exact .inl (.inl (b _ _ (ne_of h hp (by intro z; cases z)) h))
  · exact .inl (.inr ⟨u, b _ _ (ne_of h hp (by intro z; cases z)) h⟩)
  · exact .inr h
theorem up {H : Hp} {q b : Addr} {o u : HO} (h : H b = some u) (n : H q = none) : upd H q o b = some u := by rw [upd_ne (ne_of_none h n)]; exact h
def spPen (K : PySem.W.Frag) : Sp := fun vs H Q _ => ∃ (a : Addr) (ns : List Int), vs = [.ref a] ∧ SqL K H a (ns.map V.int) ∧ ns.length ≤ 63 ∧ ∀ (p c : Addr) (ms : List Int) (H' : Hp), PenAt H' p c ms 0 0 → Same H H' → Q (.ref p) H'
theorem scPen : FnScope ["_law_script"] ["_law_script"] (defScope sPen) := ⟨rfl, rfl, rfl, by decide +kernel, rfl, by decide +kernel, by decide +kernel⟩
def spPick (K : PySem.W.Frag) : Sp := fun vs H Q _ => ∃ (p c o : Addr) (ns : List Int) (t l : Int) (xs : List V), vs = [.ref p, .ref o] ∧ PenAt H p c ns t l ∧ t < 1000000000000 ∧ SqL K H o xs ∧ xs ≠ [] ∧ xs.length < 1000000 ∧
  ∀ (x : V) (t' l' : Int) (H' : Hp), x ∈ xs → t' ≤ t + 1 → PenAt H' p c ns t' l' → But p H H' → Q x H'
theorem scPick : FnScope ["_law_pen_here", "_law_options"] ["_law_pen_here", "_law_options"] (defScope sPick) := ⟨rfl, rfl, rfl, by decide +kernel, rfl, by decide +kernel, by decide +kernel⟩
section
variable {P : Program} {w : World} {K : PySem.W.Frag} {mg : Str → Option Value} {base : Heap} {f fD : Addr} {fd fdD : FuncData}
theorem merge_pen (c : Addr) : mergeK [] [((.inr ("cells" : Str) : Key), V.ref c), (.inr ("turn" : Str), .int 0), (.inr ("left" : Str), .int 0)] = penK c 0 0 := by kernel_rfl
theorem ok_pen (F : FnP K "_law_pen" sPen f fd) (T : TxB mg) : FnOk P w K mg base CX0 1 f fd ["_law_script"] (spPen K) := by
  refine F.ok scPen (fun vs H Q E h => ?_) (fun cdv A outer s H vs Q E hr h => ?_)
  · obtain ⟨a, ns, rfl, _⟩ := h
    rfl
  · obtain ⟨a, ns, rfl, hs, hn, k⟩ := h
    have hu := hu_of hr
    have nd := scPen.nd
    refine ⟨_, PSs.nox (pss_one (ps_ret (pe_disp (pps_cons pe_str (pe_callTy call_list_of (by rfl) T.list (by decide +kernel) (pa_cons (pe_slice sl_list (pv 0) po_none (po_some pe_int)) pa_nil)) (pps_cons pe_str pe_int (pps_cons pe_str pe_int pps_nil))) (by rfl) (by rfl) (fun z => by cases z) (by decide)))), ?_⟩
    refine fun p hp => ?_
    have s1 : Same H (upd H p (.dK [])) := same_new (Same.refl H) hp
    have d1 : (upd H p (.dK [])) p = some (.dK []) := upd_same
    generalize upd H p (.dK []) = H1 at s1 d1 ⊢
    refine ⟨_, rfl, _, rfl, a, _, rfl, s1.seq hs, fun q hq => ?_⟩
    obtain ⟨ms, e1, e2⟩ := cut_ints ns none (some 63)
    have s2 : Same H1 (upd H1 q (.lst (cutV (ns.map V.int) none (some 63)))) := same_new (Same.refl H1) hq
    have l2 : (upd H1 q (.lst (cutV (ns.map V.int) none (some 63)))) q = some (.lst (ms.map V.int)) := by rw [e1]; exact upd_same
    generalize upd H1 q (.lst (cutV (ns.map V.int) none (some 63))) = H2 at s2 l2 ⊢
    refine ⟨q, _, rfl, .inl (SqL.of l2), fun c hc => ?_⟩
    have s3 : Same H2 (upd H2 c (.lst (ms.map V.int))) := same_new (Same.refl H2) hc
    have l3 : (upd H2 c (.lst (ms.map V.int))) c = some (.lst (ms.map V.int)) := upd_same
    have d3 := s3 _ _ (s2 _ _ d1)
    have sA : Same H (upd H2 c (.lst (ms.map V.int))) := (s1.trans s2).trans s3
    have hpp := hp
    generalize upd H2 c (.lst (ms.map V.int)) = H3 at s3 l3 d3 sA ⊢
    refine ⟨d3, [((.inr ("cells" : Str) : Key), V.ref c), (.inr ("turn" : Str), .int 0), (.inr ("left" : Str), .int 0)], rfl, (by show 3 ≤ 15; decide), ?_⟩
    refine k p c ms _ ⟨by rw [merge_pen]; exact upd_same, ?_, Int.le_refl _, Int.le_refl _, by omega⟩ (fun b o e => ?_)
    · rw [upd_ne (ne_of l3 d3 (by intro z; cases z))]
      exact l3
    · rw [upd_ne (ne_of_none e hp)]
      exact sA b o e
theorem ok_pick (F : FnP K "_law_pick" sPick f fd) (T : TxB mg) (FD : FnP K "_law_draw" sDraw fD fdD) (gD : mg "_law_draw" = some (.ref fD)) : FnOk P w K mg base CX0 2 f fd ["_law_pen_here", "_law_options"] (spPick K) := by
  have GD : FnOk P w K mg base CX0 1 fD fdD ["_law_pen_here", "_law_many"] spDraw := ok_draw FD T
  have bD : Binds K fdD ["_law_pen_here", "_law_many"] [] := FD.bindsN fun _ _ _ _ _ _ us hl => match us, hl with | [_, _], _ => rfl
  have kD := FD.kp
  refine F.ok scPick (fun vs H Q E h => ?_) (fun cdv A outer s H vs Q E hr h => ?_)
  · obtain ⟨p, c, o, ns, t, l, xs, rfl, _⟩ := h
    rfl
  · obtain ⟨p, c, o, ns, t, l, xs, rfl, D, ht, hs, hx, hl, k⟩ := h
    have hu := hu_of hr
    have nd := scPick.nd
    refine ⟨_, PSs.nox (pss_one (ps_ret (pe_ix ix_list (pv 1) (pe_call GD hr rfl gD kD bD .nil pass0 (pa_cons (pv 0) (pa_cons (pe_callB call_len_seq (by rfl) T.len PySem.boot_len (pa_cons (pv 1) pa_nil)) pa_nil))) (fun _ _ => rfl)))), ?_⟩
    have hpos : 0 < xs.length := List.length_pos_iff.mpr hx
    refine ⟨_, rfl, _, rfl, _, rfl, o, xs, rfl, .inl hs, p, c, ns, t, l, _, rfl, D, ht, by omega, by omega, fun j t' l' H' j0 j1 h1 D' b => ?_⟩
    obtain ⟨n, rfl⟩ : ∃ n : Nat, j = (n : Int) := ⟨j.toNat, by omega⟩
    have hjl : n < xs.length := by omega
    exact ⟨o, xs, (n : Int), xs[n], rfl, rfl, b.seq D.d hs, atI_nat (List.getElem?_eq_getElem hjl), k _ t' l' H' (List.getElem_mem hjl) h1 D' b⟩
end
end K02
set_option Elab.async false
set_option linter.all false
set_option maxRecDepth 100000
set_option maxHeartbeats 4000000
namespace K02
open K34 PySem PySem.Spec PyProof.Rows L2
/-! ### any value: its type, what is asked of it -/
def tyName : PyData → String
  | .none => "NoneType" | .bool _ => "bool" | .int _ => "int" | .str _ => "str" | .list _ => "list" | .tuple _ => "tuple" | .dict _ => "dict"
def isS : PyData → Bool
  | .str _ => true | _ => false
def isB : PyData → Bool
  | .bool _ => true | _ => false
def isI : PyData → Bool
  | .bool _ => true | .int _ => true | _ => false
theorem th_ty {K : PySem.W.Frag} {H : Hp} {v : V} {d : PyData} (t : Th K H v d) : TyX K H v (.type (tyName d)) := by
  cases t with
  | dp h n =>
    cases h with
    | non => exact .base .non
    | bl b => exact .base (.bl b)
    | int i => exact .base (.int i)
    | str x => exact .base (.str x)
    | lst h _ =>
      rcases h with (h | ⟨o, h⟩) | ⟨o, its, n, hk, hc, _⟩
      · exact .base (.lst h)
      · exact .base (.frz h)
      · exact .kList hk hc
    | tup h _ =>
      rcases h with (h | ⟨o, h⟩) | ⟨o, its, n, hk, hc, _⟩
      · exact .base (.tup h)
      · exact .fTuple h
      · exact .kTuple hk hc
  | d0 h => exact .base (.dK h)
  | d1 h => exact .base (.dK h)
theorem kit_str : ∀ d : PyData, kitB (tyName d) "str" = some (isS d)
  | .none => (by decide +kernel : kitB "NoneType" "str" = some false)
  | .bool _ => (by decide +kernel : kitB "bool" "str" = some false)
  | .int _ => (by decide +kernel : kitB "int" "str" = some false)
  | .str _ => (by decide +kernel : kitB "str" "str" = some true)
  | .list _ => (by decide +kernel : kitB "list" "str" = some false)
  | .tuple _ => (by decide +kernel : kitB "tuple" "str" = some false)
  | .dict _ => (by decide +kernel : kitB "dict" "str" = some false)
theorem kit_bool : ∀ d : PyData, kitB (tyName d) "bool" = some (isB d)
  | .none => (by decide +kernel : kitB "NoneType" "bool" = some false)
  | .bool _ => (by decide +kernel : kitB "bool" "bool" = some true)
  | .int _ => (by decide +kernel : kitB "int" "bool" = some false)
  | .str _ => (by decide +kernel : kitB "str" "bool" = some false)
  | .list _ => (by decide +kernel : kitB "list" "bool" = some false)
  | .tuple _ => (by decide +kernel : kitB "tuple" "bool" = some false)
  | .dict _ => (by decide +kernel : kitB "dict" "bool" = some false)
theorem kit_int : ∀ d : PyData, kitB (tyName d) "int" = some (isI d)
  | .none => (by decide +kernel : kitB "NoneType" "int" = some false)
  | .bool _ => (by decide +kernel : kitB "bool" "int" = some true)
  | .int _ => (by decide +kernel : kitB "int" "int" = some true)
  | .str _ => (by decide +kernel : kitB "str" "int" = some false)
  | .list _ => (by decide +kernel : kitB "list" "int" = some false)
  | .tuple _ => (by decide +kernel : kitB "tuple" "int" = some false)
  | .dict _ => (by decide +kernel : kitB "dict" "int" = some false)
theorem th_str {K : PySem.W.Frag} {H : Hp} {v : V} {x : Str} (t : Th K H v (.str x)) : v = .str x := by
  cases t with
  | dp h n => cases h; rfl
theorem th_int {K : PySem.W.Frag} {H : Hp} {v : V} {i : Int} (t : Th K H v (.int i)) : v = .int i := by
  cases t with
  | dp h n => cases h; rfl
theorem th_bool {K : PySem.W.Frag} {H : Hp} {v : V} {b : Bool} (t : Th K H v (.bool b)) : v = .bl b := by
  cases t with
  | dp h n => cases h; rfl
theorem th_none {K : PySem.W.Frag} {H : Hp} {v : V} (t : Th K H v .none) : v = .non := by
  cases t with
  | dp h n => cases h; rfl
/-- a sign from a to z; a word; a number -/
def lowN (c : Nat) : Bool := decide (97 ≤ c) && decide (c ≤ 122)
def wordS (x : Str) : Bool := decide (1 ≤ x.length) && (decide (x.length ≤ 8) && x.cps.toList.all lowN)
def isW : PyData → Bool
  | .str x => wordS x | _ => false
def isN : PyData → Bool
  | .int i => decide (-(10 ^ 30) ≤ i) && decide (i ≤ 10 ^ 30) | _ => false
/-- texts are not long -/
def sOk : PyData → Bool
  | .str x => decide (x.length ≤ 1000) && PyData.strOk x | _ => true
structure TxW (mg : Str → Option Value) : Prop extends TxB mg where
  isi : mg "isinstance" = none
  str : mg "str" = none
  bool : mg "bool" = none
  all : mg "all" = none
  maxN : ∃ t, mg "MAX_NUMBER" = some (.int 1000000000000000000000000000000 t)
  maxL : ∃ t, mg "MAX_LETTERS" = some (.int 8 t)
def spNum (K : PySem.W.Frag) : Sp := fun vs H Q _ => ∃ (v : V) (d : PyData), vs = [v] ∧ Th K H v d ∧ Q (.bl (isN d)) H
def spWord (K : PySem.W.Frag) : Sp := fun vs H Q _ => ∃ (v : V) (d : PyData), vs = [v] ∧ Th K H v d ∧ sOk d = true ∧ ∀ H', Same H H' → Q (.bl (isW d)) H'
theorem scNum : FnScope ["value"] ["value"] (defScope sIsNumber) := ⟨rfl, rfl, rfl, by decide +kernel, rfl, by decide +kernel, by decide +kernel⟩
theorem scWord : FnScope ["value", "letter"] ["value"] (defScope sIsWord) := ⟨rfl, rfl, rfl, by decide +kernel, rfl, by decide +kernel, by decide +kernel⟩
theorem sgn_ge (c : Nat) : (!decide ((⟨#[c]⟩ : Str).cps.toList < ("a" : Str).cps.toList)) = decide (97 ≤ c) := by
  have e : ("a" : Str).cps.toList = [97] := by decide +kernel
  rw [e]
  show (!decide ([c] < [97])) = _
  by_cases h : 97 ≤ c
  · rw [decide_eq_true h, decide_eq_false (by intro z; rcases List.cons_lt_cons_iff.mp z with q | ⟨_, q⟩ <;> first | omega | exact absurd q (by simp))]
    rfl
  · rw [decide_eq_false h, decide_eq_true (List.cons_lt_cons_iff.mpr (.inl (by omega)))]
    rfl
theorem sgn_le (c : Nat) : (!decide (("z" : Str).cps.toList < (⟨#[c]⟩ : Str).cps.toList)) = decide (c ≤ 122) := by
  have e : ("z" : Str).cps.toList = [122] := by decide +kernel
  rw [e]
  show (!decide ([122] < [c])) = _
  by_cases h : c ≤ 122
  · rw [decide_eq_true h, decide_eq_false (by intro z; rcases List.cons_lt_cons_iff.mp z with q | ⟨_, q⟩ <;> first | omega | exact absurd q (by simp))]
    rfl
  · rw [decide_eq_false h, decide_eq_true (List.cons_lt_cons_iff.mpr (.inl (by omega)))]
    rfl
section
variable {P : Program} {w : World} {K : PySem.W.Frag} {mg : Str → Option Value} {base : Heap} {f fW : Addr} {fd fdW : FuncData}
theorem ok_num (F : FnP K "is_number" sIsNumber f fd) (T : TxW mg) : FnOk P w K mg base CX0 1 f fd ["value"] (spNum K) := by
  refine F.ok scNum (fun vs H Q E h => ?_) (fun cdv A outer s H vs Q E hr h => ?_)
  · obtain ⟨v, d, rfl, _⟩ := h
    rfl
  · obtain ⟨v, d, rfl, t, k⟩ := h
    have nd := scNum.nd
    obtain ⟨tN, hmaxN⟩ := T.maxN
    refine ⟨_, PSs.nox (pss_cons (ps_if (PW.pt (pw_or (pt_val (pe_callB call_isi (by rfl) T.isi (by decide +kernel) (pa_cons (pv 0) (pa_cons (pe_bltn (v := .ty "bool") (by rfl) T.bool (by decide +kernel) rfl) pa_nil)))) (pw_or1 (pt_not (pt_val (pe_callB call_isi (by rfl) T.isi (by decide +kernel) (pa_cons (pv 0) (pa_cons (pe_bltn (v := .ty "int") (by rfl) T.int (by decide +kernel) rfl) pa_nil))))))))
        (pss_one (ps_ret pe_bl)) pss_nil)
      (pss_one (ps_ret (pe_chain op_le op_le (pe_un un_neg (pe_glob (v := .int 1000000000000000000000000000000) rfl hmaxN ⟨_, rfl⟩)) (pv 0) (pe_glob (v := .int 1000000000000000000000000000000) rfl hmaxN ⟨_, rfl⟩))))), ?_⟩
    refine ⟨_, rfl, v, .ty "bool", .type (tyName d), _, isB d, rfl, .ty _, th_ty t, kit_ty (kit_bool d), _, rfl, ?_⟩
    cases hb : isB d with
    | true =>
      refine iteT ?_
      refine iteT ?_
      have e : isN d = false := by cases d <;> first | rfl | cases hb
      rw [e] at k
      exact k
    | false =>
      refine iteF ?_
      refine ⟨_, rfl, v, .ty "int", .type (tyName d), _, isI d, rfl, .ty _, th_ty t, kit_ty (kit_int d), _, rfl, ?_⟩
      cases hi : isI d with
      | false =>
        refine iteT ?_
        have e : isN d = false := by cases d <;> first | rfl | cases hi
        rw [e] at k
        exact k
      | true =>
        refine iteF ?_
        obtain ⟨i, rfl⟩ : ∃ i, d = .int i := by cases d <;> first | exact ⟨_, rfl⟩ | exact Bool.noConfusion hb | exact Bool.noConfusion hi
        cases th_int t
        refine ⟨_, rfl, _, rfl, _, _, rfl, rfl, _, rfl, ?_⟩
        refine ite2 (fun h1 => ?_) (fun h1 => ?_)
        · refine ⟨_, _, rfl, rfl, ?_⟩
          have h1 := of_decide_eq_true h1
          have e : isN (.int i) = decide (i ≤ 1000000000000000000000000000000) := by
            show (decide (-(10 ^ 30) ≤ i) && decide (i ≤ 10 ^ 30)) = _
            rw [decide_eq_true (by omega), Bool.true_and]
            rfl
          rw [e] at k
          exact k
        · have h1 := of_decide_eq_false (Bool.eq_false_iff.mpr h1)
          have e : isN (.int i) = false := by
            show (decide (-(10 ^ 30) ≤ i) && decide (i ≤ 10 ^ 30)) = false
            rw [decide_eq_false (by omega), Bool.false_and]
          rw [e] at k
          exact k
theorem ok_word (F : FnP K "is_word" sIsWord f fd) (T : TxW mg) : FnOk P w K mg base CX0 1 f fd ["value"] (spWord K) := by
  refine F.ok scWord (fun vs H Q E h => ?_) (fun cdv A outer s H vs Q E hr h => ?_)
  · obtain ⟨v, d, rfl, _⟩ := h
    rfl
  · obtain ⟨v, d, rfl, t, so, k⟩ := h
    have nd := scWord.nd
    obtain ⟨tL, hmaxL⟩ := T.maxL
    refine ⟨_, PSs.nox (pss_cons (ps_if (PW.pt (pw_or (pt_not (pt_val (pe_callB call_isi (by rfl) T.isi (by decide +kernel) (pa_cons (pv 0) (pa_cons (pe_bltn (v := .ty "str") (by rfl) T.str (by decide +kernel) rfl) pa_nil))))) (pw_or1 (pt_not (pt_chain op_le op_le pe_int (pe_callB call_len_str (by rfl) T.len (by decide +kernel) (pa_cons (pv 0) pa_nil)) (pe_glob (v := .int 8) rfl hmaxL ⟨_, rfl⟩))))))
        (pss_one (ps_ret pe_bl)) pss_nil)
      (pss_one (ps_ret (pe_callB (cr_all rfl) (by rfl) T.all (by decide +kernel) (pa_cons (pe_lc (own := [("letter", 1)]) (g := gName 1) (tt := tYes) rfl nd (pi_str (pv 0)) (blkOk_by (N := ["value", "letter"]) (sc := defScope sIsWord) (by decide +kernel)) (fun _ _ _ _ _ => pg_name (i := 1) nd rfl (Or.inl rfl)) (fun _ _ _ _ _ => pts_nil) (fun _ _ _ _ _ => pe_chain op_le_str op_le_str pe_str (pv 1) pe_str)) pa_nil))))), ?_⟩
    refine ⟨_, rfl, v, .ty "str", .type (tyName d), _, isS d, rfl, .ty _, th_ty t, kit_ty (kit_str d), _, rfl, ?_⟩
    have no : isW d = false → Q (.bl false) H := fun e => by
      have k := k H (Same.refl H)
      rw [e] at k
      exact k
    cases hs : isS d with
    | false =>
      refine iteT ?_
      refine iteT ?_
      exact no (by cases d <;> first | rfl | exact Bool.noConfusion hs)
    | true =>
      refine iteF ?_
      obtain ⟨x, rfl⟩ : ∃ x, d = .str x := by cases d <;> first | exact ⟨_, rfl⟩ | exact Bool.noConfusion hs
      cases th_str t
      have hx : x.length ≤ 1000 := of_decide_eq_true (Bool.and_eq_true_iff.mp so).1
      have hz : x.length ≤ sizeLine := by rw [sizeLine_eq]; omega
      refine ⟨_, rfl, _, rfl, hz, _, _, rfl, rfl, _, rfl, ?_⟩
      refine ite2 (fun h1 => ?_) (fun h1 => ?_)
      · have h1 := of_decide_eq_true h1
        refine ⟨_, _, rfl, rfl, _, rfl, ?_⟩
        refine ite2 (fun h2 => ?_) (fun h2 => ?_)
        · refine no ?_
          have h2 : decide ((x.length : Int) ≤ 8) = false := by simpa using h2
          have h2 := of_decide_eq_false h2
          show wordS x = false
          unfold wordS
          rw [decide_eq_false (show ¬ x.length ≤ 8 by omega), Bool.false_and, Bool.and_false]
        · have h2 : decide ((x.length : Int) ≤ 8) = true := by simpa using h2
          have h2 := of_decide_eq_true h2
          have e : isW (.str x) = x.cps.toList.all lowN := by
            show wordS x = _
            unfold wordS
            rw [decide_eq_true (show 1 ≤ x.length by omega), decide_eq_true (show x.length ≤ 8 by omega), Bool.true_and, Bool.true_and]
          refine ⟨_, rfl, x, rfl, fun D hD => ?_⟩
          refine lc_it (walk_str (z := x)) (fun i H6 => H6 D = some (.lst (((x.cps.toList.take i).map lowN).map V.bl)) ∧ Same H H6) ⟨upd_same, same_new (Same.refl H) hD⟩ (fun _ _ _ _ => True.intro) ?_ ?_
          · rintro i v' H6 H7 hi ⟨h3, h4⟩ ⟨rfl, c, hc, rfl⟩
            refine ⟨rfl, ?_⟩
            unfold tYes
            dsimp only
            refine iteT ?_
            have hDf : H D = none := hD
            have hcl : x.cps.toList[i]? = some c := by
              rw [Array.getElem?_toList]
              exact hc
            have more : ∀ b : Bool, b = lowN c → ∃ acc, H7 D = some (HO.lst acc) ∧ acc.length < sizeLine ∧ (upd H7 D (HO.lst (acc ++ [V.bl b]))) D = some (HO.lst (((x.cps.toList.take (i + 1)).map lowN).map V.bl)) ∧ Same H (upd H7 D (HO.lst (acc ++ [V.bl b]))) := by
              rintro b rfl
              refine ⟨_, h3, ?_, ?_, fun a o e' => ?_⟩
              · rw [List.length_map, List.length_map, List.length_take, sizeLine_eq]
                have : i < x.length := hi
                omega
              · rw [upd_same, List.take_add_one, hcl, List.map_append, List.map_append]
                rfl
              · rw [upd_ne (ne_of_none e' hDf)]
                exact h4 a o e'
            refine ⟨_, rfl, _, _, rfl, rfl, _, rfl, ?_⟩
            have g1 := sgn_ge c
            have g2 := sgn_le c
            rw [g1]
            by_cases q : 97 ≤ c
            · rw [decide_eq_true q]
              refine iteT ?_
              refine ⟨_, _, rfl, rfl, ?_⟩
              refine more _ ?_
              rw [g2]
              unfold lowN
              rw [decide_eq_true q, Bool.true_and]
            · rw [decide_eq_false q]
              refine iteF ?_
              refine more _ ?_
              unfold lowN
              rw [decide_eq_false q, Bool.false_and]
          · rintro H6 ⟨h3, h4⟩
            refine ⟨D, x.cps.toList.map lowN, rfl, ?_, ?_⟩
            · have e2 : x.cps.toList.take x.cps.size = x.cps.toList := by rw [← Array.length_toList, List.take_length]
              rw [e2] at h3
              exact SqL.of h3
            · have k := k H6 h4
              rw [e] at k
              rw [List.all_map]
              exact k
      · have h1 := of_decide_eq_false (Bool.eq_false_iff.mpr h1)
        have no' := no (by
          show wordS x = false
          unfold wordS
          rw [decide_eq_false (show ¬ 1 ≤ x.length by omega), Bool.false_and])
        refine ⟨false, rfl, ?_⟩
        dsimp only
        refine iteT ?_
        exact no'
end
end K02
set_option Elab.async false
set_option linter.all false
set_option maxRecDepth 100000
set_option maxHeartbeats 4000000
namespace K02
open K34 PySem PySem.Spec PyProof.Rows L2
def isNm : PyData → Bool
  | .str x => wordS x && !reserved.contains x | _ => false
structure TxN (K : PySem.W.Frag) (mg : Str → Option Value) : Prop extends TxW mg where
  gR : mg "RESERVED" = some (.ref (He.ga K "RESERVED"))
  tR : ∀ H : Hp, SqT K H (He.ga K "RESERVED") (reserved.map V.str)
def spName (K : PySem.W.Frag) : Sp := fun vs H Q _ => ∃ (v : V) (d : PyData), vs = [v] ∧ Th K H v d ∧ sOk d = true ∧ ∀ H', Same H H' → Q (.bl (isNm d)) H'
def spOf (K : PySem.W.Frag) : Sp := fun vs H Q _ => ∃ (z : Str) (v : V) (d : PyData), vs = [.str z, v] ∧ Th K H v d ∧ sOk d = true ∧ ∀ H', Same H H' → Q (.bl (if z = "word" then isW d else isN d)) H'
theorem scName : FnScope ["value"] ["value"] (defScope sIsName) := ⟨rfl, rfl, rfl, by decide +kernel, rfl, by decide +kernel, by decide +kernel⟩
theorem scLWord : FnScope ["_law_thing", "_law_sign"] ["_law_thing"] (defScope sLIsWord) := ⟨rfl, rfl, rfl, by decide +kernel, rfl, by decide +kernel, by decide +kernel⟩
theorem scOf : FnScope ["_law_sort", "_law_thing"] ["_law_sort", "_law_thing"] (defScope sIsOf) := ⟨rfl, rfl, rfl, by decide +kernel, rfl, by decide +kernel, by decide +kernel⟩
theorem inV_strs (x : Str) : ∀ l : List Str, inV (.str x) (l.map V.str) = l.contains x
  | [] => rfl
  | y :: r => by
    have ih := inV_strs x r
    show ((y == x) || inV (.str x) (r.map V.str)) = _
    rw [ih, List.contains_cons, Bool.beq_comm]
theorem flat_strs : ∀ l : List Str, (l.map V.str).all flatV = true
  | [] => rfl
  | _ :: r => flat_strs r
theorem abc_mem (c : Nat) : decide (c ∈ ("abcdefghijklmnopqrstuvwxyz" : Str).cps.toList) = lowN c := by
  have e : ("abcdefghijklmnopqrstuvwxyz" : Str).cps.toList = List.range' 97 26 := by decide +kernel
  rw [e]
  unfold lowN
  by_cases h : 97 ≤ c ∧ c ≤ 122
  · rw [decide_eq_true h.1, decide_eq_true h.2, decide_eq_true (List.mem_range'_1.mpr ⟨h.1, by omega⟩)]
    rfl
  · rw [decide_eq_false (fun z => h (by have := List.mem_range'_1.mp z; omega))]
    by_cases h1 : 97 ≤ c
    · rw [decide_eq_true h1, decide_eq_false (by omega)]
      rfl
    · rw [decide_eq_false h1]
      rfl
/-- the signs that are not from a to z -/
def odd (l : List Nat) : List Nat := l.filter fun c => !lowN c
def sgn (c : Nat) : V := .str ⟨#[c]⟩
theorem dp_sgn {K : PySem.W.Frag} {H : Hp} : ∀ l : List Nat, DpAll K H (l.map sgn) (l.map fun c => PyData.str ⟨#[c]⟩)
  | [] => .nil
  | c :: r => .cons (.str _) (dp_sgn r)
theorem can_sgn : ∀ l : List Nat, (∀ c ∈ l, c < 0x110000) → PyData.canLayAll0 (l.map fun c => PyData.str ⟨#[c]⟩) = true
  | [], _ => rfl
  | n :: r, h => by
    show (PyData.canLay0 (.str ⟨#[n]⟩) && PyData.canLayAll0 (r.map fun c => PyData.str ⟨#[c]⟩)) = true
    rw [can_sgn r fun c hc => h c (List.mem_cons_of_mem _ hc), Bool.and_true]
    show PyData.strOk ⟨#[n]⟩ = true
    unfold PyData.strOk
    simp [h n List.mem_cons_self]
theorem depth_sgn : ∀ l : List Nat, PyData.depthAll (l.map fun c => PyData.str ⟨#[c]⟩) ≤ 1
  | [] => by decide
  | n :: r => by
    have := depth_sgn r
    show max (PyData.depth (.str ⟨#[n]⟩)) (PyData.depthAll (r.map fun c => PyData.str ⟨#[c]⟩)) ≤ 1
    refine Nat.max_le.mpr ⟨?_, this⟩
    rw [PyData.depth]
    all_goals decide
theorem shaped_sgn (l : List Nat) (h : ∀ c ∈ l, c < 0x110000) : SeqAt.shaped (.list (l.map fun c => PyData.str ⟨#[c]⟩)) = true := by
  have h1 : PyData.canLay0 (.list (l.map fun c => PyData.str ⟨#[c]⟩)) = true := can_sgn l h
  have h2 : (PyData.list (l.map fun c => PyData.str ⟨#[c]⟩)).depth ≤ 64 := by
    have := depth_sgn l
    rw [PyData.depth]
    omega
  show (PyData.canLay0 (.list (l.map fun c => PyData.str ⟨#[c]⟩)) && decide ((PyData.list (l.map fun c => PyData.str ⟨#[c]⟩)).depth ≤ 64)) = true
  rw [h1, decide_eq_true h2]
  rfl
theorem eqv_sgn (l : List Nat) : PyData.eqv (.list (l.map fun c => PyData.str ⟨#[c]⟩)) (.list []) = l.isEmpty := by
  cases l with
  | nil => rfl
  | cons n r => rfl
theorem odd_none (l : List Nat) : (odd l).isEmpty = l.all lowN := by
  induction l with
  | nil => rfl
  | cons c r ih =>
    unfold odd at ih ⊢
    rw [List.filter_cons, List.all_cons]
    cases lowN c with
    | true => simpa using ih
    | false => rfl
section
variable {P : Program} {w : World} {K : PySem.W.Frag} {mg : Str → Option Value} {base : Heap} {f fW : Addr} {fd fdW : FuncData}
theorem ok_name (F : FnP K "is_name" sIsName f fd) (T : TxN K mg) (FW : FnP K "is_word" sIsWord fW fdW) (gW : mg "is_word" = some (.ref fW)) : FnOk P w K mg base CX0 2 f fd ["value"] (spName K) := by
  have GW : FnOk P w K mg base CX0 1 fW fdW ["value"] (spWord K) := ok_word FW T.toTxW
  have bW : Binds K fdW ["value"] [] := FW.bindsN fun _ _ _ _ _ _ us hl => match us, hl with | [_], _ => rfl
  have kW := FW.kp
  have gR := T.gR
  refine F.ok scName (fun vs H Q E h => ?_) (fun cdv A outer s H vs Q E hr h => ?_)
  · obtain ⟨v, d, rfl, _⟩ := h
    rfl
  · obtain ⟨v, d, rfl, t, so, k⟩ := h
    have nd := scName.nd
    refine ⟨_, PSs.nox (pss_one (ps_ret (pe_and (pe_call GW hr rfl gW kW bW .nil pass0 (pa_cons (pv 0) pa_nil)) (pe_one (pe_cmpR op_notIn_seq (pv 0) (pe_glob (v := .ref (He.ga K "RESERVED")) rfl gR rfl) (by rfl)))))), ?_⟩
    refine ⟨_, rfl, v, d, rfl, t, so, fun H' sm => ⟨_, rfl, ?_⟩⟩
    cases hw : isW d with
    | false =>
      have e : isNm d = false := by cases d <;> first | rfl | (show (_ && _) = false; rw [show wordS _ = false from hw]; rfl)
      have k := k H' sm
      rw [e] at k
      refine iteF ?_
      exact k
    | true =>
      obtain ⟨x, rfl⟩ : ∃ x, d = .str x := by cases d <;> first | exact ⟨_, rfl⟩ | exact Bool.noConfusion hw
      cases th_str t
      refine iteT ?_
      refine ⟨_, rfl, _, _, rfl, .inr (T.tR H'), rfl, flat_strs _, ?_⟩
      have e : isNm (.str x) = !inV (.str x) (reserved.map V.str) := by
        rw [inV_strs]
        show (wordS x && !reserved.contains x) = _
        rw [show wordS x = true from hw]
        rfl
      have k := k H' sm
      rw [e] at k
      exact k
theorem ok_lword (F : FnP K "_law_is_word" sLIsWord f fd) (T : TxW mg) : FnOk P w K mg base CX0 1 f fd ["_law_thing"] (spWord K) := by
  refine F.ok scLWord (fun vs H Q E h => ?_) (fun cdv A outer s H vs Q E hr h => ?_)
  · obtain ⟨v, d, rfl, _⟩ := h
    rfl
  · obtain ⟨v, d, rfl, t, so, k⟩ := h
    have nd := scLWord.nd
    have hu64 := hu64_of hr
    refine ⟨_, PSs.nox (pss_cons (ps_if (PW.pt (pw_or (pt_not (pt_val (pe_callB call_isi (by rfl) T.isi (by decide +kernel) (pa_cons (pv 0) (pa_cons (pe_bltn (v := .ty "str") (by rfl) T.str (by decide +kernel) rfl) pa_nil))))) (pw_or1 (pt_not (pt_chain op_le op_le pe_int (pe_callB call_len_str (by rfl) T.len (by decide +kernel) (pa_cons (pv 0) pa_nil)) pe_int)))))
        (pss_one (ps_ret pe_bl)) pss_nil)
      (pss_one (ps_ret (pe_cmpR (op_eqD hu64) (pe_lc (own := [("_law_sign", 1)]) (g := gName 1) rfl nd (pi_str (pv 0)) (blkOk_by (N := ["_law_thing", "_law_sign"]) (sc := defScope sLIsWord) (by decide +kernel)) (fun _ _ _ _ _ => pg_name (i := 1) nd rfl (Or.inl rfl)) (fun _ _ _ _ _ => pts_one (pt_cmpR op_notIn_sign (pv 1) pe_str (by rfl))) (fun _ _ _ _ _ => pv 1)) (pe_lst pa_nil) (nomark _))))), ?_⟩
    refine ⟨_, rfl, v, .ty "str", .type (tyName d), _, isS d, rfl, .ty _, th_ty t, kit_ty (kit_str d), _, rfl, ?_⟩
    have no : isW d = false → Q (.bl false) H := fun e => by
      have k := k H (Same.refl H)
      rw [e] at k
      exact k
    cases hs : isS d with
    | false =>
      refine iteT ?_
      refine iteT ?_
      exact no (by cases d <;> first | rfl | exact Bool.noConfusion hs)
    | true =>
      refine iteF ?_
      obtain ⟨x, rfl⟩ : ∃ x, d = .str x := by cases d <;> first | exact ⟨_, rfl⟩ | exact Bool.noConfusion hs
      cases th_str t
      have hx : x.length ≤ 1000 := of_decide_eq_true (Bool.and_eq_true_iff.mp so).1
      have hok : PyData.strOk x = true := (Bool.and_eq_true_iff.mp so).2
      have hcp : ∀ c ∈ x.cps.toList, c < 0x110000 := fun c hc => by
        unfold PyData.strOk at hok
        have := (Array.all_eq_true_iff_forall_mem.mp hok) c (by simpa using hc)
        simpa using this
      have hz : x.length ≤ sizeLine := by rw [sizeLine_eq]; omega
      refine ⟨_, rfl, _, rfl, hz, _, _, rfl, rfl, _, rfl, ?_⟩
      refine ite2 (fun h1 => ?_) (fun h1 => ?_)
      · have h1 := of_decide_eq_true h1
        refine ⟨_, _, rfl, rfl, _, rfl, ?_⟩
        refine ite2 (fun h2 => ?_) (fun h2 => ?_)
        · refine no ?_
          have h2 : decide ((x.length : Int) ≤ 8) = false := by simpa using h2
          have h2 := of_decide_eq_false h2
          show wordS x = false
          unfold wordS
          rw [decide_eq_false (show ¬ x.length ≤ 8 by omega), Bool.false_and, Bool.and_false]
        · have h2 : decide ((x.length : Int) ≤ 8) = true := by simpa using h2
          have h2 := of_decide_eq_true h2
          have e : isW (.str x) = x.cps.toList.all lowN := by
            show wordS x = _
            unfold wordS
            rw [decide_eq_true (show 1 ≤ x.length by omega), decide_eq_true (show x.length ≤ 8 by omega), Bool.true_and, Bool.true_and]
          refine ⟨_, rfl, x, rfl, fun D hD => ?_⟩
          have hDf : H D = none := hD
          refine lc_it (walk_str (z := x)) (fun i H6 => H6 D = some (.lst ((odd (x.cps.toList.take i)).map sgn)) ∧ Same H H6) ⟨upd_same, same_new (Same.refl H) hD⟩ (fun _ _ _ _ => True.intro) ?_ ?_
          · rintro i v' H6 H7 hi ⟨h3, h4⟩ ⟨rfl, c, hc, rfl⟩
            refine ⟨rfl, ?_⟩
            have hcl : x.cps.toList[i]? = some c := by
              rw [Array.getElem?_toList]
              exact hc
            have tk : x.cps.toList.take (i + 1) = x.cps.toList.take i ++ [c] := by rw [List.take_add_one, hcl]; rfl
            refine ⟨_, rfl, c, _, rfl, rfl, _, rfl, ?_⟩
            rw [abc_mem c]
            cases hl : lowN c with
            | true =>
              refine iteF ?_
              refine ⟨?_, h4⟩
              rw [tk]
              unfold odd
              rw [List.filter_append, List.filter_cons, hl]
              simpa [odd] using h3
            | false =>
              refine iteT ?_
              refine ⟨_, rfl, _, h3, ?_, ?_, fun a o e' => ?_⟩
              · rw [List.length_map, sizeLine_eq]
                have q1 : (odd (x.cps.toList.take i)).length ≤ (x.cps.toList.take i).length := List.length_filter_le _ _
                have q2 : (x.cps.toList.take i).length ≤ i := List.length_take_le _ _
                have : i < x.length := hi
                omega
              · rw [upd_same, tk]
                unfold odd
                rw [List.filter_append, List.filter_cons, hl]
                simp [sgn]
              · rw [upd_ne (ne_of_none e' hDf)]
                exact h4 a o e'
          · rintro H6 ⟨h3, h4⟩
            have e2 : x.cps.toList.take x.cps.size = x.cps.toList := by rw [← Array.length_toList, List.take_length]
            rw [e2] at h3
            refine ⟨(by show 0 ≤ sizeLine; decide), fun q hq => ⟨.list ((odd x.cps.toList).map fun c => PyData.str ⟨#[c]⟩), .list [], .lst (SqL.of (up h3 hq)) (dp_sgn _), .lst (SqL.of upd_same) .nil, shaped_sgn _ (fun c hc => hcp c ((List.mem_filter.mp hc).1)), rfl, ?_⟩⟩
            rw [eqv_sgn, odd_none, ← e]
            exact k _ (same_new h4 hq)
      · have h1 := of_decide_eq_false (Bool.eq_false_iff.mpr h1)
        have no' := no (by
          show wordS x = false
          unfold wordS
          rw [decide_eq_false (show ¬ 1 ≤ x.length by omega), Bool.false_and])
        refine ⟨false, rfl, ?_⟩
        dsimp only
        refine iteT ?_
        exact no'
theorem ok_of (F : FnP K "_law_is_of" sIsOf f fd) (T : TxW mg) (FW : FnP K "_law_is_word" sLIsWord fW fdW) (gW : mg "_law_is_word" = some (.ref fW)) : FnOk P w K mg base CX0 2 f fd ["_law_sort", "_law_thing"] (spOf K) := by
  have GW : FnOk P w K mg base CX0 1 fW fdW ["_law_thing"] (spWord K) := ok_lword FW T
  have bW : Binds K fdW ["_law_thing"] [] := FW.bindsN fun _ _ _ _ _ _ us hl => match us, hl with | [_], _ => rfl
  have kW := FW.kp
  refine F.ok scOf (fun vs H Q E h => ?_) (fun cdv A outer s H vs Q E hr h => ?_)
  · obtain ⟨z, v, d, rfl, _⟩ := h
    rfl
  · obtain ⟨z, v, d, rfl, t, so, k⟩ := h
    have nd := scOf.nd
    refine ⟨_, PSs.nox (pss_cons (ps_if (pt_cmpR op_eq (pv 0) pe_str (nomark _)) (pss_one (ps_ret (pe_call GW hr rfl gW kW bW .nil pass0 (pa_cons (pv 1) pa_nil)))) pss_nil)
      (pss_one (ps_ret (pe_and (pe_callB call_isi (by rfl) T.isi (by decide +kernel) (pa_cons (pv 1) (pa_cons (pe_bltn (v := .ty "int") (by rfl) T.int (by decide +kernel) rfl) pa_nil))) (pe_and (pe_not (pe_callB call_isi (by rfl) T.isi (by decide +kernel) (pa_cons (pv 1) (pa_cons (pe_bltn (v := .ty "bool") (by rfl) T.bool (by decide +kernel) rfl) pa_nil)))) (pe_one (pe_cmpR op_le (pe_callB call_abs (by rfl) T.abs (by decide +kernel) (pa_cons (pv 1) pa_nil)) (pe_op op_pow pe_int pe_int) (nomark _)))))))), ?_⟩
    refine ⟨_, rfl, rfl, _, rfl, ?_⟩
    refine ite2 (fun h1 => ?_) (fun h1 => ?_)
    · have h1 : V.str z = V.str "word" := of_decide_eq_true h1
      have hz : z = "word" := V.str.inj h1
      refine ⟨_, rfl, v, d, rfl, t, so, fun H' sm => ?_⟩
      have k := k H' sm
      rw [if_pos hz] at k
      exact k
    · have hz : z ≠ "word" := fun e => h1 (decide_eq_true (congrArg V.str e))
      have k := k H (Same.refl H)
      rw [if_neg hz] at k
      refine ⟨_, rfl, v, .ty "int", .type (tyName d), _, isI d, rfl, .ty _, th_ty t, kit_ty (kit_int d), _, rfl, ?_⟩
      cases hi : isI d with
      | false =>
        refine iteF ?_
        have e : isN d = false := by cases d <;> first | rfl | exact Bool.noConfusion hi
        rw [e] at k
        exact k
      | true =>
        refine iteT ?_
        refine ⟨_, rfl, v, .ty "bool", .type (tyName d), _, isB d, rfl, .ty _, th_ty t, kit_ty (kit_bool d), _, rfl, _, rfl, ?_⟩
        cases hb : isB d with
        | true =>
          refine iteF ?_
          have e : isN d = false := by cases d <;> first | rfl | exact Bool.noConfusion hb
          rw [e] at k
          exact k
        | false =>
          refine iteT ?_
          obtain ⟨i, rfl⟩ : ∃ i, d = .int i := by cases d <;> first | exact ⟨_, rfl⟩ | exact Bool.noConfusion hb | exact Bool.noConfusion hi
          cases th_int t
          refine ⟨_, rfl, _, rfl, _, _, rfl, rfl, ⟨by decide, by decide, by decide⟩, _, _, rfl, rfl, ?_⟩
          have e : isN (.int i) = decide ((if i < 0 then -i else i) ≤ 10 ^ (30 : Int).toNat) := by
            show (decide (-(10 ^ 30) ≤ i) && decide (i ≤ 10 ^ 30)) = _
            have e30 : (10 : Int) ^ (30 : Int).toNat = 1000000000000000000000000000000 := by decide +kernel
            rw [e30]
            by_cases h : i < 0
            · rw [if_pos h]
              by_cases h2 : -i ≤ 1000000000000000000000000000000
              · rw [decide_eq_true h2, decide_eq_true (by omega), decide_eq_true (by omega)]
                rfl
              · rw [decide_eq_false h2, decide_eq_false (by omega), Bool.false_and]
            · rw [if_neg h]
              by_cases h2 : i ≤ 1000000000000000000000000000000
              · rw [decide_eq_true h2, decide_eq_true (by omega), decide_eq_true (by omega)]
                rfl
              · rw [decide_eq_false h2, decide_eq_false (show ¬ i ≤ 10 ^ 30 by omega), Bool.and_false]
          rw [e] at k
          exact k
end
end K02
set_option Elab.async false
set_option linter.all false
set_option maxRecDepth 100000
set_option maxHeartbeats 4000000
/-! a text and a dict: unequal; any value in a tuple of texts -/
namespace K02S
open PySem PySem.SeqAt PySem.Builtin
open AutoSeq1 (wpAny_loadPart')
open MeetsSeq
theorem str_declines_dict (b : Str) (u : Tok) (l : Addr) (o : Obj) (es : Array DictEntry) (n : Nat) (hd : o.data = .dict es n) :
    Meets (Builtin.«str.__eq__» ⟨[.str b u, .ref l], []⟩) (fun _ R s => s.heap.get? l = some o ∧ R (.ok (.ret .notImplemented)) s) :=
  .of_wp fun prog w A R s h => by
    obtain ⟨hp, g, d, tk, os⟩ := s
    obtain ⟨hl, h⟩ := h
    obtain ⟨oc, od, dt, sl⟩ := o
    simp only at hd
    subst hd
    wp_walk using wpAny_loadPart' hl, wpAny_load hl
    exact ⟨_, rfl, h⟩
theorem dict_declines_str (b : Str) (u : Tok) (l : Addr) (o : Obj) (es : Array DictEntry) (n : Nat) (hc : o.cls = .type "dict") (hd : o.data = .dict es n) :
    Meets (Builtin.«dict.__eq__» ⟨[.ref l, .str b u], []⟩) (fun _ R s => s.heap.get? l = some o ∧ R (.ok (.ret .notImplemented)) s) :=
  .of_wp fun prog w A R s h => by
    obtain ⟨hp, g, d, tk, os⟩ := s
    obtain ⟨hl, h⟩ := h
    obtain ⟨oc, od, dt, sl⟩ := o
    simp only at hd hc
    subst hd hc
    have f1 : isSubtype (.type "str") (.type "dict") = pure false := by rw [isSubtype_type]; kernel_rfl
    unfold Builtin.«dict.__eq__»
    wp_walk using wpAny_loadPart' hl, wpAny_load hl
    exact ⟨_, rfl, h⟩
section
variable {A : Around} {s : Shared}
theorem rc_str_dict {l : Addr} {o : Obj} {es : Array DictEntry} {n : Nat} (b : Str) (u : Tok) (ho : s.heap.get? l = some o) (hc : o.cls = .type "dict") (hd : o.data = .dict es n) (hu : A.units < cLine) : RcAt A s (.str b u) (.ref l) false := fun prog w E Q h =>
  rc_eq_decline_or (k := false) (typeIs_str s b u) ⟨_, ho, hc⟩ (by decide) F.sub_dict_str F.slot_str_eq F.slot_dict_eq_refl
    (fun _ hq => call_meets F.slot_str_eq (typeIs_str s b u) F.entry_str_eq (F.args_str_eq_2 _ _) (str_declines_dict b u l o es n hd) ⟨ho, hq⟩)
    (fun _ hq => call_meets F.slot_dict_eq_refl ⟨_, ho, hc⟩ F.entry_dict_eq (F.args_dict_eq_2 _ _) (dict_declines_str b u l o es n hc hd) ⟨ho, hq⟩)
    (fun _ hq => wpAny_of_eq (rfl : isSame (.str b u) (.ref l) = pure false) hq) (.inr hu) h
theorem eq_str_dict {l : Addr} {o : Obj} {es : Array DictEntry} {n : Nat} (b : Str) (u : Tok) (ho : s.heap.get? l = some o) (hc : o.cls = .type "dict") (hd : o.data = .dict es n) (hu : A.units < cLine) : EqAt A s (.str b u) (.ref l) false := fun prog w E Q h => by
  unfold eqBool
  refine wpAny_holding ?_
  refine wpAny_ite_split (fun hab => absurd (eq_of_beq hab) nofun) (fun _ => ?_)
  exact wpAny_bind (rc_str_dict b u ho hc hd hu prog w E _ (wpAny_truthy_bool h))
end
end K02S
namespace K02
open K34 PySem PySem.Spec PyProof.Rows L2
def isIn (d : PyData) (ss : List Str) : Bool := match d with
  | .str x => ss.contains x | _ => false
def eqS (d : PyData) (u : Value) : Bool := match u with
  | .str z _ => (match d with
    | .str x => z == x | _ => false)
  | _ => false
section
variable {X : Cx} {pins : List (Addr × Obj)} {σ : L2.St} {H : Hp} {s : Shared}
theorem th_eqAt {v : V} {u : Value} {d : PyData} (I : Inv X pins σ H s) (t : Th X.K H v d) (r : RelV v u) (A : Around) (hu : A.units < cLine) (z : Str) (k : Tok) : SeqAt.EqAt A s (.str z k) u (eqS d (.str z k)) := by
  have kd : ∀ {a : Addr} {kvs : List (Key × V)}, H a = some (.dK kvs) → SeqAt.EqAt A s (.str z k) (.ref a) false := fun {a kvs} h => by
    obtain ⟨_, hn, vs, rel, o, es, ep, ho, hx, hd, he⟩ := dk_of I.hok h
    exact K02S.eq_str_dict z k ho hx.1 hd hu
  cases t with
  | dp h n =>
    cases h with
    | non => cases (show u = Value.none from r); exact SeqAt.EqAt.str_none z k
    | bl b => cases (show u = Value.bool b from r); exact SeqAt.EqAt.str_bool z k b
    | int i => obtain ⟨t, q⟩ := (show ∃ t, u = Value.int i t from r); cases q; exact SeqAt.EqAt.str_int z k i t
    | str y => obtain ⟨t, q⟩ := (show ∃ t, u = Value.str y t from r); cases q; exact SeqAt.EqAt.str_str z k y t
    | @lst a xs ds h _ =>
      cases (show u = Value.ref a from r)
      obtain ⟨its, rv, pl, hz⟩ := I.list h
      exact SeqAt.EqAt.str_list z k pl.isList hu
    | @tup a xs ds h _ =>
      cases (show u = Value.ref a from r)
      obtain ⟨its, rv, pl, hz⟩ := I.tuple h
      exact SeqAt.EqAt.str_tuple z k pl hu
  | @d0 a h => cases (show u = Value.ref a from r); exact kd h
  | @d1 a h => cases (show u = Value.ref a from r); exact kd h
theorem any_eqS (d : PyData) : ∀ {ss : List Str} {us : List Value}, Vals (ss.map V.str) us → us.any (eqS d) = isIn d ss
  | [], _, r => by
    cases r
    cases d <;> rfl
  | z :: ss, _, r => by
    cases r with
    | cons r1 r2 =>
      obtain ⟨t, e⟩ := (show ∃ t, _ = Value.str z t from r1)
      subst e
      rw [List.any_cons, any_eqS d r2]
      cases d <;> first | rfl | (show (_ == _ || List.contains _ _) = List.contains _ _; rw [List.contains_cons, Bool.beq_comm])
theorem all_str : ∀ {ss : List Str} {us : List Value}, Vals (ss.map V.str) us → ∀ w ∈ us, ∃ z t, w = Value.str z t
  | [], _, r => by
    cases r
    intro w hw
    cases hw
  | z :: ss, _, r => by
    cases r with
    | cons r1 r2 =>
      obtain ⟨t, e⟩ := (show ∃ t, _ = Value.str z t from r1)
      intro w hw
      rcases List.mem_cons.mp hw with rfl | hw
      · exact ⟨z, t, e⟩
      · exact all_str r2 w hw
/-- x not in a tuple of texts, x any value -/
def rNotInS (K : PySem.W.Frag) : R2 := fun x y H Q => ∃ (p : Addr) (ss : List Str) (d : PyData), y = .ref p ∧ SqT K H p (ss.map V.str) ∧ Th K H x d ∧ Q (.bl (!isIn d ss)) H
theorem op_notInS (hu : X.A.in1.units < cLine) : OpR X (compareOp .NotIn) (rNotInS X.K) := by
  intro pins s σ H x y v u Q I rx ry h
  obtain ⟨p, ss, d, rfl, hq, t, q⟩ := h
  cases ry
  obtain ⟨its, r, pl, hz⟩ := I.tuple hq
  refine SeqAt.notIn_tupleAt (eqS d) pl (fun w hw => ?_) ⟨.bl _, H, I, rfl, ?_⟩
  · obtain ⟨z, k, rfl⟩ := all_str r w (by simpa using hw)
    exact th_eqAt I t rx _ hu z k
  · rw [show its.toArray.any (eqS d) = its.any (eqS d) by simp, any_eqS d r]
    exact q
end
end K02
set_option Elab.async false
set_option linter.all false
set_option maxRecDepth 100000
set_option maxHeartbeats 4000000
namespace K02
open K34 PySem PySem.Spec PyProof.Rows L2
theorem oex_of {K : PySem.W.Frag} {C : Addr} (T : EC K C .ve) : OexC K C := by
  obtain ⟨nm, q, N, bs, sn, sub, ab, col, dd, k0, k1, k2, k3, k5, hC⟩ := T.cls
  exact ⟨⟨nm, q, N, bs, _, sn, sub, ab, col, dd, k0, k1, k2, k3, k5, hC, by decide +kernel⟩, T.sa, T.at_.hs, T.ty, T.kC⟩
def sp1 (C : Addr) (f : Str) : Sp := fun vs H Q _ => ∃ (a : Addr) (v : V), vs = [.ref a, v] ∧ H a = some (exo a C none) ∧ ∀ dx, H dx = none → dx ≠ a → Q .non (upd (upd H dx (exd dx [(f, v)])) a (exo a C (some dx)))
theorem scEN : FnScope ["self", "value"] ["self", "value"] (defScope sEN) := ⟨rfl, rfl, rfl, by decide +kernel, rfl, by decide +kernel, by decide +kernel⟩
theorem scEK : FnScope ["self", "value"] ["self", "value"] (defScope sEK) := ⟨rfl, rfl, rfl, by decide +kernel, rfl, by decide +kernel, by decide +kernel⟩
theorem scInit : FnScope ["self", "name", "kind", "is_required"] ["self", "name", "kind", "is_required"] (defScope sInit) := ⟨rfl, rfl, rfl, by decide +kernel, rfl, by decide +kernel, by decide +kernel⟩
structure ColT (K : PySem.W.Frag) (mg : Str → Option Value) : Prop extends TxN K mg where
  g : mg "Column" = some (.ref (He.ga K "Column"))
  cl : Cls K (He.ga K "Column")
  nN : NoAttr K (He.ga K "Column") "_name"
  nK : NoAttr K (He.ga K "Column") "_kind"
  nR : NoAttr K (He.ga K "Column") "_is_required"
  gK : mg "KINDS" = some (.ref (He.ga K "KINDS"))
  tK : ∀ H : Hp, SqT K H (He.ga K "KINDS") (kinds.map V.str)
/-- the fields of a column -/
def colF (n k : V) (b : Bool) : List (Str × V) := [("_name", n), ("_kind", k), ("_is_required", .bl b)]
/-- what a raise leaves: the error's dict at d, all else as it was -/
def Rz (C : Addr) (v : V) (H : Hp) (E : XK) : Prop := ∀ d H', H d = none → Same H H' → H' d = some (.xd [(("value" : Str), v)]) → E (.ref C) (some d) H'
def spInit (K : PySem.W.Frag) : Sp := fun vs H Q E => ∃ (a dx : Addr) (n k : V) (dn dk : PyData) (b : Bool), vs = [.ref a, n, k, .bl b] ∧ H a = some (.ins (He.ga K "Column") dx []) ∧ Th K H n dn ∧ sOk dn = true ∧ Th K H k dk ∧
  (isNm dn = false → Rz (He.ga K "InvalidName") n H E) ∧ (isNm dn = true → isIn dk kinds = false → Rz (He.ga K "InvalidKind") k H E) ∧
  (isNm dn = true → isIn dk kinds = true → ∀ H', But a H H' → H' a = some (.ins (He.ga K "Column") dx (colF n k b)) → Q .non H')
section
variable {P : Program} {w : World} {K : PySem.W.Frag} {mg : Str → Option Value} {base : Heap} {f fW fN eN eK : Addr} {fd fdW fdN fdEN fdEK : FuncData}
theorem ok_eN {C : Addr} (F : FunD K "__init__" "InvalidName.__init__" (defArgs sEN) (defBody sEN) (defScope sEN) [] [] f fd) (T : EC K C .ve) (no : PySem.W.findIn K (.ref C) "value" = some none) :
    FnOk P w K mg base CX0 1 f fd ["self", "value"] (sp1 C "value") ∧ Binds K fd ["self", "value"] [] := by
  refine ⟨F.ok scEN (fun vs H Q E h => ?_) (fun cdv A outer s H vs Q E hr h => ⟨_, PSs.nox (pss_one (ps_st (k := .ve) (pv 0) (pv 1))), ?_⟩), F.bindsN fun _ _ _ _ _ _ us hl => match us, hl with | [_, _], _ => rfl⟩
  · obtain ⟨a, v, rfl, _⟩ := h
    rfl
  · obtain ⟨a, v, rfl, ha, q⟩ := h
    exact ⟨_, rfl, _, rfl, a, C, rfl, T, no, .inl ⟨ha, fun dx n ne => q dx n ne⟩⟩
theorem ok_eK {C : Addr} (F : FunD K "__init__" "InvalidKind.__init__" (defArgs sEK) (defBody sEK) (defScope sEK) [] [] f fd) (T : EC K C .ve) (no : PySem.W.findIn K (.ref C) "value" = some none) :
    FnOk P w K mg base CX0 1 f fd ["self", "value"] (sp1 C "value") ∧ Binds K fd ["self", "value"] [] := by
  refine ⟨F.ok scEK (fun vs H Q E h => ?_) (fun cdv A outer s H vs Q E hr h => ⟨_, PSs.nox (pss_one (ps_st (k := .ve) (pv 0) (pv 1))), ?_⟩), F.bindsN fun _ _ _ _ _ _ us hl => match us, hl with | [_, _], _ => rfl⟩
  · obtain ⟨a, v, rfl, _⟩ := h
    rfl
  · obtain ⟨a, v, rfl, ha, q⟩ := h
    exact ⟨_, rfl, _, rfl, a, C, rfl, T, no, .inl ⟨ha, fun dx n ne => q dx n ne⟩⟩
theorem rz_end {C a : Addr} {v : V} {H : Hp} {E : XK} (h : Rz C v H E) (ha : H a = none) : sp1 C "value" (.ref a :: ([v] ++ [])) (upd H a (exo a C none))
    (fun x H2 => x = .non ∧ ∃ (d : Addr) (fs : List (Str × V)), H2 a = some (exo a C (some d)) ∧ H2 d = some (exd d fs) ∧ H d = none ∧ E (.ref C) (some d) (upd (del H2 a) d (.xd fs))) (fun _ _ _ => False) := by
  refine ⟨a, v, rfl, upd_same, fun d hd ne => ⟨rfl, d, [("value", v)], upd_same, ?_, ?_, ?_⟩⟩
  · rw [upd_ne ne, upd_same]
  · rw [upd_ne ne] at hd
    exact hd
  · have hd0 : H d = none := by
      rw [upd_ne ne] at hd
      exact hd
    refine h d _ hd0 (fun b o e => ?_) upd_same
    have n1 : b ≠ a := ne_of_none e ha
    have n2 : b ≠ d := ne_of_none e hd0
    rw [upd_ne n2, del_ne n1, upd_ne n1, upd_ne n2, upd_ne n1]
    exact e
theorem ok_init (F : FunD K "__init__" "Column.__init__" (defArgs sInit) (defBody sInit) (defScope sInit) [] [(("is_required" : Str), V.bl false)] f fd) (T : ColT K mg) (FN : FnP K "is_name" sIsName fN fdN) (gN : mg "is_name" = some (.ref fN)) (FW : FnP K "is_word" sIsWord fW fdW) (gW : mg "is_word" = some (.ref fW))
    (MN : EM P w K mg base "InvalidName" (He.ga K "InvalidName") .ve eN fdEN ["self", "value"] (sp1 (He.ga K "InvalidName") "value")) (bN' : Binds K fdEN ["self", "value"] [])
    (MK : EM P w K mg base "InvalidKind" (He.ga K "InvalidKind") .ve eK fdEK ["self", "value"] (sp1 (He.ga K "InvalidKind") "value")) (bK : Binds K fdEK ["self", "value"] []) :
    FnOk P w K mg base (L2.CX P w) 3 f fd ["self", "name", "kind", "is_required"] (spInit K) := by
  have GN : FnOk P w K mg base CX0 2 fN fdN ["value"] (spName K) := ok_name FN T.toTxN FW gW
  have bN : Binds K fdN ["value"] [] := FN.bindsN fun _ _ _ _ _ _ us hl => match us, hl with | [_], _ => rfl
  have kN := FN.kp
  refine F.ok scInit (fun vs H Q E h => ?_) (fun cdv A outer s H vs Q E hr h => ?_)
  · obtain ⟨a, dx, n, k, dn, dk, b, rfl, _⟩ := h
    rfl
  · obtain ⟨a, dx, n, k, dn, dk, b, rfl, ha, tn, sn, tk, e1, e2, q⟩ := h
    have nd := scInit.nd
    have hr2 : Room 2 (A.deeper (envOfC "Column.__init__" (defScope sInit) s.heap.objs.size f cdv)) := hr.mono (by decide)
    have hu := hr.in1.units0
    refine ⟨_, (pss_cons (ps_if (pt_not (pt_val (pe_call GN hr rfl gN kN bN .nil pass0 (pa_cons (pv 1) pa_nil)))) (pss_one (ps_raise rfl (takes_of rfl rfl rfl rfl) (pmk_oex (oex_of MN.c) MN.init MN.ty MN.ok hr2 bN' .nil pass0 rfl MN.g (pa_cons (pv 1) pa_nil)))) pss_nil)
      (pss_cons (ps_if (pt_cmpR (op_notInS hu) (pv 2) (pe_glob (v := .ref (He.ga K "KINDS")) rfl T.gK rfl) (by rfl)) (pss_one (ps_raise rfl (takes_of rfl rfl rfl rfl) (pmk_oex (oex_of MK.c) MK.init MK.ty MK.ok hr2 bK .nil pass0 rfl MK.g (pa_cons (pv 2) pa_nil)))) pss_nil)
      (pss_cons (ps_fld (pv 0) (pv 1) rfl) (pss_cons (ps_fld (pv 0) (pv 2) rfl) (pss_one (ps_fld (pv 0) (pv 3) rfl)))))), ?_⟩
    refine ⟨_, rfl, n, dn, rfl, tn, sn, fun H1 s1 => ⟨_, rfl, ?_⟩⟩
    have ap : ∀ {H' : Hp}, Same H H' → H' a = some (.ins (He.ga K "Column") dx []) := fun s => s _ _ ha
    have rzS : ∀ {C : Addr} {v : V} {H' : Hp}, Rz C v H E → Same H H' → Rz C v H' E := fun {C v H'} r sm d H2 hd s2 h2 => r d H2 (by
      cases e : H d with
      | none => rfl
      | some o => rw [sm _ _ e] at hd; cases hd) (sm.trans s2) h2
    cases hn : isNm dn with
    | false =>
      refine iteT ?_
      exact ⟨_, rfl, by show 1 ≤ 1000; decide, fun a' ha' => rz_end (rzS (e1 hn) s1) ha'⟩
    | true =>
      refine iteF ?_
      refine ⟨_, rfl, _, kinds, dk, rfl, T.tK _, tk.same s1, _, rfl, ?_⟩
      cases hk : isIn dk kinds with
      | false =>
        refine iteT ?_
        exact ⟨_, rfl, by show 1 ≤ 1000; decide, fun a' ha' => rz_end (rzS (e2 hn hk) s1) ha'⟩
      | true =>
        refine iteF ?_
        refine ⟨_, rfl, _, rfl, a, _, dx, [], rfl, ap s1, T.cl, T.nN, (by decide), ?_⟩
        refine ⟨_, rfl, _, rfl, a, _, dx, _, rfl, upd_same, T.cl, T.nK, (by show 1 < 1000; decide), ?_⟩
        refine ⟨_, rfl, _, rfl, a, _, dx, _, rfl, upd_same, T.cl, T.nR, (by show 2 < 1000; decide), ?_⟩
        refine q hn hk _ (fun b' o nb e => ?_) ?_
        · rw [upd_ne nb, upd_ne nb, upd_ne nb]
          exact s1 _ _ e
        · rw [upd_same]
          rfl
/-! ### its attributes, what it is asked -/
def ColAt (K : PySem.W.Frag) (H : Hp) (a : Addr) (n k : Str) (b : Bool) : Prop := ∃ dx, H a = some (.ins (He.ga K "Column") dx (colF (.str n) (.str k) b))
theorem ColAt.same {H H' : Hp} {a : Addr} {n k : Str} {b : Bool} (c : ColAt K H a n k b) (s : Same H H') : ColAt K H' a n k b := by
  obtain ⟨dx, h⟩ := c
  exact ⟨dx, s _ _ h⟩
def spGet (K : PySem.W.Frag) (g : Str → Str → Bool → V) : Sp := fun vs H Q _ => ∃ (a : Addr) (n k : Str) (b : Bool), vs = [.ref a] ∧ ColAt K H a n k b ∧ Q (g n k b) H
theorem scGetN : FnScope ["self"] ["self"] (defScope sGetN) := ⟨rfl, rfl, rfl, by decide +kernel, rfl, by decide +kernel, by decide +kernel⟩
theorem scGetK : FnScope ["self"] ["self"] (defScope sGetK) := ⟨rfl, rfl, rfl, by decide +kernel, rfl, by decide +kernel, by decide +kernel⟩
theorem scGetR : FnScope ["self"] ["self"] (defScope sGetR) := ⟨rfl, rfl, rfl, by decide +kernel, rfl, by decide +kernel, by decide +kernel⟩
theorem scIsVal : FnScope ["self", "value"] ["self", "value"] (defScope sIsVal) := ⟨rfl, rfl, rfl, by decide +kernel, rfl, by decide +kernel, by decide +kernel⟩
theorem scEq : FnScope ["self", "other"] ["self", "other"] (defScope sEq) := ⟨rfl, rfl, rfl, by decide +kernel, rfl, by decide +kernel, by decide +kernel⟩
theorem ok_getN (F : FunD K "name" "Column.name" (defArgs sGetN) (defBody sGetN) (defScope sGetN) [] [] f fd) (T : ColT K mg) : FnOk P w K mg base CX0 1 f fd ["self"] (spGet K fun n _ _ => .str n) := by
  refine F.ok scGetN (fun vs H Q E h => ?_) (fun cdv A outer s H vs Q E hr h => ⟨_, PSs.nox (pss_one (ps_ret (pe_fld (pv 0) rfl))), ?_⟩)
  · obtain ⟨a, n, k, b, rfl, _⟩ := h
    rfl
  · obtain ⟨a, n, k, b, rfl, ⟨dx, ha⟩, q⟩ := h
    exact ⟨_, rfl, a, _, dx, _, _, rfl, ha, T.cl, T.nN, rfl, q⟩
theorem ok_getK (F : FunD K "kind" "Column.kind" (defArgs sGetK) (defBody sGetK) (defScope sGetK) [] [] f fd) (T : ColT K mg) : FnOk P w K mg base CX0 1 f fd ["self"] (spGet K fun _ k _ => .str k) := by
  refine F.ok scGetK (fun vs H Q E h => ?_) (fun cdv A outer s H vs Q E hr h => ⟨_, PSs.nox (pss_one (ps_ret (pe_fld (pv 0) rfl))), ?_⟩)
  · obtain ⟨a, n, k, b, rfl, _⟩ := h
    rfl
  · obtain ⟨a, n, k, b, rfl, ⟨dx, ha⟩, q⟩ := h
    exact ⟨_, rfl, a, _, dx, _, _, rfl, ha, T.cl, T.nK, rfl, q⟩
theorem ok_getR (F : FunD K "is_required" "Column.is_required" (defArgs sGetR) (defBody sGetR) (defScope sGetR) [] [] f fd) (T : ColT K mg) : FnOk P w K mg base CX0 1 f fd ["self"] (spGet K fun _ _ b => .bl b) := by
  refine F.ok scGetR (fun vs H Q E h => ?_) (fun cdv A outer s H vs Q E hr h => ⟨_, PSs.nox (pss_one (ps_ret (pe_fld (pv 0) rfl))), ?_⟩)
  · obtain ⟨a, n, k, b, rfl, _⟩ := h
    rfl
  · obtain ⟨a, n, k, b, rfl, ⟨dx, ha⟩, q⟩ := h
    exact ⟨_, rfl, a, _, dx, _, _, rfl, ha, T.cl, T.nR, rfl, q⟩
def isNo : PyData → Bool
  | .none => true | _ => false
theorem th_non {H : Hp} {v : V} {d : PyData} (t : Th K H v d) : decide (v = V.non) = isNo d := by
  cases t with
  | dp h n => cases h <;> rfl
  | d0 h => rfl
  | d1 h => rfl
def valOk (k : Str) (b : Bool) (d : PyData) : Bool := if isNo d = true then !b else if k = "number" then isN d else isW d
def spIsVal (K : PySem.W.Frag) : Sp := fun vs H Q _ => ∃ (a : Addr) (n k : Str) (b : Bool) (v : V) (d : PyData), vs = [.ref a, v] ∧ ColAt K H a n k b ∧ Th K H v d ∧ sOk d = true ∧ ∀ H', Same H H' → Q (.bl (valOk k b d)) H'
theorem ok_isval {fNu : Addr} {fdNu : FuncData} (F : FunD K "is_value" "Column.is_value" (defArgs sIsVal) (defBody sIsVal) (defScope sIsVal) [] [] f fd) (T : ColT K mg) (FNu : FnP K "is_number" sIsNumber fNu fdNu) (gNu : mg "is_number" = some (.ref fNu))
    (FW : FnP K "is_word" sIsWord fW fdW) (gW : mg "is_word" = some (.ref fW)) : FnOk P w K mg base CX0 2 f fd ["self", "value"] (spIsVal K) := by
  have GW : FnOk P w K mg base CX0 1 fW fdW ["value"] (spWord K) := ok_word FW T.toTxW
  have bW : Binds K fdW ["value"] [] := FW.bindsN fun _ _ _ _ _ _ us hl => match us, hl with | [_], _ => rfl
  have kW := FW.kp
  have GNu : FnOk P w K mg base CX0 1 fNu fdNu ["value"] (spNum K) := ok_num FNu T.toTxW
  have bNu : Binds K fdNu ["value"] [] := FNu.bindsN fun _ _ _ _ _ _ us hl => match us, hl with | [_], _ => rfl
  have kNu := FNu.kp
  refine F.ok scIsVal (fun vs H Q E h => ?_) (fun cdv A outer s H vs Q E hr h => ?_)
  · obtain ⟨a, n, k, b, v, d, rfl, _⟩ := h
    rfl
  · obtain ⟨a, n, k, b, v, d, rfl, ⟨dx, ha⟩, t, so, q⟩ := h
    have nd := scIsVal.nd
    refine ⟨_, PSs.nox (pss_cons (ps_if (pt_cmpR op_isN (pv 1) pe_non (nomark _)) (pss_one (ps_ret (pe_not (pe_fld (pv 0) rfl)))) pss_nil)
      (pss_cons (ps_if (pt_cmpR op_eq (pe_fld (pv 0) rfl) pe_str (nomark _)) (pss_one (ps_ret (pe_call GNu hr rfl gNu kNu bNu .nil pass0 (pa_cons (pv 1) pa_nil)))) pss_nil)
      (pss_one (ps_ret (pe_call GW hr rfl gW kW bW .nil pass0 (pa_cons (pv 1) pa_nil)))))), ?_⟩
    refine ⟨_, rfl, rfl, _, rfl, ?_⟩
    rw [th_non t]
    cases hn : isNo d with
    | true =>
      refine iteT ?_
      refine ⟨_, rfl, a, _, dx, _, _, rfl, ha, T.cl, T.nR, rfl, _, rfl, ?_⟩
      have q := q H (Same.refl H)
      unfold valOk at q
      rw [if_pos hn] at q
      exact q
    | false =>
      refine iteF ?_
      refine ⟨_, rfl, a, _, dx, _, _, rfl, ha, T.cl, T.nK, rfl, rfl, _, rfl, ?_⟩
      have e : valOk k b d = if k = "number" then isN d else isW d := by
        unfold valOk
        rw [if_neg (by rw [hn]; exact Bool.false_ne_true)]
      refine ite2 (fun h1 => ?_) (fun h1 => ?_)
      · have h1 : V.str k = V.str "number" := of_decide_eq_true h1
        have q := q H (Same.refl H)
        rw [e, if_pos (V.str.inj h1)] at q
        exact ⟨_, rfl, v, d, rfl, t, q⟩
      · have h1 : k ≠ "number" := fun z => h1 (decide_eq_true (congrArg V.str z))
        refine ⟨_, rfl, v, d, rfl, t, so, fun H' sm => ?_⟩
        have q := q H' sm
        rw [e, if_neg h1] at q
        exact q
end
end K02
set_option Elab.async false
set_option linter.all false
set_option maxRecDepth 100000
set_option maxHeartbeats 4000000
namespace K02
open K34 PySem PySem.Spec PyProof.Rows L2
structure ColI (K : PySem.W.Frag) (mg : Str → Option Value) : Prop extends ColT K mg where
  cC : (PySem.W.clsIn K (He.ga K "Column")).isSome = true
  tC : PySem.W.typeIn K (.ref (He.ga K "Column")) = some (.type "type")
  ha : PySem.W.findIn K (.ref (He.ga K "Column")) "__class__" = some (some (.builtin "object.__class__"))
  hn : PySem.W.specialIn K (.builtin "object.__class__") "__get__" = some (some (.builtin "getset_descriptor.__get__"))
  ht : PySem.W.takesIn K (.builtin "object.__class__") = some true
  hm : PySem.W.mroIn K (He.ga K "Column") (.type "object") = some true
section
variable {P : Program} {w : World} {K : PySem.W.Frag} {mg : Str → Option Value} {base : Heap} {f : Addr} {fd : FuncData}
theorem ColI.col (T : ColI K mg) {H : Hp} {a : Addr} {n k : Str} {b : Bool} (c : ColAt K H a n k b) : TyX K H (.ref a) (.ref (He.ga K "Column")) := by
  obtain ⟨dx, h⟩ := c
  exact .base (.ins h T.cl T.ha T.hn T.ht T.hm)
theorem ColI.self (T : ColI K mg) : PySem.W.kitOne K (.ref (He.ga K "Column")) (.ref (He.ga K "Column")) = some true := by
  unfold PySem.W.kitOne
  rw [if_pos (beq_self_eq_true _)]
theorem sub_ref {C : Addr} (d : PyData) : PySem.W.subIn K (.type (tyName d)) (.ref C) = some false := by
  have go : ∀ (t : String) (l : List String), fastBuiltinMro t = some (l.map Value.type) → PySem.W.subIn K (.type t) (.ref C) = some false := fun t l e => by
    show (fastBuiltinMro t).map (·.contains (.ref C)) = some false
    rw [e]
    show some ((l.map Value.type).contains (.ref C)) = some false
    refine congrArg some ?_
    clear e
    induction l with
    | nil => rfl
    | cons y r ih =>
      rw [List.map_cons, List.contains_cons, ih]
      rfl
  cases d with
  | none => exact go "NoneType" ["NoneType", "object"] (by decide +kernel)
  | bool _ => exact go "bool" ["bool", "int", "object"] (by decide +kernel)
  | int _ => exact go "int" ["int", "object"] (by decide +kernel)
  | str _ => exact go "str" ["str", "object"] (by decide +kernel)
  | list _ => exact go "list" ["list", "object"] (by decide +kernel)
  | tuple _ => exact go "tuple" ["tuple", "object"] (by decide +kernel)
  | dict _ => exact go "dict" ["dict", "object"] (by decide +kernel)
theorem ColI.other (T : ColI K mg) (d : PyData) : PySem.W.kitOne K (.type (tyName d)) (.ref (He.ga K "Column")) = some false := by
  unfold PySem.W.kitOne
  rw [if_neg (by intro z; exact nomatch (beq_iff_eq.mp z))]
  show (if ((PySem.W.clsIn K (He.ga K "Column")).isSome && PySem.W.typeIn K (.ref (He.ga K "Column")) == some (.type "type")) = true then PySem.W.subIn K (.type (tyName d)) (.ref (He.ga K "Column")) else none) = some false
  rw [if_pos (by rw [T.cC, T.tC]; rfl)]
  exact sub_ref d
def spEqC (K : PySem.W.Frag) : Sp := fun vs H Q _ => ∃ (a : Addr) (n k : Str) (b : Bool) (v : V), vs = [.ref a, v] ∧ ColAt K H a n k b ∧
  ((∃ d, Th K H v d ∧ Q (.bl false) H) ∨ ∃ (a2 : Addr) (n2 k2 : Str) (b2 : Bool), v = .ref a2 ∧ ColAt K H a2 n2 k2 b2 ∧ Q (.bl (decide (n = n2 ∧ k = k2 ∧ b = b2))) H)
theorem ok_eq (F : FunD K "__eq__" "Column.__eq__" (defArgs sEq) (defBody sEq) (defScope sEq) [] [] f fd) (T : ColI K mg) : FnOk P w K mg base CX0 1 f fd ["self", "other"] (spEqC K) := by
  refine F.ok scEq (fun vs H Q E h => ?_) (fun cdv A outer s H vs Q E hr h => ?_)
  · obtain ⟨a, n, k, b, v, rfl, _⟩ := h
    rfl
  · obtain ⟨a, n, k, b, v, rfl, c, h⟩ := h
    have nd := scEq.nd
    refine ⟨_, PSs.nox (pss_one (ps_ret (pe_and (pe_callB call_isi (by rfl) T.isi (by decide +kernel) (pa_cons (pv 1) (pa_cons (pe_glob (v := .ref (He.ga K "Column")) rfl T.g rfl) pa_nil))) (pe_and (pe_cmpR op_eq (pe_fld (pv 0) rfl) (pe_fld (pv 1) rfl) (nomark _)) (pe_and (pe_cmpR op_eq (pe_fld (pv 0) rfl) (pe_fld (pv 1) rfl) (nomark _)) (pe_one (pe_cmpR op_eq (pe_fld (pv 0) rfl) (pe_fld (pv 1) rfl) (nomark _)))))))), ?_⟩
    rcases h with ⟨d, t, q⟩ | ⟨a2, n2, k2, b2, rfl, c2, q⟩
    · refine ⟨_, rfl, v, .ref (He.ga K "Column"), .type (tyName d), _, false, rfl, .own _, th_ty t, T.other d, _, rfl, ?_⟩
      refine iteF ?_
      exact q
    · refine ⟨_, rfl, _, .ref (He.ga K "Column"), .ref (He.ga K "Column"), _, true, rfl, .own _, T.col c2, T.self, _, rfl, ?_⟩
      refine iteT ?_
      obtain ⟨dx, ha⟩ := c
      obtain ⟨dx2, ha2⟩ := c2
      refine ⟨_, rfl, a, _, dx, _, _, rfl, ha, T.cl, T.nN, rfl, _, rfl, a2, _, dx2, _, _, rfl, ha2, T.cl, T.nN, rfl, rfl, _, rfl, ?_⟩
      refine ite2 (fun h1 => ?_) (fun h1 => ?_)
      · have h1 : n = n2 := V.str.inj (of_decide_eq_true h1)
        refine ⟨_, rfl, a, _, dx, _, _, rfl, ha, T.cl, T.nK, rfl, _, rfl, a2, _, dx2, _, _, rfl, ha2, T.cl, T.nK, rfl, rfl, _, rfl, ?_⟩
        refine ite2 (fun h2 => ?_) (fun h2 => ?_)
        · have h2 : k = k2 := V.str.inj (of_decide_eq_true h2)
          refine ⟨_, rfl, a, _, dx, _, _, rfl, ha, T.cl, T.nR, rfl, _, rfl, a2, _, dx2, _, _, rfl, ha2, T.cl, T.nR, rfl, rfl, ?_⟩
          have e : decide (V.bl b = V.bl b2) = decide (n = n2 ∧ k = k2 ∧ b = b2) := by
            by_cases z : b = b2
            · rw [decide_eq_true (congrArg V.bl z), decide_eq_true ⟨h1, h2, z⟩]
            · rw [decide_eq_false (fun y => z (V.bl.inj y)), decide_eq_false (fun y => z y.2.2)]
          rw [e]
          exact q
        · have h2 : k ≠ k2 := fun z => h2 (decide_eq_true (congrArg V.str z))
          rw [decide_eq_false (fun y => h2 y.2.1)] at q
          exact q
      · have h1 : n ≠ n2 := fun z => h1 (decide_eq_true (congrArg V.str z))
        rw [decide_eq_false (fun y => h1 y.1)] at q
        exact q
end
end K02
set_option Elab.async false
set_option linter.all false
set_option maxRecDepth 100000
set_option maxHeartbeats 4000000
/-! == and != by an own __eq__: both answers -/
namespace K02S
open PySem PySem.Spec PySem.Calls PyProof.Rows PySem.W
section
variable {prog : Program} {w : World} {A : Around} {E : Value → Shared → Prop} {s : Shared} {K : Frag} {x C f : Addr} {ox : Obj} {od : Option Obj} {name : Str} {b tb : Value}
theorem ifBound_B {M : Model} {id : String} {args : List Value} {Q : Option Value → Shared → Prop} (X : K.In s.heap) (I : InstAt s.heap x ox C od) (hs : findIn K (.ref C) name = some (some (.builtin id))) (S : Slot "object" name id)
    (h : wpAny M A (call (.builtin id) (.ref x :: args)) (fun v => Q (some v)) E s) : wpAny M A (callSpecialIfBound? (.ref x) name args) Q E s := by
  simp only [callSpecialIfBound?, bindSpecialIfBound?]
  refine wpAny_holding (wpAny_bind (wpAny_bind (wpAny_bind (I.type.here ((looks_findIn X hs).here ?_)))))
  simp only [S.bind]
  refine wpAny_bind (wpAny_askSetting (wpAny_ite ?_))
  have fin : wpAny M A (call (.builtin id) ([.ref x] ++ args) >>= fun v => pure (some v)) Q E s := wpAny_bind (wpAny_mono h (fun v s' h' => wpAny_pure h') fun _ _ h' => h')
  split
  · exact wpAny_bind (wpAny_pure (wpAny_pure (by exact fin)))
  · exact wpAny_tryCatch (wpAny_bind (wpAny_pure (wpAny_pure (by exact fin))))
theorem objNe_K (X : K.In s.heap) (I : InstAt s.heap x ox C od) (hs : findIn K (.ref C) "__eq__" = some (some (.ref f))) (hf : isFn K (.ref f) = true) (hu : A.units < cLine) {Q : Fin → Shared → Prop}
    (hcall : wpAny (model prog w) A (call (.ref f) [.ref x, b]) (fun v s' => ∃ r, v = .bool r ∧ Q (.done (.ret (.bool (!r)))) s') E s) :
    wpAny (model prog w) A (Builtin.«object.__ne__» ⟨[.ref x, b], []⟩) Q E s := by
  obtain ⟨hp, g, d, t, os⟩ := s
  unfold Builtin.«object.__ne__»
  repeat (first
    | with_reducible refine wpAny_cRoomFor hu ?_
    | (refine wpAny_bind (m := callSpecialIfBound? (.ref x) (Str.ofString "__eq__") [b])
        (ifBound_K X I hs hf (wpAny_mono hcall (fun r s' hr => by
          obtain ⟨b, rfl, hq⟩ := hr
          repeat (first | exact hq | exact wpAny_pure hq | exact wpAny_truthy_bool hq | (refine wpAny_bind (m := truthy (.bool _)) (wpAny_truthy_bool ?_)) | wp_step)) fun _ _ e => e)))
    | wp_step)
theorem ne_K {Q : Value → Shared → Prop} (X : K.In s.heap) (I : InstAt s.heap x ox C od) (hb : Looks (model prog w) s.heap (typeOf b) tb) (hn : notFirst K C tb = true)
    (hne : findIn K (.ref C) "__ne__" = some (some (.builtin "object.__ne__"))) (hm : mroIn K C (.type "object") = some true) (hs : findIn K (.ref C) "__eq__" = some (some (.ref f))) (hf : isFn K (.ref f) = true)
    (hu : A.units < cLine) (hu1 : A.in1.units < cLine) (h : wpAny (model prog w) A.in1 (call (.ref f) [.ref x, b]) (fun v s' => ∃ r, v = .bool r ∧ Q (.bool (!r)) s') E s) : wpAny (model prog w) A (richCompare .NotEq (.ref x) b) Q E s := by
  have one : wpAny (model prog w) A (tryCompare (.ref x) (cmpInfo .NotEq).2.1 b) (fun r s' => ∃ v, r = some v ∧ Q v s') E s := by
    unfold tryCompare
    refine wpAny_bind (ifBound_B (id := "object.__ne__") X I hne F.cmp_object.ne (wpAny_call (codeAny_call_builtin F.cmp_object.ne.plain F.cmpEntry_ne
      (check_slot (owner := "object") (n := "__ne__") (rest := [b]) (kw := []) F.cmpKind_ne F.cmpSplit_ne (I.type.andThen (looks_subIn X hm)) (F.cmpArgs_ne _ _) (objNe_K X I hs hf hu1 (wpAny_mono h (fun v s' hv => ?_) fun _ _ e => e))))))
    obtain ⟨r, rfl, hq⟩ := hv
    first
      | exact ⟨r, rfl, wpAny_pure ⟨_, rfl, hq⟩⟩
      | exact ⟨r, rfl, wpAny_pure (wpAny_pure ⟨_, rfl, hq⟩)⟩
      | exact ⟨r, rfl, ⟨_, rfl, hq⟩⟩
  unfold richCompare
  simp only [oneThing_ref]
  refine wpAny_holding (wpAny_bind (wpAny_cRoomFor hu ?_))
  refine wpAny_bind (I.type.here (wpAny_bind (hb.here ?_)))
  split
  · rename_i q
    have e : subIn K tb (.ref C) = some false := by
      rcases Bool.or_eq_true_iff.mp hn with e | e
      · rw [beq_iff_eq.mp e] at q; simp at q
      · exact beq_iff_eq.mp e
    refine wpAny_bind ((looks_subIn X e).here ?_)
    simp only [Bool.false_eq_true, if_false]
    refine wpAny_bind (wpAny_mono one (fun r s' z => ?_) fun _ _ e => e)
    obtain ⟨v, rfl, hq⟩ := z
    exact wpAny_pure hq
  · refine wpAny_bind (wpAny_pure ?_)
    simp only [Bool.false_eq_true, if_false]
    refine wpAny_bind (wpAny_mono one (fun r s' z => ?_) fun _ _ e => e)
    obtain ⟨v, rfl, hq⟩ := z
    exact wpAny_pure hq
end
end K02S
namespace K02
open K34 PySem PySem.Spec PyProof.Rows L2
/-- what == says of a column and any value -/
def EqCol (K : PySem.W.Frag) (n k : Str) (b : Bool) (y : V) (H : Hp) (r : Bool) : Prop := (∃ d, Th K H y d ∧ r = false) ∨ ∃ (a2 : Addr) (n2 k2 : Str) (b2 : Bool), y = .ref a2 ∧ ColAt K H a2 n2 k2 b2 ∧ r = decide (n = n2 ∧ k = k2 ∧ b = b2)
def rEqC (K : PySem.W.Frag) (g : Bool → Bool) : R2 := fun x y H Q => ∃ (a : Addr) (n k : Str) (b r : Bool), x = .ref a ∧ ColAt K H a n k b ∧ EqCol K n k b y H r ∧ Q (.bl (g r)) H
structure ColE (P : Program) (w : World) (K : PySem.W.Frag) (mg : Str → Option Value) (base : Heap) (f : Addr) (fd : FuncData) : Prop where
  I : ColI K mg
  F : FnOk P w K mg base CX0 1 f fd ["self", "other"] (spEqC K)
  B : Binds K fd ["self", "other"] []
  e : PySem.W.findIn K (.ref (He.ga K "Column")) "__eq__" = some (some (.ref f))
  n : PySem.W.findIn K (.ref (He.ga K "Column")) "__ne__" = some (some (.builtin "object.__ne__"))
  fn : PySem.W.isFn K (.ref f) = true
section
variable {X : Cx} {f : Addr} {fd : FuncData} {pins : List (Addr × Obj)} {σ : L2.St} {H : Hp} {s : Shared}
theorem eq_call (T : ColE X.prog X.w X.K X.mg X.base f fd) (I : Inv X pins σ H s) {A : Around} (hr : Room 1 A) (e0 : Env0 X.prog X.w X.K X.mg X.base A X.stack s H) {a : Addr} {n k : Str} {b r : Bool} {y : V} {v : Value} (c : ColAt X.K H a n k b) (ry : RelV y v) (h : EqCol X.K n k b y H r) {Q : Value → Shared → Prop}
    (hq : ∀ s' H', Inv X pins σ H' s' → H' = H → Q (.bool r) s') : wpAny (model X.prog X.w) A (call (.ref f) [.ref a, v]) Q X.xe s := by
  have hsp : spEqC X.K [.ref a, y] H (fun z H' => z = .bl r ∧ H' = H) E0 := by
    refine ⟨a, n, k, b, y, rfl, c, ?_⟩
    rcases h with ⟨d, t, e⟩ | ⟨a2, n2, k2, b2, e1, c2, e⟩
    · exact .inl ⟨d, t, by rw [e], rfl⟩
    · exact .inr ⟨a2, n2, k2, b2, e1, c2, by rw [e], rfl⟩
  refine wpAny_call (codeAny_mono (T.F.run A X.stack s H ⟨[.ref a, v], []⟩ [.ref a, v] [.ref a, y] _ E0 hr e0 (by
    have z := T.B s [.ref a, v] I.kIn rfl
    simpa using z) (.cons rfl (.cons ry .nil)) hsp) fun r' s' hq' => ?_)
  cases r' with
  | error e => exact False.elim hq'
  | ok fl =>
    cases fl with
    | ret u =>
      obtain ⟨z, H', I', rz, ez, eH⟩ := I.after hq'
      subst ez
      cases rz
      exact hq s' H' I' eH
    | next => exact False.elim hq'
    | brk => exact False.elim hq'
    | cont => exact False.elim hq'
theorem eqcol_ty (T : ColI X.K X.mg) (I : Inv X pins σ H s) {n k : Str} {b r : Bool} {y : V} {v : Value} (ry : RelV y v) (h : EqCol X.K n k b y H r) : ∃ tb, PySem.W.Looks (model X.prog X.w) s.heap (typeOf v) tb ∧ PySem.W.notFirst X.K (He.ga X.K "Column") tb = true := by
  have go : ∀ {t : Value}, TyX X.K H y t → PySem.W.notFirst X.K (He.ga X.K "Column") t = true → ∃ tb, PySem.W.Looks (model X.prog X.w) s.heap (typeOf v) tb ∧ PySem.W.notFirst X.K (He.ga X.K "Column") tb = true := fun {t} ty e => by
    obtain ⟨P, Z, p, hx⟩ := kit_of I ry ty
    exact ⟨t, Z.ty _ _ I.kIn p, e⟩
  rcases h with ⟨d, t, e⟩ | ⟨a2, n2, k2, b2, e1, c2, e⟩
  · refine go (th_ty t) ?_
    unfold PySem.W.notFirst
    rw [sub_ref d, Bool.or_eq_true]
    exact .inr rfl
  · subst e1
    refine go (T.col c2) ?_
    unfold PySem.W.notFirst
    rw [beq_self_eq_true, Bool.true_or]
theorem op_eqC (T : ColE X.prog X.w X.K X.mg X.base f fd) (hr : Room 1 X.A) : OpR X (compareOp .Eq) (rEqC X.K id) := by
  intro pins s σ H x y v u Q I rx ry hq
  obtain ⟨a, n, k, b, r, rfl, c, h, q⟩ := hq
  cases rx
  show wpAny (model X.prog X.w) X.A (richCompare .Eq (.ref a) u) (EP X pins σ Q) X.xe s
  obtain ⟨dx, ha⟩ := id c
  obtain ⟨mA, J, _⟩ := ins_get I.hok ha
  obtain ⟨od, J, _⟩ := J.look
  obtain ⟨m, hF⟩ := I.fr
  obtain ⟨tb, hb, hn⟩ := eqcol_ty T.I I ry h
  refine PySem.W.cmp_K (op := .Eq) (tb := tb) hr.units0 hF I.ok.mod.kin J hb hn T.e T.fn ?_
  refine eq_call T I hr I.env0 c ry h fun s' H' I' e => ?_
  subst e
  exact ⟨.bl r, _, I', rfl, q⟩
theorem op_neC (T : ColE X.prog X.w X.K X.mg X.base f fd) (hr : Room 2 X.A) : OpR X (compareOp .NotEq) (rEqC X.K not) := by
  intro pins s σ H x y v u Q I rx ry hq
  obtain ⟨a, n, k, b, r, rfl, c, h, q⟩ := hq
  cases rx
  show wpAny (model X.prog X.w) X.A (richCompare .NotEq (.ref a) u) (EP X pins σ Q) X.xe s
  obtain ⟨dx, ha⟩ := id c
  obtain ⟨mA, J, _⟩ := ins_get I.hok ha
  obtain ⟨od, J, _⟩ := J.look
  obtain ⟨tb, hb, hn⟩ := eqcol_ty T.I I ry h
  refine K02S.ne_K (tb := tb) I.kIn J hb hn T.n T.I.hm T.e T.fn hr.units0 hr.in1.units0 ?_
  refine eq_call T I hr.in1 I.env0.in1 c ry h fun s' H' I' e => ?_
  subst e
  exact ⟨r, rfl, .bl (!r), _, I', rfl, q⟩
end
end K02
set_option Elab.async false
set_option linter.all false
set_option maxRecDepth 100000
set_option maxHeartbeats 4000000
namespace K02
open K34 PySem PySem.Spec PyProof.Rows L2
theorem up2 {H : Hp} {q b : Addr} {o1 o2 u : HO} (h : H b = some u) (n : H q = none) : upd (upd H q o1) q o2 b = some u := by rw [upd_upd]; exact up h n
theorem same_new2 {q : Addr} {H H' : Hp} {o1 o2 : HO} (a : Same H H') (n : H' q = none) : Same H (upd (upd H' q o1) q o2) := by rw [upd_upd]; exact same_new a n
theorem merge_a : some (HO.dK (mergeK [] [((.inr ("a" : Str) : Key), V.int 1)])) = some (HO.dK [(.inr "a", .int 1)]) := by kernel_rfl
theorem PenAt.same {H H' : Hp} {p c : Addr} {ns : List Int} {t l : Int} (D : PenAt H p c ns t l) (s : Same H H') : PenAt H' p c ns t l := ⟨s _ _ D.d, s _ _ D.c, D.ht, D.hl, D.hn⟩
/-- a datum whose writing is short -/
def dOk (d : PyData) : Bool := d.showable && (decide (d.shown.length ≤ 1000) && (decide (d.depth ≤ 8) && ((PyData.list [d, d]).showable && (decide ((PyData.list [d, d]).shown.length ≤ 1000) && decide ((PyData.list [d, d]).depth ≤ 8)))))
/-- .. as a name, a kind, a value that is asked for, too -/
def shp (d : PyData) : Bool := d.hasDict || SeqAt.shaped d
def tOk : PyData → Bool
  | .tuple ds => ds.all sOk | _ => true
def aOk (d : PyData) : Bool := (((dOk d && PyData.strOk d.shown) && sOk d) && shp d) && tOk d
def spAny (K : PySem.W.Frag) : Sp := fun vs H Q _ => ∃ (p c : Addr) (ns : List Int) (t l : Int), vs = [.ref p] ∧ PenAt H p c ns t l ∧ t < 1000000000000 ∧
  ∀ (v : V) (d : PyData) (t' l' : Int) (H' : Hp), Th K H' v d → aOk d = true → t' ≤ t + 1 → PenAt H' p c ns t' l' → But p H H' → Q v H'
theorem scAny : FnScope ["_law_pen_here", "_law_some"] ["_law_pen_here"] (defScope sAny) := ⟨rfl, rfl, rfl, by decide +kernel, rfl, by decide +kernel, by decide +kernel⟩
section
variable {P : Program} {w : World} {K : PySem.W.Frag} {mg : Str → Option Value} {base : Heap} {f fD fP : Addr} {fd fdD fdP : FuncData}
theorem ok_any (F : FnP K "_law_any_value" sAny f fd) (T : TxB mg) (FD : FnP K "_law_draw" sDraw fD fdD) (gD : mg "_law_draw" = some (.ref fD)) (FP : FnP K "_law_pick" sPick fP fdP) (gP : mg "_law_pick" = some (.ref fP)) : FnOk P w K mg base CX0 3 f fd ["_law_pen_here"] (spAny K) := by
  have GP : FnOk P w K mg base CX0 2 fP fdP ["_law_pen_here", "_law_options"] (spPick K) := ok_pick FP T FD gD
  have bP : Binds K fdP ["_law_pen_here", "_law_options"] [] := FP.bindsN fun _ _ _ _ _ _ us hl => match us, hl with | [_, _], _ => rfl
  have kP := FP.kp
  refine F.ok scAny (fun vs H Q E h => ?_) (fun cdv A outer s H vs Q E hr h => ?_)
  · obtain ⟨p, c, ns, t, l, rfl, _⟩ := h
    rfl
  · obtain ⟨p, c, ns, t, l, rfl, D, ht, k⟩ := h
    have hu := hu_of hr
    have nd := scAny.nd
    refine ⟨_, PSs.nox (pss_cons (ps_set (i := 1) nd rfl (Or.inl rfl) (pe_lst (pa_cons pe_non (pa_cons pe_bl (pa_cons pe_bl (pa_cons pe_int (pa_cons pe_int (pa_cons (pe_un un_neg pe_int) (pa_cons (pe_op op_add (pe_op op_pow pe_int pe_int) pe_int) (pa_cons pe_str (pa_cons pe_str (pa_cons pe_str (pa_cons pe_str (pa_cons (pe_tup pa_nil) (pa_cons (pe_tup (pa_cons pe_int pa_nil)) (pa_cons (pe_lst (pa_cons pe_int pa_nil)) (pa_cons pe_dnewK (pa_cons (pe_disp (pps_cons pe_str pe_int pps_nil) (by rfl) (by rfl) (fun z => by cases z) (by decide)) (pa_cons (pe_tup (pa_cons pe_non pa_nil)) pa_nil)))))))))))))))))))
      (pss_cons (ps_set (i := 1) nd rfl (Or.inl rfl) (pe_op op_cat (pv 1) (pe_lst (pa_cons pe_str (pa_cons (pe_op op_pow pe_int pe_int) (pa_cons (pe_tup (pa_cons pe_str pa_nil)) (pa_cons (pe_tup (pa_cons pe_str (pa_cons pe_str pa_nil))) (pa_cons (pe_tup (pa_cons pe_int (pa_cons pe_str pa_nil))) (pa_cons pe_str (pa_cons pe_str (pa_cons pe_str (pa_cons (pe_lst (pa_cons (pe_tup (pa_cons pe_str (pa_cons pe_int pa_nil))) pa_nil)) (pa_cons (pe_tup (pa_cons pe_str (pa_cons pe_int (pa_cons pe_int pa_nil)))) pa_nil)))))))))))))
      (pss_one (ps_ret (pe_call GP hr rfl gP kP bP .nil pass0 (pa_cons (pv 0) (pa_cons (pv 1) pa_nil))))))), ?_⟩
    have ss := Same.refl H
    have dp := D.d
    refine ⟨_, rfl, _, _, rfl, rfl, ⟨by decide, by decide, by decide⟩, _, _, rfl, rfl, (by show 0 ≤ sizeLine; decide), fun q1 n1 => ?_⟩
    have eq1 : q1 ≠ p := (ne_of_none dp n1).symm
    have dp := up (o := .tup []) dp n1
    have fq1 : (upd H q1 (.tup [])) q1 = some (.tup []) := upd_same
    have ss := same_new (o := .tup []) ss n1
    generalize (upd H q1 (.tup [])) = H1 at ss dp fq1 ⊢
    refine ⟨(by show 1 ≤ sizeLine; decide), fun q2 n2 => ?_⟩
    have eq2 : q2 ≠ p := (ne_of_none dp n2).symm
    have dp := up (o := .tup [.int 1]) dp n2
    have fq1 := up (o := .tup [.int 1]) fq1 n2
    have fq2 : (upd H1 q2 (.tup [.int 1])) q2 = some (.tup [.int 1]) := upd_same
    have ss := same_new (o := .tup [.int 1]) ss n2
    generalize (upd H1 q2 (.tup [.int 1])) = H2 at ss dp fq1 fq2 ⊢
    refine ⟨(by show 1 ≤ sizeLine; decide), fun q3 n3 => ?_⟩
    have eq3 : q3 ≠ p := (ne_of_none dp n3).symm
    have dp := up (o := .lst [.int 1]) dp n3
    have fq1 := up (o := .lst [.int 1]) fq1 n3
    have fq2 := up (o := .lst [.int 1]) fq2 n3
    have fq3 : (upd H2 q3 (.lst [.int 1])) q3 = some (.lst [.int 1]) := upd_same
    have ss := same_new (o := .lst [.int 1]) ss n3
    generalize (upd H2 q3 (.lst [.int 1])) = H3 at ss dp fq1 fq2 fq3 ⊢
    refine fun q4 n4 => ?_
    have eq4 : q4 ≠ p := (ne_of_none dp n4).symm
    have dp := up (o := .dK []) dp n4
    have fq1 := up (o := .dK []) fq1 n4
    have fq2 := up (o := .dK []) fq2 n4
    have fq3 := up (o := .dK []) fq3 n4
    have fq4 : (upd H3 q4 (.dK [])) q4 = some (.dK []) := upd_same
    have ss := same_new (o := .dK []) ss n4
    generalize (upd H3 q4 (.dK [])) = H4 at ss dp fq1 fq2 fq3 fq4 ⊢
    refine fun q5 n5 => ⟨upd_same, [((.inr ("a" : Str) : Key), V.int 1)], rfl, (by show 1 ≤ 15; decide), ?_⟩
    have eq5 : q5 ≠ p := (ne_of_none dp n5).symm
    have dp := up2 (u := _) (o1 := .dK []) (o2 := .dK (mergeK [] [((.inr ("a" : Str) : Key), V.int 1)])) dp n5
    have fq1 := up2 (u := _) (o1 := .dK []) (o2 := .dK (mergeK [] [((.inr ("a" : Str) : Key), V.int 1)])) fq1 n5
    have fq2 := up2 (u := _) (o1 := .dK []) (o2 := .dK (mergeK [] [((.inr ("a" : Str) : Key), V.int 1)])) fq2 n5
    have fq3 := up2 (u := _) (o1 := .dK []) (o2 := .dK (mergeK [] [((.inr ("a" : Str) : Key), V.int 1)])) fq3 n5
    have fq4 := up2 (u := _) (o1 := .dK []) (o2 := .dK (mergeK [] [((.inr ("a" : Str) : Key), V.int 1)])) fq4 n5
    have fq5 : (upd (upd H4 q5 (.dK [])) q5 (.dK (mergeK [] [((.inr ("a" : Str) : Key), V.int 1)]))) q5 = some (.dK [(.inr "a", .int 1)]) := upd_same.trans merge_a
    have ss := same_new2 (o1 := .dK []) (o2 := .dK (mergeK [] [((.inr ("a" : Str) : Key), V.int 1)])) ss n5
    generalize (upd (upd H4 q5 (.dK [])) q5 (.dK (mergeK [] [((.inr ("a" : Str) : Key), V.int 1)]))) = H5 at ss dp fq1 fq2 fq3 fq4 fq5 ⊢
    refine ⟨(by show 1 ≤ sizeLine; decide), fun q6 n6 => ?_⟩
    have eq6 : q6 ≠ p := (ne_of_none dp n6).symm
    have dp := up (o := .tup [.non]) dp n6
    have fq1 := up (o := .tup [.non]) fq1 n6
    have fq2 := up (o := .tup [.non]) fq2 n6
    have fq3 := up (o := .tup [.non]) fq3 n6
    have fq4 := up (o := .tup [.non]) fq4 n6
    have fq5 := up (o := .tup [.non]) fq5 n6
    have fq6 : (upd H5 q6 (.tup [.non])) q6 = some (.tup [.non]) := upd_same
    have ss := same_new (o := .tup [.non]) ss n6
    generalize (upd H5 q6 (.tup [.non])) = H6 at ss dp fq1 fq2 fq3 fq4 fq5 fq6 ⊢
    refine ⟨(by show 17 ≤ sizeLine; decide), fun q7 n7 => ?_⟩
    have eq7 : q7 ≠ p := (ne_of_none dp n7).symm
    have dp := up (o := .lst [.non, .bl true, .bl false, .int 0, .int 1, .int (-1), .int (10 ^ (30 : Int).toNat + 1), .str "", .str "a", .str "A", .str "and", .ref q1, .ref q2, .ref q3, .ref q4, .ref q5, .ref q6]) dp n7
    have fq1 := up (o := .lst [.non, .bl true, .bl false, .int 0, .int 1, .int (-1), .int (10 ^ (30 : Int).toNat + 1), .str "", .str "a", .str "A", .str "and", .ref q1, .ref q2, .ref q3, .ref q4, .ref q5, .ref q6]) fq1 n7
    have fq2 := up (o := .lst [.non, .bl true, .bl false, .int 0, .int 1, .int (-1), .int (10 ^ (30 : Int).toNat + 1), .str "", .str "a", .str "A", .str "and", .ref q1, .ref q2, .ref q3, .ref q4, .ref q5, .ref q6]) fq2 n7
    have fq3 := up (o := .lst [.non, .bl true, .bl false, .int 0, .int 1, .int (-1), .int (10 ^ (30 : Int).toNat + 1), .str "", .str "a", .str "A", .str "and", .ref q1, .ref q2, .ref q3, .ref q4, .ref q5, .ref q6]) fq3 n7
    have fq4 := up (o := .lst [.non, .bl true, .bl false, .int 0, .int 1, .int (-1), .int (10 ^ (30 : Int).toNat + 1), .str "", .str "a", .str "A", .str "and", .ref q1, .ref q2, .ref q3, .ref q4, .ref q5, .ref q6]) fq4 n7
    have fq5 := up (o := .lst [.non, .bl true, .bl false, .int 0, .int 1, .int (-1), .int (10 ^ (30 : Int).toNat + 1), .str "", .str "a", .str "A", .str "and", .ref q1, .ref q2, .ref q3, .ref q4, .ref q5, .ref q6]) fq5 n7
    have fq6 := up (o := .lst [.non, .bl true, .bl false, .int 0, .int 1, .int (-1), .int (10 ^ (30 : Int).toNat + 1), .str "", .str "a", .str "A", .str "and", .ref q1, .ref q2, .ref q3, .ref q4, .ref q5, .ref q6]) fq6 n7
    have fq7 : (upd H6 q7 (.lst [.non, .bl true, .bl false, .int 0, .int 1, .int (-1), .int (10 ^ (30 : Int).toNat + 1), .str "", .str "a", .str "A", .str "and", .ref q1, .ref q2, .ref q3, .ref q4, .ref q5, .ref q6])) q7 = some (.lst [.non, .bl true, .bl false, .int 0, .int 1, .int (-1), .int (10 ^ (30 : Int).toNat + 1), .str "", .str "a", .str "A", .str "and", .ref q1, .ref q2, .ref q3, .ref q4, .ref q5, .ref q6]) := upd_same
    have ss := same_new (o := .lst [.non, .bl true, .bl false, .int 0, .int 1, .int (-1), .int (10 ^ (30 : Int).toNat + 1), .str "", .str "a", .str "A", .str "and", .ref q1, .ref q2, .ref q3, .ref q4, .ref q5, .ref q6]) ss n7
    generalize (upd H6 q7 (.lst [.non, .bl true, .bl false, .int 0, .int 1, .int (-1), .int (10 ^ (30 : Int).toNat + 1), .str "", .str "a", .str "A", .str "and", .ref q1, .ref q2, .ref q3, .ref q4, .ref q5, .ref q6])) = H7 at ss dp fq1 fq2 fq3 fq4 fq5 fq6 fq7 ⊢
    refine ⟨_, rfl, _, _, rfl, rfl, ⟨by decide, by decide, by decide⟩, (by show 1 ≤ sizeLine; decide), fun q8 n8 => ?_⟩
    have eq8 : q8 ≠ p := (ne_of_none dp n8).symm
    have dp := up (o := .tup [.str "-"]) dp n8
    have fq1 := up (o := .tup [.str "-"]) fq1 n8
    have fq2 := up (o := .tup [.str "-"]) fq2 n8
    have fq3 := up (o := .tup [.str "-"]) fq3 n8
    have fq4 := up (o := .tup [.str "-"]) fq4 n8
    have fq5 := up (o := .tup [.str "-"]) fq5 n8
    have fq6 := up (o := .tup [.str "-"]) fq6 n8
    have fq7 := up (o := .tup [.str "-"]) fq7 n8
    have fq8 : (upd H7 q8 (.tup [.str "-"])) q8 = some (.tup [.str "-"]) := upd_same
    have ss := same_new (o := .tup [.str "-"]) ss n8
    generalize (upd H7 q8 (.tup [.str "-"])) = H8 at ss dp fq1 fq2 fq3 fq4 fq5 fq6 fq7 fq8 ⊢
    refine ⟨(by show 2 ≤ sizeLine; decide), fun q9 n9 => ?_⟩
    have eq9 : q9 ≠ p := (ne_of_none dp n9).symm
    have dp := up (o := .tup [.str "+", .str "-"]) dp n9
    have fq1 := up (o := .tup [.str "+", .str "-"]) fq1 n9
    have fq2 := up (o := .tup [.str "+", .str "-"]) fq2 n9
    have fq3 := up (o := .tup [.str "+", .str "-"]) fq3 n9
    have fq4 := up (o := .tup [.str "+", .str "-"]) fq4 n9
    have fq5 := up (o := .tup [.str "+", .str "-"]) fq5 n9
    have fq6 := up (o := .tup [.str "+", .str "-"]) fq6 n9
    have fq7 := up (o := .tup [.str "+", .str "-"]) fq7 n9
    have fq8 := up (o := .tup [.str "+", .str "-"]) fq8 n9
    have fq9 : (upd H8 q9 (.tup [.str "+", .str "-"])) q9 = some (.tup [.str "+", .str "-"]) := upd_same
    have ss := same_new (o := .tup [.str "+", .str "-"]) ss n9
    generalize (upd H8 q9 (.tup [.str "+", .str "-"])) = H9 at ss dp fq1 fq2 fq3 fq4 fq5 fq6 fq7 fq8 fq9 ⊢
    refine ⟨(by show 2 ≤ sizeLine; decide), fun q10 n10 => ?_⟩
    have eq10 : q10 ≠ p := (ne_of_none dp n10).symm
    have dp := up (o := .tup [.int 1, .str "a"]) dp n10
    have fq1 := up (o := .tup [.int 1, .str "a"]) fq1 n10
    have fq2 := up (o := .tup [.int 1, .str "a"]) fq2 n10
    have fq3 := up (o := .tup [.int 1, .str "a"]) fq3 n10
    have fq4 := up (o := .tup [.int 1, .str "a"]) fq4 n10
    have fq5 := up (o := .tup [.int 1, .str "a"]) fq5 n10
    have fq6 := up (o := .tup [.int 1, .str "a"]) fq6 n10
    have fq7 := up (o := .tup [.int 1, .str "a"]) fq7 n10
    have fq8 := up (o := .tup [.int 1, .str "a"]) fq8 n10
    have fq9 := up (o := .tup [.int 1, .str "a"]) fq9 n10
    have fq10 : (upd H9 q10 (.tup [.int 1, .str "a"])) q10 = some (.tup [.int 1, .str "a"]) := upd_same
    have ss := same_new (o := .tup [.int 1, .str "a"]) ss n10
    generalize (upd H9 q10 (.tup [.int 1, .str "a"])) = H10 at ss dp fq1 fq2 fq3 fq4 fq5 fq6 fq7 fq8 fq9 fq10 ⊢
    refine ⟨(by show 2 ≤ sizeLine; decide), fun q11 n11 => ?_⟩
    have eq11 : q11 ≠ p := (ne_of_none dp n11).symm
    have dp := up (o := .tup [.str "a", .int 1]) dp n11
    have fq1 := up (o := .tup [.str "a", .int 1]) fq1 n11
    have fq2 := up (o := .tup [.str "a", .int 1]) fq2 n11
    have fq3 := up (o := .tup [.str "a", .int 1]) fq3 n11
    have fq4 := up (o := .tup [.str "a", .int 1]) fq4 n11
    have fq5 := up (o := .tup [.str "a", .int 1]) fq5 n11
    have fq6 := up (o := .tup [.str "a", .int 1]) fq6 n11
    have fq7 := up (o := .tup [.str "a", .int 1]) fq7 n11
    have fq8 := up (o := .tup [.str "a", .int 1]) fq8 n11
    have fq9 := up (o := .tup [.str "a", .int 1]) fq9 n11
    have fq10 := up (o := .tup [.str "a", .int 1]) fq10 n11
    have fq11 : (upd H10 q11 (.tup [.str "a", .int 1])) q11 = some (.tup [.str "a", .int 1]) := upd_same
    have ss := same_new (o := .tup [.str "a", .int 1]) ss n11
    generalize (upd H10 q11 (.tup [.str "a", .int 1])) = H11 at ss dp fq1 fq2 fq3 fq4 fq5 fq6 fq7 fq8 fq9 fq10 fq11 ⊢
    refine ⟨(by show 1 ≤ sizeLine; decide), fun q12 n12 => ?_⟩
    have eq12 : q12 ≠ p := (ne_of_none dp n12).symm
    have dp := up (o := .lst [.ref q11]) dp n12
    have fq1 := up (o := .lst [.ref q11]) fq1 n12
    have fq2 := up (o := .lst [.ref q11]) fq2 n12
    have fq3 := up (o := .lst [.ref q11]) fq3 n12
    have fq4 := up (o := .lst [.ref q11]) fq4 n12
    have fq5 := up (o := .lst [.ref q11]) fq5 n12
    have fq6 := up (o := .lst [.ref q11]) fq6 n12
    have fq7 := up (o := .lst [.ref q11]) fq7 n12
    have fq8 := up (o := .lst [.ref q11]) fq8 n12
    have fq9 := up (o := .lst [.ref q11]) fq9 n12
    have fq10 := up (o := .lst [.ref q11]) fq10 n12
    have fq11 := up (o := .lst [.ref q11]) fq11 n12
    have fq12 : (upd H11 q12 (.lst [.ref q11])) q12 = some (.lst [.ref q11]) := upd_same
    have ss := same_new (o := .lst [.ref q11]) ss n12
    generalize (upd H11 q12 (.lst [.ref q11])) = H12 at ss dp fq1 fq2 fq3 fq4 fq5 fq6 fq7 fq8 fq9 fq10 fq11 fq12 ⊢
    refine ⟨(by show 3 ≤ sizeLine; decide), fun q13 n13 => ?_⟩
    have eq13 : q13 ≠ p := (ne_of_none dp n13).symm
    have dp := up (o := .tup [.str "a", .int 1, .int 2]) dp n13
    have fq1 := up (o := .tup [.str "a", .int 1, .int 2]) fq1 n13
    have fq2 := up (o := .tup [.str "a", .int 1, .int 2]) fq2 n13
    have fq3 := up (o := .tup [.str "a", .int 1, .int 2]) fq3 n13
    have fq4 := up (o := .tup [.str "a", .int 1, .int 2]) fq4 n13
    have fq5 := up (o := .tup [.str "a", .int 1, .int 2]) fq5 n13
    have fq6 := up (o := .tup [.str "a", .int 1, .int 2]) fq6 n13
    have fq7 := up (o := .tup [.str "a", .int 1, .int 2]) fq7 n13
    have fq8 := up (o := .tup [.str "a", .int 1, .int 2]) fq8 n13
    have fq9 := up (o := .tup [.str "a", .int 1, .int 2]) fq9 n13
    have fq10 := up (o := .tup [.str "a", .int 1, .int 2]) fq10 n13
    have fq11 := up (o := .tup [.str "a", .int 1, .int 2]) fq11 n13
    have fq12 := up (o := .tup [.str "a", .int 1, .int 2]) fq12 n13
    have fq13 : (upd H12 q13 (.tup [.str "a", .int 1, .int 2])) q13 = some (.tup [.str "a", .int 1, .int 2]) := upd_same
    have ss := same_new (o := .tup [.str "a", .int 1, .int 2]) ss n13
    generalize (upd H12 q13 (.tup [.str "a", .int 1, .int 2])) = H13 at ss dp fq1 fq2 fq3 fq4 fq5 fq6 fq7 fq8 fq9 fq10 fq11 fq12 fq13 ⊢
    refine ⟨(by show 10 ≤ sizeLine; decide), fun q14 n14 => ?_⟩
    have eq14 : q14 ≠ p := (ne_of_none dp n14).symm
    have dp := up (o := .lst [.str "null", .int (10 ^ (59 : Int).toNat), .ref q8, .ref q9, .ref q10, .str "'a", .str " ", .str "a b", .ref q12, .ref q13]) dp n14
    have fq1 := up (o := .lst [.str "null", .int (10 ^ (59 : Int).toNat), .ref q8, .ref q9, .ref q10, .str "'a", .str " ", .str "a b", .ref q12, .ref q13]) fq1 n14
    have fq2 := up (o := .lst [.str "null", .int (10 ^ (59 : Int).toNat), .ref q8, .ref q9, .ref q10, .str "'a", .str " ", .str "a b", .ref q12, .ref q13]) fq2 n14
    have fq3 := up (o := .lst [.str "null", .int (10 ^ (59 : Int).toNat), .ref q8, .ref q9, .ref q10, .str "'a", .str " ", .str "a b", .ref q12, .ref q13]) fq3 n14
    have fq4 := up (o := .lst [.str "null", .int (10 ^ (59 : Int).toNat), .ref q8, .ref q9, .ref q10, .str "'a", .str " ", .str "a b", .ref q12, .ref q13]) fq4 n14
    have fq5 := up (o := .lst [.str "null", .int (10 ^ (59 : Int).toNat), .ref q8, .ref q9, .ref q10, .str "'a", .str " ", .str "a b", .ref q12, .ref q13]) fq5 n14
    have fq6 := up (o := .lst [.str "null", .int (10 ^ (59 : Int).toNat), .ref q8, .ref q9, .ref q10, .str "'a", .str " ", .str "a b", .ref q12, .ref q13]) fq6 n14
    have fq7 := up (o := .lst [.str "null", .int (10 ^ (59 : Int).toNat), .ref q8, .ref q9, .ref q10, .str "'a", .str " ", .str "a b", .ref q12, .ref q13]) fq7 n14
    have fq8 := up (o := .lst [.str "null", .int (10 ^ (59 : Int).toNat), .ref q8, .ref q9, .ref q10, .str "'a", .str " ", .str "a b", .ref q12, .ref q13]) fq8 n14
    have fq9 := up (o := .lst [.str "null", .int (10 ^ (59 : Int).toNat), .ref q8, .ref q9, .ref q10, .str "'a", .str " ", .str "a b", .ref q12, .ref q13]) fq9 n14
    have fq10 := up (o := .lst [.str "null", .int (10 ^ (59 : Int).toNat), .ref q8, .ref q9, .ref q10, .str "'a", .str " ", .str "a b", .ref q12, .ref q13]) fq10 n14
    have fq11 := up (o := .lst [.str "null", .int (10 ^ (59 : Int).toNat), .ref q8, .ref q9, .ref q10, .str "'a", .str " ", .str "a b", .ref q12, .ref q13]) fq11 n14
    have fq12 := up (o := .lst [.str "null", .int (10 ^ (59 : Int).toNat), .ref q8, .ref q9, .ref q10, .str "'a", .str " ", .str "a b", .ref q12, .ref q13]) fq12 n14
    have fq13 := up (o := .lst [.str "null", .int (10 ^ (59 : Int).toNat), .ref q8, .ref q9, .ref q10, .str "'a", .str " ", .str "a b", .ref q12, .ref q13]) fq13 n14
    have fq14 : (upd H13 q14 (.lst [.str "null", .int (10 ^ (59 : Int).toNat), .ref q8, .ref q9, .ref q10, .str "'a", .str " ", .str "a b", .ref q12, .ref q13])) q14 = some (.lst [.str "null", .int (10 ^ (59 : Int).toNat), .ref q8, .ref q9, .ref q10, .str "'a", .str " ", .str "a b", .ref q12, .ref q13]) := upd_same
    have ss := same_new (o := .lst [.str "null", .int (10 ^ (59 : Int).toNat), .ref q8, .ref q9, .ref q10, .str "'a", .str " ", .str "a b", .ref q12, .ref q13]) ss n14
    generalize (upd H13 q14 (.lst [.str "null", .int (10 ^ (59 : Int).toNat), .ref q8, .ref q9, .ref q10, .str "'a", .str " ", .str "a b", .ref q12, .ref q13])) = H14 at ss dp fq1 fq2 fq3 fq4 fq5 fq6 fq7 fq8 fq9 fq10 fq11 fq12 fq13 fq14 ⊢
    refine ⟨q7, q14, _, _, rfl, rfl, fq7, fq14, (by show 27 ≤ sizeLine; decide), fun q15 n15 => ?_⟩
    have eq15 : q15 ≠ p := (ne_of_none dp n15).symm
    have dp := up (o := .lst ([.non, .bl true, .bl false, .int 0, .int 1, .int (-1), .int (10 ^ (30 : Int).toNat + 1), .str "", .str "a", .str "A", .str "and", .ref q1, .ref q2, .ref q3, .ref q4, .ref q5, .ref q6] ++ [.str "null", .int (10 ^ (59 : Int).toNat), .ref q8, .ref q9, .ref q10, .str "'a", .str " ", .str "a b", .ref q12, .ref q13])) dp n15
    have fq1 := up (o := .lst ([.non, .bl true, .bl false, .int 0, .int 1, .int (-1), .int (10 ^ (30 : Int).toNat + 1), .str "", .str "a", .str "A", .str "and", .ref q1, .ref q2, .ref q3, .ref q4, .ref q5, .ref q6] ++ [.str "null", .int (10 ^ (59 : Int).toNat), .ref q8, .ref q9, .ref q10, .str "'a", .str " ", .str "a b", .ref q12, .ref q13])) fq1 n15
    have fq2 := up (o := .lst ([.non, .bl true, .bl false, .int 0, .int 1, .int (-1), .int (10 ^ (30 : Int).toNat + 1), .str "", .str "a", .str "A", .str "and", .ref q1, .ref q2, .ref q3, .ref q4, .ref q5, .ref q6] ++ [.str "null", .int (10 ^ (59 : Int).toNat), .ref q8, .ref q9, .ref q10, .str "'a", .str " ", .str "a b", .ref q12, .ref q13])) fq2 n15
    have fq3 := up (o := .lst ([.non, .bl true, .bl false, .int 0, .int 1, .int (-1), .int (10 ^ (30 : Int).toNat + 1), .str "", .str "a", .str "A", .str "and", .ref q1, .ref q2, .ref q3, .ref q4, .ref q5, .ref q6] ++ [.str "null", .int (10 ^ (59 : Int).toNat), .ref q8, .ref q9, .ref q10, .str "'a", .str " ", .str "a b", .ref q12, .ref q13])) fq3 n15
    have fq4 := up (o := .lst ([.non, .bl true, .bl false, .int 0, .int 1, .int (-1), .int (10 ^ (30 : Int).toNat + 1), .str "", .str "a", .str "A", .str "and", .ref q1, .ref q2, .ref q3, .ref q4, .ref q5, .ref q6] ++ [.str "null", .int (10 ^ (59 : Int).toNat), .ref q8, .ref q9, .ref q10, .str "'a", .str " ", .str "a b", .ref q12, .ref q13])) fq4 n15
    have fq5 := up (o := .lst ([.non, .bl true, .bl false, .int 0, .int 1, .int (-1), .int (10 ^ (30 : Int).toNat + 1), .str "", .str "a", .str "A", .str "and", .ref q1, .ref q2, .ref q3, .ref q4, .ref q5, .ref q6] ++ [.str "null", .int (10 ^ (59 : Int).toNat), .ref q8, .ref q9, .ref q10, .str "'a", .str " ", .str "a b", .ref q12, .ref q13])) fq5 n15
    have fq6 := up (o := .lst ([.non, .bl true, .bl false, .int 0, .int 1, .int (-1), .int (10 ^ (30 : Int).toNat + 1), .str "", .str "a", .str "A", .str "and", .ref q1, .ref q2, .ref q3, .ref q4, .ref q5, .ref q6] ++ [.str "null", .int (10 ^ (59 : Int).toNat), .ref q8, .ref q9, .ref q10, .str "'a", .str " ", .str "a b", .ref q12, .ref q13])) fq6 n15
    have fq7 := up (o := .lst ([.non, .bl true, .bl false, .int 0, .int 1, .int (-1), .int (10 ^ (30 : Int).toNat + 1), .str "", .str "a", .str "A", .str "and", .ref q1, .ref q2, .ref q3, .ref q4, .ref q5, .ref q6] ++ [.str "null", .int (10 ^ (59 : Int).toNat), .ref q8, .ref q9, .ref q10, .str "'a", .str " ", .str "a b", .ref q12, .ref q13])) fq7 n15
    have fq8 := up (o := .lst ([.non, .bl true, .bl false, .int 0, .int 1, .int (-1), .int (10 ^ (30 : Int).toNat + 1), .str "", .str "a", .str "A", .str "and", .ref q1, .ref q2, .ref q3, .ref q4, .ref q5, .ref q6] ++ [.str "null", .int (10 ^ (59 : Int).toNat), .ref q8, .ref q9, .ref q10, .str "'a", .str " ", .str "a b", .ref q12, .ref q13])) fq8 n15
    have fq9 := up (o := .lst ([.non, .bl true, .bl false, .int 0, .int 1, .int (-1), .int (10 ^ (30 : Int).toNat + 1), .str "", .str "a", .str "A", .str "and", .ref q1, .ref q2, .ref q3, .ref q4, .ref q5, .ref q6] ++ [.str "null", .int (10 ^ (59 : Int).toNat), .ref q8, .ref q9, .ref q10, .str "'a", .str " ", .str "a b", .ref q12, .ref q13])) fq9 n15
    have fq10 := up (o := .lst ([.non, .bl true, .bl false, .int 0, .int 1, .int (-1), .int (10 ^ (30 : Int).toNat + 1), .str "", .str "a", .str "A", .str "and", .ref q1, .ref q2, .ref q3, .ref q4, .ref q5, .ref q6] ++ [.str "null", .int (10 ^ (59 : Int).toNat), .ref q8, .ref q9, .ref q10, .str "'a", .str " ", .str "a b", .ref q12, .ref q13])) fq10 n15
    have fq11 := up (o := .lst ([.non, .bl true, .bl false, .int 0, .int 1, .int (-1), .int (10 ^ (30 : Int).toNat + 1), .str "", .str "a", .str "A", .str "and", .ref q1, .ref q2, .ref q3, .ref q4, .ref q5, .ref q6] ++ [.str "null", .int (10 ^ (59 : Int).toNat), .ref q8, .ref q9, .ref q10, .str "'a", .str " ", .str "a b", .ref q12, .ref q13])) fq11 n15
    have fq12 := up (o := .lst ([.non, .bl true, .bl false, .int 0, .int 1, .int (-1), .int (10 ^ (30 : Int).toNat + 1), .str "", .str "a", .str "A", .str "and", .ref q1, .ref q2, .ref q3, .ref q4, .ref q5, .ref q6] ++ [.str "null", .int (10 ^ (59 : Int).toNat), .ref q8, .ref q9, .ref q10, .str "'a", .str " ", .str "a b", .ref q12, .ref q13])) fq12 n15
    have fq13 := up (o := .lst ([.non, .bl true, .bl false, .int 0, .int 1, .int (-1), .int (10 ^ (30 : Int).toNat + 1), .str "", .str "a", .str "A", .str "and", .ref q1, .ref q2, .ref q3, .ref q4, .ref q5, .ref q6] ++ [.str "null", .int (10 ^ (59 : Int).toNat), .ref q8, .ref q9, .ref q10, .str "'a", .str " ", .str "a b", .ref q12, .ref q13])) fq13 n15
    have fq14 := up (o := .lst ([.non, .bl true, .bl false, .int 0, .int 1, .int (-1), .int (10 ^ (30 : Int).toNat + 1), .str "", .str "a", .str "A", .str "and", .ref q1, .ref q2, .ref q3, .ref q4, .ref q5, .ref q6] ++ [.str "null", .int (10 ^ (59 : Int).toNat), .ref q8, .ref q9, .ref q10, .str "'a", .str " ", .str "a b", .ref q12, .ref q13])) fq14 n15
    have fq15 : (upd H14 q15 (.lst ([.non, .bl true, .bl false, .int 0, .int 1, .int (-1), .int (10 ^ (30 : Int).toNat + 1), .str "", .str "a", .str "A", .str "and", .ref q1, .ref q2, .ref q3, .ref q4, .ref q5, .ref q6] ++ [.str "null", .int (10 ^ (59 : Int).toNat), .ref q8, .ref q9, .ref q10, .str "'a", .str " ", .str "a b", .ref q12, .ref q13]))) q15 = some (.lst ([.non, .bl true, .bl false, .int 0, .int 1, .int (-1), .int (10 ^ (30 : Int).toNat + 1), .str "", .str "a", .str "A", .str "and", .ref q1, .ref q2, .ref q3, .ref q4, .ref q5, .ref q6] ++ [.str "null", .int (10 ^ (59 : Int).toNat), .ref q8, .ref q9, .ref q10, .str "'a", .str " ", .str "a b", .ref q12, .ref q13])) := upd_same
    have ss := same_new (o := .lst ([.non, .bl true, .bl false, .int 0, .int 1, .int (-1), .int (10 ^ (30 : Int).toNat + 1), .str "", .str "a", .str "A", .str "and", .ref q1, .ref q2, .ref q3, .ref q4, .ref q5, .ref q6] ++ [.str "null", .int (10 ^ (59 : Int).toNat), .ref q8, .ref q9, .ref q10, .str "'a", .str " ", .str "a b", .ref q12, .ref q13])) ss n15
    generalize (upd H14 q15 (.lst ([.non, .bl true, .bl false, .int 0, .int 1, .int (-1), .int (10 ^ (30 : Int).toNat + 1), .str "", .str "a", .str "A", .str "and", .ref q1, .ref q2, .ref q3, .ref q4, .ref q5, .ref q6] ++ [.str "null", .int (10 ^ (59 : Int).toNat), .ref q8, .ref q9, .ref q10, .str "'a", .str " ", .str "a b", .ref q12, .ref q13]))) = H15 at ss dp fq1 fq2 fq3 fq4 fq5 fq6 fq7 fq8 fq9 fq10 fq11 fq12 fq13 fq14 fq15 ⊢
    refine ⟨_, rfl, _, rfl, p, c, q15, ns, t, l, _, rfl, D.same ss, ht, SqL.of fq15, (by simp), (by show 27 < 1000000; decide), fun x t' l' H' hx h1 D' b => ?_⟩
    have bb : But p H H' := (But.of ss).trans b
    have gq1 := b _ _ eq1 fq1
    have gq2 := b _ _ eq2 fq2
    have gq3 := b _ _ eq3 fq3
    have gq4 := b _ _ eq4 fq4
    have gq5 := b _ _ eq5 fq5
    have gq6 := b _ _ eq6 fq6
    have gq8 := b _ _ eq8 fq8
    have gq9 := b _ _ eq9 fq9
    have gq10 := b _ _ eq10 fq10
    have gq11 := b _ _ eq11 fq11
    have gq12 := b _ _ eq12 fq12
    have gq13 := b _ _ eq13 fq13
    rcases List.mem_cons.mp hx with rfl | hx
    · exact k _ (.none) t' l' H' (.dp .non rfl) (by decide +kernel) h1 D' bb
    rcases List.mem_cons.mp hx with rfl | hx
    · exact k _ (.bool true) t' l' H' (.dp (.bl _) rfl) (by decide +kernel) h1 D' bb
    rcases List.mem_cons.mp hx with rfl | hx
    · exact k _ (.bool false) t' l' H' (.dp (.bl _) rfl) (by decide +kernel) h1 D' bb
    rcases List.mem_cons.mp hx with rfl | hx
    · exact k _ (.int 0) t' l' H' (.dp (.int _) rfl) (by decide +kernel) h1 D' bb
    rcases List.mem_cons.mp hx with rfl | hx
    · exact k _ (.int 1) t' l' H' (.dp (.int _) rfl) (by decide +kernel) h1 D' bb
    rcases List.mem_cons.mp hx with rfl | hx
    · exact k _ (.int (-1)) t' l' H' (.dp (.int _) rfl) (by decide +kernel) h1 D' bb
    rcases List.mem_cons.mp hx with rfl | hx
    · exact k _ (.int (10 ^ (30 : Int).toNat + 1)) t' l' H' (.dp (.int _) rfl) (by decide +kernel) h1 D' bb
    rcases List.mem_cons.mp hx with rfl | hx
    · exact k _ (.str "") t' l' H' (.dp (.str _) rfl) (by decide +kernel) h1 D' bb
    rcases List.mem_cons.mp hx with rfl | hx
    · exact k _ (.str "a") t' l' H' (.dp (.str _) rfl) (by decide +kernel) h1 D' bb
    rcases List.mem_cons.mp hx with rfl | hx
    · exact k _ (.str "A") t' l' H' (.dp (.str _) rfl) (by decide +kernel) h1 D' bb
    rcases List.mem_cons.mp hx with rfl | hx
    · exact k _ (.str "and") t' l' H' (.dp (.str _) rfl) (by decide +kernel) h1 D' bb
    rcases List.mem_cons.mp hx with rfl | hx
    · exact k _ (.tuple []) t' l' H' (.dp (.tup (SqT.of gq1) .nil) rfl) (by decide +kernel) h1 D' bb
    rcases List.mem_cons.mp hx with rfl | hx
    · exact k _ (.tuple [.int 1]) t' l' H' (.dp (.tup (SqT.of gq2) (.cons (.int _) .nil)) rfl) (by decide +kernel) h1 D' bb
    rcases List.mem_cons.mp hx with rfl | hx
    · exact k _ (.list [.int 1]) t' l' H' (.dp (.lst (SqL.of gq3) (.cons (.int _) .nil)) rfl) (by decide +kernel) h1 D' bb
    rcases List.mem_cons.mp hx with rfl | hx
    · exact k _ (.dict []) t' l' H' (.d0 gq4) (by decide +kernel) h1 D' bb
    rcases List.mem_cons.mp hx with rfl | hx
    · exact k _ (.dict [(.str "a", .int 1)]) t' l' H' (.d1 gq5) (by decide +kernel) h1 D' bb
    rcases List.mem_cons.mp hx with rfl | hx
    · exact k _ (.tuple [.none]) t' l' H' (.dp (.tup (SqT.of gq6) (.cons .non .nil)) rfl) (by decide +kernel) h1 D' bb
    rcases List.mem_cons.mp hx with rfl | hx
    · exact k _ (.str "null") t' l' H' (.dp (.str _) rfl) (by decide +kernel) h1 D' bb
    rcases List.mem_cons.mp hx with rfl | hx
    · exact k _ (.int (10 ^ (59 : Int).toNat)) t' l' H' (.dp (.int _) rfl) (by decide +kernel) h1 D' bb
    rcases List.mem_cons.mp hx with rfl | hx
    · exact k _ (.tuple [.str "-"]) t' l' H' (.dp (.tup (SqT.of gq8) (.cons (.str _) .nil)) rfl) (by decide +kernel) h1 D' bb
    rcases List.mem_cons.mp hx with rfl | hx
    · exact k _ (.tuple [.str "+", .str "-"]) t' l' H' (.dp (.tup (SqT.of gq9) (.cons (.str _) (.cons (.str _) .nil))) rfl) (by decide +kernel) h1 D' bb
    rcases List.mem_cons.mp hx with rfl | hx
    · exact k _ (.tuple [.int 1, .str "a"]) t' l' H' (.dp (.tup (SqT.of gq10) (.cons (.int _) (.cons (.str _) .nil))) rfl) (by decide +kernel) h1 D' bb
    rcases List.mem_cons.mp hx with rfl | hx
    · exact k _ (.str "'a") t' l' H' (.dp (.str _) rfl) (by decide +kernel) h1 D' bb
    rcases List.mem_cons.mp hx with rfl | hx
    · exact k _ (.str " ") t' l' H' (.dp (.str _) rfl) (by decide +kernel) h1 D' bb
    rcases List.mem_cons.mp hx with rfl | hx
    · exact k _ (.str "a b") t' l' H' (.dp (.str _) rfl) (by decide +kernel) h1 D' bb
    rcases List.mem_cons.mp hx with rfl | hx
    · exact k _ (.list [.tuple [.str "a", .int 1]]) t' l' H' (.dp (.lst (SqL.of gq12) (.cons (.tup (SqT.of gq11) (.cons (.str _) (.cons (.int _) .nil))) .nil)) rfl) (by decide +kernel) h1 D' bb
    rcases List.mem_cons.mp hx with rfl | hx
    · exact k _ (.tuple [.str "a", .int 1, .int 2]) t' l' H' (.dp (.tup (SqT.of gq13) (.cons (.str _) (.cons (.int _) (.cons (.int _) .nil)))) rfl) (by decide +kernel) h1 D' bb
    cases hx
end
end K02
set_option Elab.async false
set_option linter.all false
set_option maxRecDepth 100000
set_option maxHeartbeats 4000000
namespace K02
open K34 PySem PySem.Spec PyProof.Rows L2
def spPickS (K : PySem.W.Frag) : Sp := fun vs H Q _ => ∃ (p c : Addr) (ns : List Int) (t l : Int) (z : Str), vs = [.ref p, .str z] ∧ PenAt H p c ns t l ∧ t < 1000000000000 ∧ 0 < z.length ∧ z.length < 1000000 ∧
  ∀ (x : Nat) (t' l' : Int) (H' : Hp), x ∈ z.cps.toList → t' ≤ t + 1 → PenAt H' p c ns t' l' → But p H H' → Q (.str ⟨#[x]⟩) H'
/-- a value that some column may have -/
def Fl (v : V) (d : PyData) : Prop := (∃ i, v = .int i ∧ d = .int i) ∨ (∃ y, v = .str y ∧ d = .str y ∧ sOk (.str y) = true) ∨ (v = .non ∧ d = .none)
theorem Fl.th {K : PySem.W.Frag} {H : Hp} {v : V} {d : PyData} (h : Fl v d) : Th K H v d ∧ sOk d = true := by
  rcases h with ⟨i, rfl, rfl⟩ | ⟨y, rfl, rfl, h⟩ | ⟨rfl, rfl⟩
  · exact ⟨.dp (.int i) rfl, rfl⟩
  · exact ⟨.dp (.str y) rfl, h⟩
  · exact ⟨.dp .non rfl, rfl⟩
def spVal (K : PySem.W.Frag) (m : Int) (vs0 : List V → Addr → Prop) : Sp := fun vs H Q _ => ∃ (p c : Addr) (ns : List Int) (t l : Int), vs0 vs p ∧ PenAt H p c ns t l ∧ t + m < 1000000000000 ∧
  ∀ (v : V) (d : PyData) (t' l' : Int) (H' : Hp), Fl v d → t' ≤ t + m → PenAt H' p c ns t' l' → But p H H' → Q v H'
theorem scValue : FnScope ["_law_pen_here", "_law_sort", "_law_small"] ["_law_pen_here", "_law_sort"] (defScope sValue) := ⟨rfl, rfl, rfl, by decide +kernel, rfl, by decide +kernel, by decide +kernel⟩
section
variable {P : Program} {w : World} {K : PySem.W.Frag} {mg : Str → Option Value} {base : Heap} {f fD fP fA fV : Addr} {fd fdD fdP fdA fdV : FuncData}
theorem ok_pickS (F : FnP K "_law_pick" sPick f fd) (T : TxB mg) (FD : FnP K "_law_draw" sDraw fD fdD) (gD : mg "_law_draw" = some (.ref fD)) : FnOk P w K mg base CX0 2 f fd ["_law_pen_here", "_law_options"] (spPickS K) := by
  have GD : FnOk P w K mg base CX0 1 fD fdD ["_law_pen_here", "_law_many"] spDraw := ok_draw FD T
  have bD : Binds K fdD ["_law_pen_here", "_law_many"] [] := FD.bindsN fun _ _ _ _ _ _ us hl => match us, hl with | [_, _], _ => rfl
  have kD := FD.kp
  refine F.ok scPick (fun vs H Q E h => ?_) (fun cdv A outer s H vs Q E hr h => ?_)
  · obtain ⟨p, c, ns, t, l, z, rfl, _⟩ := h
    rfl
  · obtain ⟨p, c, ns, t, l, z, rfl, D, ht, h0, h1, k⟩ := h
    have nd := scPick.nd
    refine ⟨_, PSs.nox (pss_one (ps_ret (pe_ix ix_str (pv 1) (pe_call GD hr rfl gD kD bD .nil pass0 (pa_cons (pv 0) (pa_cons (pe_callB call_len_str (by rfl) T.len (by decide +kernel) (pa_cons (pv 1) pa_nil)) pa_nil))) (fun _ _ => rfl)))), ?_⟩
    have hz : z.length ≤ sizeLine := by rw [sizeLine_eq]; omega
    refine ⟨_, rfl, _, rfl, _, rfl, z, rfl, hz, p, c, ns, t, l, _, rfl, D, ht, by omega, by omega, fun j t' l' H' j0 j1 h2 D' b => ?_⟩
    obtain ⟨n, rfl⟩ : ∃ n : Nat, j = (n : Int) := ⟨j.toNat, by omega⟩
    have hjl : n < z.cps.toList.length := by
      have : (n : Int) < (z.length : Int) := j1
      have e : z.length = z.cps.toList.length := (Array.length_toList).symm
      omega
    exact ⟨z, (n : Int), z.cps.toList[n], rfl, rfl, hz, atI_nat (List.getElem?_eq_getElem hjl), k _ t' l' H' (List.getElem_mem hjl) h2 D' b⟩
theorem dp_but {K : PySem.W.Frag} {H H' : Hp} (e : ∀ b o, (∀ kvs, o ≠ HO.dK kvs) → H b = some o → H' b = some o) : ∀ (d : PyData) (v : V), Dp K H v d → Dp K H' v d := by
  have sT : ∀ {a : Addr} {xs : List V}, SqT K H a xs → SqT K H' a xs := fun {a xs} h => by
    rcases h with (h | ⟨o, h⟩) | h
    · exact .inl (.inl (e _ _ (fun _ z => by cases z) h))
    · exact .inl (.inr ⟨o, e _ _ (fun _ z => by cases z) h⟩)
    · exact .inr h
  have sL : ∀ {a : Addr} {xs : List V}, SqL K H a xs → SqL K H' a xs := fun {a xs} h => by
    rcases h with (h | ⟨o, h⟩) | h
    · exact .inl (.inl (e _ _ (fun _ z => by cases z) h))
    · exact .inl (.inr ⟨o, e _ _ (fun _ z => by cases z) h⟩)
    · exact .inr h
  intro d v h
  exact Dp.rec (motive_1 := fun v d _ => Dp K H' v d) (motive_2 := fun vs ds _ => DpAll K H' vs ds) .non .bl .int .str (fun h1 _ ih => .lst (sL h1) ih) (fun h1 _ ih => .tup (sT h1) ih) .nil (fun _ _ i1 i2 => .cons i1 i2) h
/-- a datum stands while the pen is written -/
theorem th_but {K : PySem.W.Frag} {H H' : Hp} {p c : Addr} {t l : Int} {v : V} {d : PyData} (hp : H p = some (.dK (penK c t l))) (b : But p H H') (h : Th K H v d) : Th K H' v d := by
  cases h with
  | dp h n => exact .dp (dp_but (fun a o no e => b a o (fun z => no _ (by rw [z, hp] at e; exact (Option.some.inj e).symm)) e) _ _ h) n
  | @d0 a h =>
    exact .d0 (b a _ (fun z => by rw [z, hp] at h; cases h) h)
  | @d1 a h =>
    exact .d1 (b a _ (fun z => by rw [z, hp] at h; cases h) h)
theorem pen_new {H : Hp} {q p c : Addr} {ns : List Int} {t l : Int} {o : HO} (D : PenAt H p c ns t l) (n : H q = none) : PenAt (upd H q o) p c ns t l := D.same (same_new (Same.refl H) n)
theorem ok_value (F : FnP K "_law_value" sValue f fd) (T : TxB mg) (FD : FnP K "_law_draw" sDraw fD fdD) (gD : mg "_law_draw" = some (.ref fD)) (FP : FnP K "_law_pick" sPick fP fdP) (gP : mg "_law_pick" = some (.ref fP)) :
    FnOk P w K mg base CX0 3 f fd ["_law_pen_here", "_law_sort"] (spVal K 3 fun vs p => ∃ z, vs = [.ref p, .str z]) := by
  have GD : FnOk P w K mg base CX0 1 fD fdD ["_law_pen_here", "_law_many"] spDraw := ok_draw FD T
  have bD : Binds K fdD ["_law_pen_here", "_law_many"] [] := FD.bindsN fun _ _ _ _ _ _ us hl => match us, hl with | [_, _], _ => rfl
  have kD := FD.kp
  have GP : FnOk P w K mg base CX0 2 fP fdP ["_law_pen_here", "_law_options"] (spPick K) := ok_pick FP T FD gD
  have bP : Binds K fdP ["_law_pen_here", "_law_options"] [] := FP.bindsN fun _ _ _ _ _ _ us hl => match us, hl with | [_, _], _ => rfl
  have kP := FP.kp
  refine F.ok scValue (fun vs H Q E h => ?_) (fun cdv A outer s H vs Q E hr h => ?_)
  · obtain ⟨p, c, ns, t, l, ⟨z, rfl⟩, _⟩ := h
    rfl
  · obtain ⟨p, c, ns, t, l, ⟨z, rfl⟩, D, ht, k⟩ := h
    have nd := scValue.nd
    refine ⟨_, PSs.nox (pss_cons (ps_if (pt_cmpR op_eq (pv 1) pe_str (nomark _))
        (pss_one (ps_ret (pe_call GP (hr.mono (by decide)) rfl gP kP bP .nil pass0 (pa_cons (pv 0) (pa_cons (pe_lst (pa_cons pe_str (pa_cons pe_str (pa_cons pe_str (pa_cons pe_str (pa_cons pe_str (pa_cons pe_str (pa_cons pe_str (pa_cons pe_str (pa_cons pe_str (pa_cons pe_str pa_nil))))))))))) pa_nil))))) pss_nil)
      (pss_cons (ps_set (i := 2) nd rfl (Or.inl rfl) (pe_op op_sub (pe_call GD (hr.mono (by decide)) rfl gD kD bD .nil pass0 (pa_cons (pv 0) (pa_cons pe_int pa_nil))) pe_int))
      (pss_one (ps_ret (pe_call GP (hr.mono (by decide)) rfl gP kP bP .nil pass0 (pa_cons (pv 0) (pa_cons (pe_lst (pa_cons (pv 2) (pa_cons (pv 2) (pa_cons (pv 2) (pa_cons (pv 2) (pa_cons (pv 2) (pa_cons (pe_op op_pow pe_int pe_int) (pa_cons (pe_un un_neg (pe_op op_pow pe_int pe_int)) (pa_cons (pe_op op_sub (pe_call GD (hr.mono (by decide)) rfl gD kD bD .nil pass0 (pa_cons (pv 0) (pa_cons pe_int pa_nil))) pe_int) pa_nil))))))))) pa_nil))))))), ?_⟩
    refine ⟨_, rfl, rfl, _, rfl, ?_⟩
    refine ite2 (fun _ => ?_) (fun _ => ?_)
    · refine ⟨_, rfl, (by show 10 ≤ sizeLine; decide), fun q hq => ?_⟩
      refine ⟨p, c, q, ns, t, l, _, rfl, pen_new D hq, by omega, SqL.of upd_same, by simp, (by show 10 < 1000000; decide), fun x t' l' H' hx h1 D' b => ?_⟩
      obtain ⟨y, hy, rfl⟩ : ∃ y ∈ (["a", "aa", "ab", "b", "ba", "c", "m", "zz", "zzzzzzzz", "zzzzzzzy"] : List Str), x = V.str y := by
        have hx : x ∈ (["a", "aa", "ab", "b", "ba", "c", "m", "zz", "zzzzzzzz", "zzzzzzzy"] : List Str).map V.str := hx
        obtain ⟨y, h1, h2⟩ := List.mem_map.mp hx
        exact ⟨y, h1, h2.symm⟩
      have so : ∀ y ∈ (["a", "aa", "ab", "b", "ba", "c", "m", "zz", "zzzzzzzz", "zzzzzzzy"] : List Str), sOk (.str y) = true := by decide +kernel
      exact k _ (.str y) t' l' H' (.inr (.inl ⟨y, rfl, rfl, so y hy⟩)) (by omega) D' ((But.of (same_new (Same.refl H) hq)).trans b)
    · refine ⟨_, rfl, p, c, ns, t, l, 9, rfl, D, by omega, by decide, by decide, fun j t1 l1 H1 j0 j1 h1 D1 b1 => ?_⟩
      refine ⟨_, _, rfl, rfl, _, rfl, _, rfl, _, rfl, _, rfl, _, rfl, _, rfl, _, _, rfl, rfl, ⟨by decide, by decide, by decide⟩, _, _, rfl, rfl, ⟨by decide, by decide, by decide⟩, _, rfl, ?_⟩
      refine ⟨_, rfl, p, c, ns, t1, l1, 200, rfl, D1, by omega, by decide, by decide, fun j2 t2 l2 H2 j3 j4 h2 D2 b2 => ?_⟩
      refine ⟨_, _, rfl, rfl, (by show 8 ≤ sizeLine; decide), fun q hq => ?_⟩
      refine ⟨p, c, q, ns, t2, l2, _, rfl, pen_new D2 hq, by omega, SqL.of upd_same, by simp, (by show 8 < 1000000; decide), fun x t' l' H' hx h3 D' b => ?_⟩
      obtain ⟨i, rfl⟩ : ∃ i, x = V.int i := by
        simp only [List.mem_cons, List.not_mem_nil, or_false] at hx
        rcases hx with h | h | h | h | h | h | h | h <;> exact ⟨_, h⟩
      exact k _ (.int i) t' l' H' (.inl ⟨i, rfl, rfl⟩) (by omega) D' (((b1.trans b2).anew hq).trans b)
end
end K02
set_option Elab.async false
set_option linter.all false
set_option maxRecDepth 100000
set_option maxHeartbeats 4000000
namespace K02
open K34 PySem PySem.Spec PyProof.Rows L2
def lowS (x : Str) : Prop := ∀ c ∈ x.cps.toList, lowN c = true
theorem len_toList (x : Str) : x.length = x.cps.toList.length := (Array.length_toList).symm
theorem low_app {x y : Str} (hx : lowS x) (hy : lowS y) : lowS (x ++ y) := fun c hc => by
  have e : (x ++ y).cps.toList = x.cps.toList ++ y.cps.toList := by
    show (x.cps ++ y.cps).toList = _
    rw [Array.toList_append]
  rw [e] at hc
  exact (List.mem_append.mp hc).elim (hx c) (hy c)
theorem len_app (x y : Str) : (x ++ y).length = x.length + y.length := by
  show (x.cps ++ y.cps).size = _
  rw [Array.size_append]
  rfl
theorem low_cut {x : Str} (hx : lowS x) (lo hi : Option Int) : lowS (cutS x lo hi) := fun c hc => by
  unfold cutS at hc
  rw [show ((⟨((x.cps.toList.drop (HT.sIx x.length 0 lo)).take (HT.sIx x.length x.length hi - HT.sIx x.length 0 lo)).toArray⟩ : Str)).cps.toList = (x.cps.toList.drop (HT.sIx x.length 0 lo)).take (HT.sIx x.length x.length hi - HT.sIx x.length 0 lo) from by simp] at hc
  exact hx c (List.mem_of_mem_drop (List.mem_of_mem_take hc))
theorem len_cut (x : Str) (lo hi : Option Int) : (cutS x lo hi).length = min (HT.sIx x.length x.length hi - HT.sIx x.length 0 lo) (x.length - HT.sIx x.length 0 lo) := by
  unfold cutS
  show (((x.cps.toList.drop (HT.sIx x.length 0 lo)).take (HT.sIx x.length x.length hi - HT.sIx x.length 0 lo)).toArray).size = _
  rw [List.size_toArray, List.length_take, List.length_drop, len_toList x]
theorem join_sgn : ∀ cs : List Nat, (Str.join ("" : Str) (cs.map fun c => (⟨#[c]⟩ : Str))).cps.toList = cs
  | [] => by decide +kernel
  | [c] => rfl
  | c :: d :: r => by
    have ih := join_sgn (d :: r)
    show (((⟨#[c]⟩ : Str) ++ ("" : Str)) ++ Str.join ("" : Str) ((d :: r).map fun c => (⟨#[c]⟩ : Str))).cps.toList = _
    have e : ∀ y : Str, (((⟨#[c]⟩ : Str) ++ ("" : Str)) ++ y).cps.toList = c :: y.cps.toList := fun y => by
      show ((#[c] ++ ("" : Str).cps) ++ y.cps).toList = _
      rw [Array.toList_append, Array.toList_append, show ("" : Str).cps.toList = [] from by decide +kernel]
      rfl
    rw [e, ih]
theorem sum_one : ∀ cs : List Nat, ((cs.map fun c => (⟨#[c]⟩ : Str)).map (·.length)).sum = cs.length
  | [] => rfl
  | c :: r => by
    rw [List.map_cons, List.map_cons, List.sum_cons, sum_one r, List.length_cons]
    show 1 + r.length = r.length + 1
    omega
theorem abc_low : lowS ("abcdefghijklmnopqrstuvwxyz" : Str) := fun c hc => by
  rw [← abc_mem c]
  exact decide_eq_true hc
theorem word_of {x : Str} (h : lowS x) (h1 : 1 ≤ x.length) (h8 : x.length ≤ 8) : wordS x = true := by
  unfold wordS
  rw [decide_eq_true h1, decide_eq_true h8, List.all_eq_true.mpr h]
  rfl
theorem word_sOk {x : Str} (h : wordS x = true) : sOk (.str x) = true := by
  unfold wordS at h
  obtain ⟨h1, h⟩ := Bool.and_eq_true_iff.mp h
  obtain ⟨h2, h3⟩ := Bool.and_eq_true_iff.mp h
  have h2 := of_decide_eq_true h2
  show (decide (x.length ≤ 1000) && PyData.strOk x) = true
  rw [decide_eq_true (by omega), Bool.true_and]
  unfold PyData.strOk
  refine Array.all_eq_true_iff_forall_mem.mpr fun c hc => ?_
  have z := List.all_eq_true.mp h3 c (by simpa using hc)
  obtain ⟨_, z2⟩ := Bool.and_eq_true_iff.mp z
  have z2 := of_decide_eq_true z2
  exact decide_eq_true (by omega)
theorem op_notIn_K {X : Cx} {K : PySem.W.Frag} (h : X.K = K) : OpR X (compareOp .NotIn) (rIn K true) := by
  subst h
  exact op_notIn_seq
/-- the word with the k-th letter of its turn -/
def wk (pre post : Str) (fi st : Int) (k : Nat) : Str := (pre ++ (⟨#[((fi + st * k) % 26).toNat + 97]⟩ : Str)) ++ post
theorem abc_at {n : Nat} (h : n < ("abcdefghijklmnopqrstuvwxyz" : Str).cps.toList.length) : ("abcdefghijklmnopqrstuvwxyz" : Str).cps.toList[n] = n + 97 := by
  have e : ("abcdefghijklmnopqrstuvwxyz" : Str).cps.toList = (List.range 26).map (· + 97) := by decide +kernel
  simp only [e, List.getElem_map, List.getElem_range]
theorem wk_cps (pre post : Str) (fi st : Int) (k : Nat) : (wk pre post fi st k).cps.toList = pre.cps.toList ++ (((fi + st * k) % 26).toNat + 97) :: post.cps.toList := by
  show ((pre.cps ++ #[((fi + st * k) % 26).toNat + 97]) ++ post.cps).toList = _
  rw [Array.toList_append, Array.toList_append, List.append_assoc]
  rfl
theorem wk_inj {pre post : Str} {fi st : Int} (hs : st = 1 ∨ st = 3 ∨ st = 5 ∨ st = 7 ∨ st = 9 ∨ st = 11) {a b : Nat} (ha : a < 26) (hb : b < 26) (e : wk pre post fi st a = wk pre post fi st b) : a = b := by
  have e := congrArg (fun s : Str => s.cps.toList) e
  rw [wk_cps, wk_cps] at e
  have e := List.head_eq_of_cons_eq (List.append_cancel_left e)
  rcases hs with rfl | rfl | rfl | rfl | rfl | rfl <;> omega
theorem wk_z {pre post : Str} {fi st : Int} (hs : st = 1 ∨ st = 3 ∨ st = 5 ∨ st = 7 ∨ st = 9 ∨ st = 11) (h0 : 0 ≤ fi) (h1 : fi < 26) : ∃ k, k < 26 ∧ reserved.contains (wk pre post fi st k) = false := by
  have key : ∃ k : Nat, k < 26 ∧ (fi + st * (k : Int)) % 26 = 25 := by
    obtain ⟨n, rfl⟩ : ∃ n : Nat, fi = (n : Int) := ⟨fi.toNat, by omega⟩
    have hn : n < 26 := by omega
    have D : ∀ n < 26, ∀ s ∈ [1, 3, 5, 7, 9, 11], ∃ k, k < 26 ∧ (n + s * k) % 26 = 25 := by decide +kernel
    have hS : ∃ s : Nat, st = (s : Int) ∧ s ∈ [1, 3, 5, 7, 9, 11] := by
      rcases hs with h | h | h | h | h | h <;> exact ⟨_, h, by decide⟩
    obtain ⟨s, rfl, hS⟩ := hS
    obtain ⟨k, hk, e⟩ := D n hn s hS
    exact ⟨k, hk, by omega⟩
  obtain ⟨k, hk, e⟩ := key
  refine ⟨k, hk, ?_⟩
  cases h : reserved.contains (wk pre post fi st k) with
  | false => rfl
  | true =>
    have hm := List.contains_iff_mem.mp h
    have D : ∀ r ∈ reserved, (122 : Nat) ∉ r.cps.toList := by decide +kernel
    refine absurd ?_ (D _ hm)
    rw [wk_cps, e]
    exact List.mem_append_right _ (List.mem_cons_self ..)
theorem wk_nodup {pre post : Str} {fi st : Int} (hs : st = 1 ∨ st = 3 ∨ st = 5 ∨ st = 7 ∨ st = 9 ∨ st = 11) : ((List.range 26).map (wk pre post fi st)).Nodup := by
  unfold List.Nodup
  rw [List.pairwise_map]
  refine List.Pairwise.imp_of_mem ?_ (List.nodup_range (n := 26))
  intro a b ha hb hn e
  exact hn (wk_inj hs (List.mem_range.mp ha) (List.mem_range.mp hb) e)
structure TxV (K : PySem.W.Frag) (mg : Str → Option Value) : Prop extends TxN K mg where
  range : mg "range" = none
def spWords (K : PySem.W.Frag) : Sp := fun vs H Q _ => ∃ (p c : Addr) (ns : List Int) (t l m : Int), vs = [.ref p, .int m] ∧ PenAt H p c ns t l ∧ t + 8 < 1000000000000 ∧ 0 ≤ m ∧ m ≤ 100 ∧
  ∀ (q : Addr) (ws : List Str) (t' l' : Int) (H' : Hp), H' q = some (.lst (ws.map V.str)) → q ≠ p → (∀ x ∈ ws, isNm (.str x) = true) → ws.Nodup → (∀ x ∈ ws, x.length ≤ 5) → (1 ≤ m → 1 ≤ ws.length) → ws.length ≤ m.toNat → t' ≤ t + 8 → PenAt H' p c ns t' l' → But p H H' → Q (.ref q) H'
theorem scWords : FnScope ["_law_pen_here", "_law_many", "_law_letters", "_law_barred", "_law_stem", "_law_at", "_law_first", "_law_step", "_law_found", "_law_k", "_law_word"] ["_law_pen_here", "_law_many"] (defScope sWords) := ⟨rfl, rfl, rfl, by decide +kernel, rfl, by decide +kernel, by decide +kernel⟩
theorem pen_put {H : Hp} {q p c : Addr} {ns : List Int} {t l : Int} {o : HO} (D : PenAt H p c ns t l) (n1 : q ≠ p) (n2 : q ≠ c) : PenAt (upd H q o) p c ns t l :=
  ⟨by rw [upd_ne (Ne.symm n1)]; exact D.d, by rw [upd_ne (Ne.symm n2)]; exact D.c, D.ht, D.hl, D.hn⟩
theorem but_put {p q : Addr} {H H' : Hp} {o : HO} (b : But p H H') (n : H q = none) : But p H (upd H' q o) := fun a u na e => by
  rw [upd_ne (ne_of_none e n)]
  exact b a u na e
theorem split_barred : Txt.split "and or not is null in rest to of into by where set add columns order limit" " " = reserved := by decide +kernel
section
variable {P : Program} {w : World} {K : PySem.W.Frag} {mg : Str → Option Value} {base : Heap} {f fD fP : Addr} {fd fdD fdP : FuncData}
theorem ok_words (F : FnP K "_law_words" sWords f fd) (T : TxV K mg) (FD : FnP K "_law_draw" sDraw fD fdD) (gD : mg "_law_draw" = some (.ref fD)) (FP : FnP K "_law_pick" sPick fP fdP) (gP : mg "_law_pick" = some (.ref fP)) :
    FnOk P w K mg base CX0 3 f fd ["_law_pen_here", "_law_many"] (spWords K) := by
  have TB : TxB mg := T.toTxN.toTxW.toTxB
  have GD : FnOk P w K mg base CX0 1 fD fdD ["_law_pen_here", "_law_many"] spDraw := ok_draw FD TB
  have bD : Binds K fdD ["_law_pen_here", "_law_many"] [] := FD.bindsN fun _ _ _ _ _ _ us hl => match us, hl with | [_, _], _ => rfl
  have kD := FD.kp
  have GP : FnOk P w K mg base CX0 2 fP fdP ["_law_pen_here", "_law_options"] (spPick K) := ok_pick FP TB FD gD
  have GPS : FnOk P w K mg base CX0 2 fP fdP ["_law_pen_here", "_law_options"] (spPickS K) := ok_pickS FP TB FD gD
  have bP : Binds K fdP ["_law_pen_here", "_law_options"] [] := FP.bindsN fun _ _ _ _ _ _ us hl => match us, hl with | [_, _], _ => rfl
  have kP := FP.kp
  refine F.ok scWords (fun vs H Q E h => ?_) (fun cdv A outer s H vs Q E hr h => ?_)
  · obtain ⟨p, c, ns, t, l, m, rfl, _⟩ := h
    rfl
  · obtain ⟨p, c, ns, t, l, m, rfl, D, ht, m0, m1, k⟩ := h
    have nd := scWords.nd
    refine ⟨_, PSs.nox (pss_cons (ps_set (i := 2) nd rfl (Or.inr rfl) pe_str) (pss_cons (ps_set (i := 3) nd rfl (Or.inr rfl) (pe_split pe_str pe_str)) (pss_cons (ps_set (i := 4) nd rfl (Or.inr rfl) (pe_join pe_str (pe_lc (own := [("_law_k", 9)]) (g := gName 9) (tt := tYes) rfl nd (pi_range1 rfl T.range (pa_cons (pe_call GD (hr.mono (by decide)) rfl gD kD bD .nil pass0 (pa_cons (pv 0) (pa_cons pe_int pa_nil))) pa_nil)) (blkOk_by (N := ["_law_pen_here", "_law_many", "_law_letters", "_law_barred", "_law_stem", "_law_at", "_law_first", "_law_step", "_law_found", "_law_k", "_law_word"]) (sc := defScope sWords) (by decide +kernel)) (fun _ _ _ _ _ => pg_name (i := 9) nd rfl (Or.inl rfl)) (fun _ _ _ _ _ => pts_nil) (fun _ _ _ _ _ => (pe_call GPS (hr.mono (by decide)) rfl gP kP bP .nil pass0 (pa_cons (pv 0) (pa_cons (pv 2) pa_nil)))))))
      (pss_cons (ps_asg (pe_tup (pa_cons (pe_call GD (hr.mono (by decide)) rfl gD kD bD .nil pass0 (pa_cons (pv 0) (pa_cons (pe_op op_add (pe_callB call_len_str (by rfl) T.len (by decide +kernel) (pa_cons (pv 4) pa_nil)) pe_int) pa_nil))) (pa_cons (pe_call GD (hr.mono (by decide)) rfl gD kD bD .nil pass0 (pa_cons (pv 0) (pa_cons pe_int pa_nil))) (pa_cons (pe_call GP (hr.mono (by decide)) rfl gP kP bP .nil pass0 (pa_cons (pv 0) (pa_cons (pe_lst (pa_cons pe_int (pa_cons pe_int (pa_cons pe_int (pa_cons pe_int (pa_cons pe_int (pa_cons pe_int pa_nil))))))) pa_nil))) pa_nil)))) (pg_tup rfl (pgs_cons (pg_name (i := 5) nd rfl (Or.inr rfl)) (pgs_cons (pg_name (i := 6) nd rfl (Or.inr rfl)) (pgs_cons (pg_name (i := 7) nd rfl (Or.inr rfl)) pgs_nil)))))
      (pss_cons (ps_setLc (i := 8) (own := [("_law_k", 9)]) (g := gName 9) (tt := tYes) rfl nd rfl rfl (sw_true rfl rfl rfl (by decide +kernel)) (pi_range1 rfl T.range (pa_cons pe_int pa_nil)) (blkOk_by (N := ["_law_pen_here", "_law_many", "_law_letters", "_law_barred", "_law_stem", "_law_at", "_law_first", "_law_step", "_law_found", "_law_k", "_law_word"]) (sc := defScope sWords) (by decide +kernel)) (fun _ _ _ _ _ => pg_name (i := 9) nd rfl (Or.inl rfl)) (fun _ _ _ _ _ => pts_nil) (fun _ _ _ _ _ => (pe_op op_add_str (pe_op op_add_str (pe_slice sl_str (pv 4) po_none (po_some (pv 5))) (pe_ix ix_str (pv 2) (pe_op op_mod (pe_callTy call_int1 (by rfl) T.int (by decide +kernel) (pa_cons (pe_op op_add (pv 6) (pe_op op_mul (pv 7) (pv 9))) pa_nil)) pe_int) (fun _ _ => rfl))) (pe_slice sl_str (pv 4) (po_some (pv 5)) po_none))))
      (pss_one (ps_ret (pe_slice sl_list (pe_lc (own := [("_law_word", 10)]) (g := gName 10) rfl nd (pi_list (pv 8)) (blkOk_by (N := ["_law_pen_here", "_law_many", "_law_letters", "_law_barred", "_law_stem", "_law_at", "_law_first", "_law_step", "_law_found", "_law_k", "_law_word"]) (sc := defScope sWords) (by decide +kernel)) (fun _ _ _ _ _ => pg_name (i := 10) nd rfl (Or.inl rfl)) (fun _ _ _ _ _ => pts_one (pt_cmpR (op_notIn_K (K := K) rfl) (pv 10) (pv 3) (by rfl))) (fun _ _ _ _ _ => pv 10)) po_none (po_some (pv 1)))))))))), ?_⟩
    refine ⟨⟨_, rfl⟩, _, _, rfl, rfl, (by decide +kernel), (by decide +kernel), fun q1 n1 => ?_⟩
    rw [split_barred]
    have f1 : (upd H q1 (.lst (reserved.map V.str))) q1 = some (.lst (reserved.map V.str)) := upd_same
    have D1 := pen_new (o := .lst (reserved.map V.str)) D n1
    have b1 : But p H (upd H q1 (.lst (reserved.map V.str))) := (But.refl p H).anew n1
    have e1 : q1 ≠ p := (ne_of_none D.d n1).symm
    generalize upd H q1 (.lst (reserved.map V.str)) = H1 at f1 D1 b1 ⊢
    refine ⟨⟨_, rfl⟩, _, rfl, p, c, ns, t, l, 5, rfl, D1, by omega, by decide, by decide, fun j t2 l2 H2 j0 j1 h2 D2 b2 => ?_⟩
    refine ⟨j, rfl, by omega, by omega, fun R hR => ?_⟩
    have hR : H2 R = none := hR
    have eR : R ≠ p := (ne_of_none D2.d hR).symm
    have eC : R ≠ c := (ne_of_none D2.c hR).symm
    refine lc_range (lo := 0) (n := j.toNat) (fun i H6 => ∃ (cs : List Nat) (t6 l6 : Int), H6 R = some (.lst (cs.map sgn)) ∧ cs.length = i ∧ (∀ c ∈ cs, lowN c = true) ∧ t6 ≤ t2 + i ∧ PenAt H6 p c ns t6 l6 ∧ But p H2 H6) ⟨[], t2, l2, upd_same, rfl, fun _ z => by (cases z), by omega, pen_new D2 hR, (But.refl p H2).anew hR⟩ ?_ ?_
    · rintro i H6 hi ⟨cs, t6, l6, g1, g2, g3, g4, D6, b6⟩
      refine ⟨rfl, ?_⟩
      unfold tYes
      dsimp only
      refine iteT ?_
      refine ⟨_, rfl, _, rfl, p, c, ns, t6, l6, _, rfl, D6, by omega, (by decide +kernel), (by decide +kernel), fun x t7 l7 H7 hx h7 D7 b7 => ?_⟩
      refine ⟨_, b7 _ _ eR g1, ?_, cs ++ [x], t7, l7, ?_, ?_, ?_, by push_cast; omega, ?_, ?_⟩
      · rw [List.length_map, g2, sizeLine_eq]
        omega
      · rw [upd_same, List.map_append]
        rfl
      · rw [List.length_append, g2]
        rfl
      · intro c' hc'
        rcases List.mem_append.mp hc' with z | z
        · exact g3 c' z
        · rw [List.mem_singleton.mp z]
          exact abc_low x hx
      · exact pen_put D7 eR eC
      · exact but_put (b6.trans b7) hR
    · rintro H6 ⟨cs, t6, l6, g1, g2, g3, g4, D6, b6⟩
      have hcs : cs.length ≤ 4 := by omega
      have eqs : (cs.map fun c => (⟨#[c]⟩ : Str)).map V.str = cs.map sgn := by
        rw [List.map_map]
        rfl
      refine ⟨_, R, cs.map fun c => (⟨#[c]⟩ : Str), rfl, rfl, .inl (SqL.of (by rw [eqs]; exact g1)), ?_, ?_⟩
      · rw [sum_one, List.length_map]
        show cs.length + cs.length * 0 ≤ 16777216
        omega
      rw [TL.join_eq]
      have ex := join_sgn cs
      generalize Str.join ("" : Str) (cs.map fun c => (⟨#[c]⟩ : Str)) = stem at ex ⊢
      have sl : lowS stem := fun c hc => g3 c (by rw [ex] at hc; exact hc)
      have sn : stem.length ≤ 4 := by rw [len_toList, ex]; exact hcs
      have f1 : H6 q1 = some (.lst (reserved.map V.str)) := b6 _ _ e1 (b2 _ _ e1 f1)
      have bb : But p H H6 := (b1.trans b2).trans b6
      -- at, first, step
      refine ⟨_, rfl, _, rfl, _, rfl, (by rw [sizeLine_eq]; omega), _, _, rfl, rfl, p, c, ns, t6, l6, _, rfl, D6, by omega, by omega, by omega, fun a t7 l7 H7 a0 a1 h7 D7 b7 => ?_⟩
      refine ⟨_, rfl, p, c, ns, t7, l7, 26, rfl, D7, by omega, by decide, by decide, fun fi t8 l8 H8 fi0 fi1 h8 D8 b8 => ?_⟩
      refine ⟨_, rfl, (by show 6 ≤ sizeLine; decide), fun q9 n9 => ?_⟩
      refine ⟨p, c, q9, ns, t8, l8, _, rfl, pen_new D8 n9, by omega, SqL.of upd_same, by simp, (by show 6 < 1000000; decide), fun x t10 l10 H10 hx h10 D10 b10 => ?_⟩
      obtain ⟨st, hst, rfl⟩ : ∃ st : Int, (st = 1 ∨ st = 3 ∨ st = 5 ∨ st = 7 ∨ st = 9 ∨ st = 11) ∧ x = V.int st := by
        simp only [List.mem_cons, List.not_mem_nil, or_false] at hx
        rcases hx with h | h | h | h | h | h <;> exact ⟨_, by decide, h⟩
      have b9 : But p H H10 := (((bb.trans b7).trans b8).anew n9).trans b10
      have e9 := (b7.trans b8) _ _ e1 f1
      have f1 : H10 q1 = some (.lst (reserved.map V.str)) := b10 _ _ e1 (up e9 n9)
      clear e9
      refine ⟨(by show 3 ≤ sizeLine; decide), fun q11 n11 => ?_⟩
      have f1 := up (o := .tup [.int a, .int fi, .int st]) f1 n11
      have D11 := pen_new (o := .tup [.int a, .int fi, .int st]) D10 n11
      have b11 := b9.anew (o := .tup [.int a, .int fi, .int st]) n11
      refine ⟨q11, _, rfl, SqT.of upd_same, rfl, _, _, rfl, _, _, rfl, _, _, rfl, rfl, ?_⟩
      generalize upd H10 q11 (.tup [.int a, .int fi, .int st]) = H11 at f1 D11 b11 ⊢
      refine ⟨26, rfl, by decide, by decide, fun R2 hR2 => ?_⟩
      have hR2 : H11 R2 = none := hR2
      have eR2 : R2 ≠ p := (ne_of_none D11.d hR2).symm
      have eC2 : R2 ≠ c := (ne_of_none D11.c hR2).symm
      have eQ2 : R2 ≠ q1 := (ne_of_none f1 hR2).symm
      have wk5 : ∀ k0 : Nat, (wk (cutS stem none (some a)) (cutS stem (some a) none) fi st k0).length ≤ 5 := fun k0 => by
        have la : (cutS stem none (some a)).length ≤ a.toNat := by
          rw [len_cut]
          show min (HT.sIx stem.length stem.length (some a) - 0) (stem.length - 0) ≤ _
          have : HT.sIx stem.length stem.length (some a) = min a.toNat stem.length := by
            show (if a < 0 then _ else _) = _
            rw [if_neg (by omega)]
          omega
        have lb : (cutS stem (some a) none).length ≤ stem.length - a.toNat := by
          rw [len_cut]
          have : HT.sIx stem.length 0 (some a) = min a.toNat stem.length := by
            show (if a < 0 then _ else _) = _
            rw [if_neg (by omega)]
          omega
        have l1 : ∀ ch : Nat, (⟨#[ch]⟩ : Str).length = 1 := fun _ => rfl
        unfold wk
        rw [len_app, len_app, l1]
        omega
      refine lc_range (lo := 0) (n := 26) (fun i H12 => ∃ ws : List Str, H12 R2 = some (.lst (ws.map V.str)) ∧ ws.length = i ∧ (∀ y ∈ ws, wordS y = true) ∧ Same H11 H12 ∧ ws = (List.range i).map (wk (cutS stem none (some a)) (cutS stem (some a) none) fi st)) ⟨[], upd_same, rfl, fun _ z => by (cases z), same_new (Same.refl H11) hR2, rfl⟩ ?_ ?_
      · rintro i H12 hi ⟨ws, g5, g6, g7, g8, g9⟩
        refine ⟨rfl, ?_⟩
        unfold tYes
        dsimp only
        refine iteT ?_
        have hz4 : stem.length ≤ sizeLine := by rw [sizeLine_eq]; omega
        have n0 : 0 ≤ (fi + st * (0 + (i : Int))) % 26 := Int.emod_nonneg _ (by omega)
        have n1 : (fi + st * (0 + (i : Int))) % 26 < 26 := Int.emod_lt_of_pos _ (by omega)
        obtain ⟨n, hn⟩ : ∃ n : Nat, (fi + st * (0 + (i : Int))) % 26 = (n : Int) := ⟨((fi + st * (0 + (i : Int))) % 26).toNat, by omega⟩
        have hl26 : ("abcdefghijklmnopqrstuvwxyz" : Str).cps.toList.length = 26 := by decide +kernel
        have hnl : n < ("abcdefghijklmnopqrstuvwxyz" : Str).cps.toList.length := by omega
        have ht26 : ("abcdefghijklmnopqrstuvwxyz" : Str).length ≤ sizeLine := by decide +kernel
        have la : (cutS stem none (some a)).length ≤ a.toNat := by
          rw [len_cut]
          show min (HT.sIx stem.length stem.length (some a) - 0) (stem.length - 0) ≤ _
          have : HT.sIx stem.length stem.length (some a) = min a.toNat stem.length := by
            show (if a < 0 then _ else _) = _
            rw [if_neg (by omega)]
          omega
        have lb : (cutS stem (some a) none).length ≤ stem.length - a.toNat := by
          rw [len_cut]
          have : HT.sIx stem.length 0 (some a) = min a.toNat stem.length := by
            show (if a < 0 then _ else _) = _
            rw [if_neg (by omega)]
          omega
        have ha : a.toNat ≤ stem.length := by omega
        have hc := abc_low _ (List.getElem_mem hnl)
        refine ⟨_, rfl, _, rfl, _, rfl, stem, rfl, hz4, ?_⟩
        refine ⟨_, rfl, _, rfl, _, rfl, _, rfl, _, _, rfl, rfl, .inl ⟨by omega, by omega⟩, _, _, rfl, rfl, .inl ⟨_, rfl, _, _, rfl, rfl, (by show (0 : Int) < 26; decide), ?_⟩⟩
        dsimp only
        rw [hn]
        refine ⟨_, (n : Int), _, rfl, rfl, ht26, atI_nat (List.getElem?_eq_getElem hnl), ?_⟩
        have ech := abc_at hnl
        generalize ("abcdefghijklmnopqrstuvwxyz" : Str).cps.toList[n] = ch at hc ech
        have l1 : lowS (⟨#[ch]⟩ : Str) := fun x hx => by
          have : x = ch := by simpa using hx
          rw [this]
          exact hc
        have n1' : (⟨#[ch]⟩ : Str).length = 1 := rfl
        refine ⟨_, _, rfl, rfl, (by rw [sizeLine_eq, n1']; omega), ?_⟩
        refine ⟨_, rfl, _, rfl, _, rfl, stem, rfl, hz4, ?_⟩
        refine ⟨_, _, rfl, rfl, (by rw [sizeLine_eq, len_app, n1']; omega), ?_⟩
        refine ⟨_, g5, ?_, ws ++ [(cutS stem none (some a) ++ (⟨#[ch]⟩ : Str)) ++ cutS stem (some a) none], ?_, ?_, ?_, ?_, ?_⟩
        · rw [List.length_map, g6, sizeLine_eq]
          omega
        · rw [upd_same, List.map_append]
          rfl
        · rw [List.length_append, g6]
          rfl
        · intro y hy
          rcases List.mem_append.mp hy with z | z
          · exact g7 y z
          · rw [List.mem_singleton.mp z]
            refine word_of (low_app (low_app (low_cut sl _ _) l1) (low_cut sl _ _)) ?_ ?_
            · rw [len_app, len_app, n1']
              omega
            · rw [len_app, len_app, n1']
              omega
        · intro b' o e
          rw [upd_ne (ne_of_none e hR2)]
          exact g8 b' o e
        · rw [List.range_succ, List.map_append, ← g9, ech]
          show _ = _ ++ [wk _ _ _ _ _]
          unfold wk
          have hn' : ((fi + st * (i : Int)) % 26).toNat = n := by
            have : fi + st * (0 + (i : Int)) = fi + st * (i : Int) := by rw [Int.zero_add]
            rw [this] at hn
            omega
          rw [hn']
      · rintro H12 ⟨ws, g5, g6, g7, g8, g9⟩
        have f1 := g8 _ _ f1
        have D12 : PenAt H12 p c ns t10 l10 := D11.same g8
        have b12 : But p H H12 := b11.trans (But.of g8)
        refine ⟨_, rfl, R2, rfl, ⟨_, SqL.of g5⟩, fun R3 hR3 => ?_⟩
        have hR3 : H12 R3 = none := hR3
        have eR3 : R3 ≠ p := (ne_of_none D12.d hR3).symm
        have eC3 : R3 ≠ c := (ne_of_none D12.c hR3).symm
        refine lc_it (walk_list (K := K) (a := R2) (xs := ws.map V.str)) (fun i H13 => ∃ vs : List Str, H13 R3 = some (.lst (vs.map V.str)) ∧ vs.length ≤ i ∧ (∀ y ∈ vs, isNm (.str y) = true) ∧ Same H12 H13 ∧ vs = (ws.take i).filter fun x => !reserved.contains x) ⟨[], upd_same, Nat.le_refl _, fun _ z => by (cases z), same_new (Same.refl H12) hR3, rfl⟩ (fun i H13 _ ⟨vs, _, _, _, y4, _⟩ => y4.seq (SqL.of g5)) ?_ ?_
        · rintro i x' H13 H14 hi ⟨vs, y1, y2, y3, y4, y5⟩ ⟨rfl, hx'⟩
          obtain ⟨y, hy, rfl, hyi⟩ : ∃ y ∈ ws, x' = V.str y ∧ ws[i]? = some y := by
            rw [List.getElem?_map] at hx'
            obtain ⟨y, h1, h2⟩ := Option.map_eq_some_iff.mp hx'
            exact ⟨y, List.mem_of_getElem? h1, h2.symm, h1⟩
          have et : ws.take (i + 1) = ws.take i ++ [y] := by
            rw [List.take_add_one, hyi]
            rfl
          refine ⟨rfl, ?_⟩
          refine ⟨_, rfl, _, rfl, q1, _, rfl, .inl (SqL.of (y4 _ _ f1)), rfl, flat_strs _, _, rfl, ?_⟩
          have e : inV (.str y) (reserved.map V.str) = reserved.contains y := inV_strs y _
          show (if (!inV (.str y) (reserved.map V.str)) = true then _ else _)
          rw [e]
          cases hr' : reserved.contains y with
          | true =>
            refine iteF ?_
            exact ⟨vs, y1, by omega, y3, y4, by rw [et, List.filter_append, ← y5, List.filter_cons_of_neg (by rw [hr']; decide), List.filter_nil, List.append_nil]⟩
          | false =>
            refine iteT ?_
            refine ⟨_, rfl, _, y1, ?_, vs ++ [y], ?_, ?_, ?_, ?_, by rw [et, List.filter_append, ← y5, List.filter_cons_of_pos (by rw [hr']; rfl), List.filter_nil]⟩
            · have hi : i < (ws.map V.str).length := hi
              rw [List.length_map] at hi
              rw [List.length_map, sizeLine_eq]
              omega
            · rw [upd_same, List.map_append]
              rfl
            · rw [List.length_append]
              show vs.length + 1 ≤ i + 1
              omega
            · intro y' hy'
              rcases List.mem_append.mp hy' with z | z
              · exact y3 y' z
              · rw [List.mem_singleton.mp z]
                show (wordS y && !reserved.contains y) = true
                rw [g7 y hy, hr']
                rfl
            · intro b' o e'
              rw [upd_ne (ne_of_none e' hR3)]
              exact y4 b' o e'
        · rintro H13 ⟨vs, y1, y2, y3, y4, y5⟩
          have y5 : vs = ws.filter fun x => !reserved.contains x := by
            rw [List.length_map, List.take_length] at y5
            exact y5
          have h5 : ∀ x ∈ vs, x.length ≤ 5 := fun x hx => by
            rw [y5, g9] at hx
            obtain ⟨k0, _, rfl⟩ := List.mem_map.mp (List.mem_filter.mp hx).1
            exact wk5 k0
          have hnd : vs.Nodup := by
            rw [y5, g9]
            exact (wk_nodup hst).sublist List.filter_sublist
          have hne : 1 ≤ vs.length := by
            obtain ⟨k0, hk0, hk1⟩ := wk_z (pre := cutS stem none (some a)) (post := cutS stem (some a) none) hst fi0 fi1
            have : wk (cutS stem none (some a)) (cutS stem (some a) none) fi st k0 ∈ vs := by
              rw [y5, g9]
              exact List.mem_filter.mpr ⟨List.mem_map.mpr ⟨k0, List.mem_range.mpr hk0, rfl⟩, by rw [hk1]; rfl⟩
            exact List.length_pos_of_mem this
          have D13 : PenAt H13 p c ns t10 l10 := D12.same y4
          refine ⟨_, rfl, _, rfl, R3, _, rfl, SqL.of y1, fun q14 n14 => ?_⟩
          have ec : cutV (vs.map V.str) none (some m) = (vs.take (min m.toNat vs.length)).map V.str := by
            unfold cutV
            have e1 : HT.sIx (vs.map V.str).length (vs.map V.str).length (some m) = min m.toNat vs.length := by
              show (if m < 0 then _ else _) = _
              rw [if_neg (by omega), List.length_map]
            rw [e1, HT.sIx_none, List.drop_zero, Nat.sub_zero, List.map_take]
          rw [ec]
          refine k q14 (vs.take (min m.toNat vs.length)) t10 l10 _ upd_same (ne_of_none D13.d n14).symm (fun x hx => y3 x (List.mem_of_mem_take hx)) (hnd.sublist (List.take_sublist _ _)) (fun x hx => h5 x (List.mem_of_mem_take hx)) (fun hm => by rw [List.length_take]; omega) ?_ (by omega) (pen_new D13 n14) ((b12.trans (But.of y4)).anew n14)
          rw [List.length_take]
          omega
end
end K02
set_option Elab.async false
set_option linter.all false
set_option maxRecDepth 100000
set_option maxHeartbeats 4000000
namespace K02
open K34 PySem PySem.Spec PyProof.Rows L2
/-- a row of plain columns: where its tuple stands, its name, kind, need -/
structure Pl where
  a : Addr
  n : Str
  k : Str
  b : Bool
def Pl.ok (r : Pl) : Prop := isNm (.str r.n) = true ∧ (r.k = "number" ∨ r.k = "word")
def Pl.at_ (H : Hp) (r : Pl) : Prop := H r.a = some (.tup [.str r.n, .str r.k, .bl r.b])
/-- the tuples of the rows, one by one -/
def PlAt (H : Hp) (q : Addr) (rs : List Pl) : Prop := H q = some (.lst (rs.map fun r => V.ref r.a)) ∧ ∀ r ∈ rs, r.at_ H ∧ r.ok
theorem PlAt.same {H H' : Hp} {q : Addr} {rs : List Pl} (h : PlAt H q rs) (s : Same H H') : PlAt H' q rs := ⟨s _ _ h.1, fun r hr => ⟨s _ _ (h.2 r hr).1, (h.2 r hr).2⟩⟩
theorem PlAt.but {H H' : Hp} {p q : Addr} {kvs : List (Key × V)} {rs : List Pl} (h : PlAt H q rs) (hp : H p = some (.dK kvs)) (b : But p H H') : PlAt H' q rs :=
  ⟨b _ _ (ne_of h.1 hp (by intro z; cases z)) h.1, fun r hr => ⟨b _ _ (ne_of (h.2 r hr).1 hp (by intro z; cases z)) (h.2 r hr).1, (h.2 r hr).2⟩⟩
def spCols (K : PySem.W.Frag) : Sp := fun vs H Q _ => ∃ (p c : Addr) (ns : List Int) (t l : Int), vs = [.ref p, .int 5] ∧ PenAt H p c ns t l ∧ t + 19 < 1000000000000 ∧
  ∀ (q : Addr) (rs : List Pl) (t' l' : Int) (H' : Hp), PlAt H' q rs → (rs.map (·.n)).Nodup → (∀ r ∈ rs, r.n.length ≤ 5) → 1 ≤ rs.length → rs.length ≤ 5 → t' ≤ t + 19 → PenAt H' p c ns t' l' → But p H H' → Q (.ref q) H'
theorem scCols : FnScope ["_law_pen_here", "_law_most", "_law_titles", "_law_title"] ["_law_pen_here", "_law_most"] (defScope sColumns) := ⟨rfl, rfl, rfl, by decide +kernel, rfl, by decide +kernel, by decide +kernel⟩
section
variable {P : Program} {w : World} {K : PySem.W.Frag} {mg : Str → Option Value} {base : Heap} {f fD fP fW : Addr} {fd fdD fdP fdW : FuncData}
theorem ok_cols (F : FnP K "_law_columns" sColumns f fd) (T : TxV K mg) (FD : FnP K "_law_draw" sDraw fD fdD) (gD : mg "_law_draw" = some (.ref fD)) (FP : FnP K "_law_pick" sPick fP fdP) (gP : mg "_law_pick" = some (.ref fP))
    (FW : FnP K "_law_words" sWords fW fdW) (gW : mg "_law_words" = some (.ref fW)) : FnOk P w K mg base CX0 4 f fd ["_law_pen_here", "_law_most"] (spCols K) := by
  have TB : TxB mg := T.toTxN.toTxW.toTxB
  have GD : FnOk P w K mg base CX0 1 fD fdD ["_law_pen_here", "_law_many"] spDraw := ok_draw FD TB
  have bD : Binds K fdD ["_law_pen_here", "_law_many"] [] := FD.bindsN fun _ _ _ _ _ _ us hl => match us, hl with | [_, _], _ => rfl
  have kD := FD.kp
  have GP : FnOk P w K mg base CX0 2 fP fdP ["_law_pen_here", "_law_options"] (spPick K) := ok_pick FP TB FD gD
  have bP : Binds K fdP ["_law_pen_here", "_law_options"] [] := FP.bindsN fun _ _ _ _ _ _ us hl => match us, hl with | [_, _], _ => rfl
  have kP := FP.kp
  have GW : FnOk P w K mg base CX0 3 fW fdW ["_law_pen_here", "_law_many"] (spWords K) := ok_words FW T FD gD FP gP
  have bW : Binds K fdW ["_law_pen_here", "_law_many"] [] := FW.bindsN fun _ _ _ _ _ _ us hl => match us, hl with | [_, _], _ => rfl
  have kW := FW.kp
  refine F.ok scCols (fun vs H Q E h => ?_) (fun cdv A outer s H vs Q E hr h => ?_)
  · obtain ⟨p, c, ns, t, l, rfl, _⟩ := h
    rfl
  · obtain ⟨p, c, ns, t, l, rfl, D, ht, k⟩ := h
    have nd := scCols.nd
    refine ⟨_, PSs.nox (pss_cons (ps_set (i := 2) nd rfl (Or.inl rfl) (pe_call GW hr rfl gW kW bW .nil pass0 (pa_cons (pv 0) (pa_cons (pe_op op_add pe_int (pe_call GD (hr.mono (by decide)) rfl gD kD bD .nil pass0 (pa_cons (pv 0) (pa_cons (pv 1) pa_nil)))) pa_nil))))
      (pss_one (ps_ret (pe_lc (own := [("_law_title", 3)]) (g := gName 3) (tt := tYes) rfl nd (pi_list (pv 2)) (blkOk_by (N := ["_law_pen_here", "_law_most", "_law_titles", "_law_title"]) (sc := defScope sColumns) (by decide +kernel)) (fun _ _ _ _ _ => pg_name (i := 3) nd rfl (Or.inl rfl)) (fun _ _ _ _ _ => pts_nil) (fun _ _ _ _ _ => (pe_tup (pa_cons (pv 3) (pa_cons (pe_call GP (hr.mono (by decide)) rfl gP kP bP .nil pass0 (pa_cons (pv 0) (pa_cons (pe_lst (pa_cons pe_str (pa_cons pe_str (pa_cons pe_str pa_nil)))) pa_nil))) (pa_cons (pe_cmpR op_eq (pe_call GD (hr.mono (by decide)) rfl gD kD bD .nil pass0 (pa_cons (pv 0) (pa_cons pe_int pa_nil))) pe_int (nomark _)) pa_nil))))))))), ?_⟩
    refine ⟨_, rfl, _, rfl, _, rfl, p, c, ns, t, l, 5, rfl, D, by omega, by decide, by decide, fun j t1 l1 H1 j0 j1 h1 D1 b1 => ?_⟩
    refine ⟨_, _, rfl, rfl, p, c, ns, t1, l1, _, rfl, D1, by omega, by omega, by omega, fun q ws t2 l2 H2 g1 g2 g3 gnd g5 gne g4 h2 D2 b2 => ?_⟩
    refine ⟨_, rfl, q, rfl, ⟨_, SqL.of g1⟩, fun R hR => ?_⟩
    have hR : H2 R = none := hR
    have eR : R ≠ p := (ne_of_none D2.d hR).symm
    have eC : R ≠ c := (ne_of_none D2.c hR).symm
    have eQ : R ≠ q := (ne_of_none g1 hR).symm
    have lw : ws.length ≤ 5 := by omega
    refine lc_it (walk_list (K := K) (a := q) (xs := ws.map V.str)) (fun i H3 => ∃ (rs : List Pl) (t3 l3 : Int), PlAt H3 R rs ∧ rs.length = i ∧ H3 q = some (.lst (ws.map V.str)) ∧ t3 ≤ t2 + 2 * i ∧ PenAt H3 p c ns t3 l3 ∧ But p H2 H3 ∧ rs.map (·.n) = ws.take i)
      ⟨[], t2, l2, ⟨upd_same, fun _ z => by (cases z)⟩, rfl, by rw [upd_ne (Ne.symm eQ)]; exact g1, by omega, pen_put D2 eR eC, (But.refl p H2).anew hR, rfl⟩ (fun i H3 _ ⟨rs, t3, l3, _, _, y, _⟩ => SqL.of y) ?_ ?_
    · rintro i x' H3 H4 hi ⟨rs, t3, l3, y1, y2, y3, y4, D3, y5, y6⟩ ⟨rfl, hx'⟩
      have hi : i < (ws.map V.str).length := hi
      rw [List.length_map] at hi
      obtain ⟨y, hy, rfl, hyi⟩ : ∃ y ∈ ws, x' = V.str y ∧ ws[i]? = some y := by
        rw [List.getElem?_map] at hx'
        obtain ⟨y, h1, h2⟩ := Option.map_eq_some_iff.mp hx'
        exact ⟨y, List.mem_of_getElem? h1, h2.symm, h1⟩
      refine ⟨rfl, ?_⟩
      unfold tYes
      dsimp only
      refine iteT ?_
      refine ⟨_, rfl, _, rfl, (by show 3 ≤ sizeLine; decide), fun q4 n4 => ?_⟩
      have D4 := pen_new (o := .lst [.str "number", .str "number", .str "word"]) D3 n4
      have P4 := y1.same (same_new (o := .lst [.str "number", .str "number", .str "word"]) (Same.refl _) n4)
      have q3 := up (o := .lst [.str "number", .str "number", .str "word"]) y3 n4
      have b4 := y5.anew (o := .lst [.str "number", .str "number", .str "word"]) n4
      refine ⟨p, c, q4, ns, t3, l3, _, rfl, D4, by omega, SqL.of upd_same, by simp, (by show 3 < 1000000; decide), fun x t5 l5 H5 hx h5 D5 b5 => ?_⟩
      obtain ⟨kd, hk, rfl⟩ : ∃ kd : Str, (kd = "number" ∨ kd = "word") ∧ x = V.str kd := by
        simp only [List.mem_cons, List.not_mem_nil, or_false] at hx
        rcases hx with h | h | h
        · exact ⟨_, .inl rfl, h⟩
        · exact ⟨_, .inl rfl, h⟩
        · exact ⟨_, .inr rfl, h⟩
      have P5 := P4.but D4.d b5
      have q5 := b5 _ _ g2 q3
      refine ⟨_, rfl, p, c, ns, t5, l5, 3, rfl, D5, by omega, by decide, by decide, fun j6 t6 l6 H6 j60 j61 h6 D6 b6 => ?_⟩
      have P6 := P5.but D5.d b6
      have q6 := b6 _ _ g2 q5
      refine ⟨rfl, (by show 3 ≤ sizeLine; decide), fun q7 n7 => ?_⟩
      have s7 := same_new (o := .tup [.str y, .str kd, .bl (decide (V.int j6 = V.int 0))]) (Same.refl H6) n7
      have P7 := P6.same s7
      have q7' := s7 _ _ q6
      have D7 := D6.same s7
      have b7 : But p H2 (upd H6 q7 (.tup [.str y, .str kd, .bl (decide (V.int j6 = V.int 0))])) := ((b4.trans b5).trans b6).trans (But.of s7)
      have t7 : (upd H6 q7 (.tup [.str y, .str kd, .bl (decide (V.int j6 = V.int 0))])) q7 = some (.tup [.str y, .str kd, .bl (decide (V.int j6 = V.int 0))]) := upd_same
      generalize decide (V.int j6 = V.int 0) = mu at P7 q7' D7 b7 t7 ⊢
      generalize upd H6 q7 (.tup [.str y, .str kd, .bl mu]) = H7 at P7 q7' D7 b7 t7 ⊢
      refine ⟨_, P7.1, ?_, rs ++ [⟨q7, y, kd, mu⟩], t6, l6, ⟨?_, fun r hr => ?_⟩, ?_, ?_, by push_cast; omega, pen_put D7 eR eC, but_put b7 hR, by rw [List.map_append, y6, List.take_add_one, hyi]; rfl⟩
      · rw [List.length_map, y2, sizeLine_eq]
        omega
      · rw [upd_same, List.map_append]
        rfl
      · rcases List.mem_append.mp hr with z | z
        · have z1 := (P7.2 r z).1
          exact ⟨(upd_ne (fun e => by unfold Pl.at_ at z1; rw [e, P7.1] at z1; cases z1)).trans z1, (P7.2 r z).2⟩
        · rw [List.mem_singleton.mp z]
          exact ⟨(upd_ne (fun e => by have e : q7 = R := e; rw [e, P7.1] at t7; cases t7)).trans t7, g3 y hy, hk⟩
      · rw [List.length_append, y2]
        rfl
      · rw [upd_ne (Ne.symm eQ)]
        exact q7'
    · rintro H3 ⟨rs, t3, l3, y1, y2, y3, y4, D3, y5, y6⟩
      rw [List.length_map] at y2 y4
      rw [List.length_map, List.take_length] at y6
      exact k R rs t3 l3 H3 y1 (by rw [y6]; exact gnd) (fun r hr => g5 r.n (by rw [← y6]; exact List.mem_map.mpr ⟨r, hr, rfl⟩)) (by rw [y2]; exact gne (by omega)) (by omega) (by omega) D3 ((b1.trans b2).trans y5)
end
end K02
set_option Elab.async false
set_option linter.all false
set_option maxRecDepth 100000
set_option maxHeartbeats 4000000
/-! == of two tuples, both answers, by what == of the items gives -/
namespace TupB
open PySem PySem.SeqAt
open AutoSeq1 (wpAny_loadPart')
open MeetsSeq MeetsSeq2 MeetsSeq3 SeqRoads2
section
variable {prog : Program} {w : World} {A : Around} {R : Result → Shared → Prop}
theorem body {l b : Addr} {xs ys : Array Value} {n n2 : Nat} {d1 d2 : Option Addr} {c1 c2 : Array (Option Value)} (J : Nat → Shared → Prop)
    (turn : ∀ i (h1 : i < xs.size) (h2 : i < ys.size) s, J i s → wpAny (model prog w) A.in1 (eqBool xs[i] ys[i]) (fun r s' => if r = true then J (i + 1) s' else R (.ok (.ret (.bool false))) s') (fun e s' => R (.error e) s') s)
    (fin : ∀ i s, J i s → min xs.size ys.size ≤ i → R (.ok (.ret (.bool (decide (xs.size = ys.size))))) s) {s : Shared}
    (hl : s.heap.get? l = some { cls := .type "tuple", dict := d1, data := .seq xs n, slots := c1 }) (hb : s.heap.get? b = some { cls := .type "tuple", dict := d2, data := .seq ys n2, slots := c2 }) (h : J 0 s) :
    wpAny (model prog w) A.in1 (Builtin.«tuple.__eq__» ⟨[.ref l, .ref b], []⟩) (GQ.FinOf prog w A R) (fun e s' => R (.error e) s') s := by
  have sub := AutoSeq1.sub_tuple_tuple
  have hZ : (xs.toList.zip ys.toList).length = min xs.size ys.size := by simp
  have h0 := h
  obtain ⟨hp, g, d, tk, os⟩ := s
  wp_walk using wpAny_loadPart' hl, wpAny_loadPart' hb, wpAny_forIn_list _ (fun rest z s' => z.1 = none ∧ ∃ i, rest = (xs.toList.zip ys.toList).drop i ∧ J i s') _
  case turn =>
    rintro ⟨y, x⟩ rest z s' ⟨hz0, i, hz, hJ⟩
    have hlt : i < (xs.toList.zip ys.toList).length := by
      by_cases q : i < (xs.toList.zip ys.toList).length
      · exact q
      · rw [List.drop_of_length_le (Nat.le_of_not_lt q)] at hz
        cases hz
    have k1 : i < xs.size := by omega
    have k2 : i < ys.size := by omega
    rw [List.drop_eq_getElem_cons hlt] at hz
    injection hz with e1 e2
    obtain rfl : y = xs[i] := by have := congrArg Prod.fst e1; simpa using this
    obtain rfl : x = ys[i] := by have := congrArg Prod.snd e1; simpa using this
    refine wpAny_bind (wpAny_mono (turn i k1 k2 s' hJ) (fun r s2 q2 => ?_) fun _ _ x => x)
    cases r with
    | true =>
      rw [if_pos rfl] at q2
      wp_walk
      exact ⟨rfl, i + 1, e2, q2⟩
    | false =>
      rw [if_neg Bool.false_ne_true] at q2
      wp_walk
      exact q2
  case fin =>
    rintro ⟨z1, z2⟩ s' ⟨hz0, i, hz, hJ⟩
    simp only at hz0
    subst hz0
    have hge : min xs.size ys.size ≤ i := by
      by_cases q : i < (xs.toList.zip ys.toList).length
      · rw [List.drop_eq_getElem_cons q] at hz
        cases hz
      · omega
    have hR := fin i s' hJ hge
    wp_walk
    show R (.ok (.ret (.bool (xs.size == ys.size)))) s'
    have e : (xs.size == ys.size) = decide (xs.size = ys.size) := by
      rw [Bool.eq_iff_iff]
      simp
    rw [e]
    exact hR
  case h => exact ⟨rfl, 0, rfl, h0⟩
/-- == of two tuples as a rich comparison -/
theorem rc {E : Value → Shared → Prop} {s : Shared} {l b : Addr} {xs ys : Array Value} {Q : Value → Shared → Prop} (hu : A.units < cLine) (J : Nat → Shared → Prop) (hl : s.heap.IsTuple l xs) (hb : s.heap.IsTuple b ys)
    (turn : ∀ i (h1 : i < xs.size) (h2 : i < ys.size) s, J i s → wpAny (model prog w) A.in1 (eqBool xs[i] ys[i]) (fun r s' => if r = true then J (i + 1) s' else Q (.bool false) s') E s)
    (fin : ∀ i s, J i s → min xs.size ys.size ≤ i → Q (.bool (decide (xs.size = ys.size))) s) (h : J 0 s) : wpAny (model prog w) A (richCompare .Eq (.ref l) (.ref b)) Q E s := by
  obtain ⟨⟨k1, d1, u1, c1⟩, o1, e1, n, f1⟩ := id hl
  obtain ⟨⟨k2, d2, u2, c2⟩, o2, e2, n2, f2⟩ := id hb
  simp only at e1 f1 e2 f2
  subst e1 f1 e2 f2
  refine wpAny_richCompare_same_room (op := .Eq) ⟨_, o1, rfl⟩ ⟨_, o2, rfl⟩ F.slot_tuple_eq (GQ.call_here F.slot_tuple_eq ⟨_, o1, rfl⟩ F.entry_tuple_eq (F.args_tuple_eq_2 _ _) ?_) hu
  refine body (R := wants (fun v s' => v ≠ .notImplemented ∧ Q v s') E) J (fun i h1 h2 s hJ => wpAny_mono (turn i h1 h2 s hJ) (fun r s' q => ?_) fun _ _ x => x) (fun i s hJ hm => ⟨(fun z => nomatch z), fin i s hJ hm⟩) o1 o2 h
  cases r with
  | true =>
    rw [if_pos rfl] at q ⊢
    exact q
  | false =>
    rw [if_neg Bool.false_ne_true] at q ⊢
    exact ⟨(fun z => nomatch z), q⟩
end
end TupB
set_option Elab.async false
set_option linter.all false
set_option maxRecDepth 100000
set_option maxHeartbeats 4000000
/-! == of tuples of columns -/
namespace K02
open K34 PySem PySem.Spec PyProof.Rows L2
/-- a column's name, kind, need -/
structure Rw where
  n : Str
  k : Str
  b : Bool
  deriving DecidableEq
/-- columns that say the rows, one by one -/
def CsAt (K : PySem.W.Frag) (H : Hp) (cs : List Addr) (rs : List Rw) : Prop := cs.length = rs.length ∧ ∀ (i : Nat) (c : Addr) (r : Rw), cs[i]? = some c → rs[i]? = some r → ColAt K H c r.n r.k r.b
theorem CsAt.same {K : PySem.W.Frag} {H H' : Hp} {cs : List Addr} {rs : List Rw} (h : CsAt K H cs rs) (s : Same H H') : CsAt K H' cs rs := ⟨h.1, fun i c r h1 h2 => (h.2 i c r h1 h2).same s⟩
theorem ColAt.inj {K : PySem.W.Frag} {H : Hp} {a : Addr} {n k n2 k2 : Str} {b b2 : Bool} (h : ColAt K H a n k b) (h2 : ColAt K H a n2 k2 b2) : n = n2 ∧ k = k2 ∧ b = b2 := by
  obtain ⟨d, e⟩ := h
  obtain ⟨d2, e2⟩ := h2
  rw [e] at e2
  injection e2 with e3
  injection e3 with _ _ e4
  unfold colF at e4
  simp only [List.cons.injEq, Prod.mk.injEq, V.str.injEq, V.bl.injEq, true_and, and_true] at e4
  exact e4
def rEqT (K : PySem.W.Frag) : R2 := fun x y H Q => ∃ (a b : Addr) (cs cs2 : List Addr) (rs rs2 : List Rw), x = .ref a ∧ y = .ref b ∧ SqT K H a (cs.map V.ref) ∧ SqT K H b (cs2.map V.ref) ∧ CsAt K H cs rs ∧ CsAt K H cs2 rs2 ∧ Q (.bl (decide (rs = rs2))) H
section
variable {X : Cx} {f : Addr} {fd : FuncData}
/-- two columns inside a tuple's == -/
theorem item_eq (T : ColE X.prog X.w X.K X.mg X.base f fd) {A : Around} (hr : Room 1 A) (hf : A.frames = X.A.frames) {pins : List (Addr × Obj)} {σ : L2.St} {H : Hp} {s : Shared} (I : Inv X pins σ H s) {c1 c2 : Addr} {r1 r2 : Rw} (h1 : ColAt X.K H c1 r1.n r1.k r1.b) (h2 : ColAt X.K H c2 r2.n r2.k r2.b)
    {Q : Bool → Shared → Prop} (q : ∀ s', Inv X pins σ H s' → Q (decide (r1 = r2)) s') : wpAny (model X.prog X.w) A (eqBool (.ref c1) (.ref c2)) Q X.xe s := by
  have eqr : decide (r1.n = r2.n ∧ r1.k = r2.k ∧ r1.b = r2.b) = decide (r1 = r2) := by
    obtain ⟨a1, a2, a3⟩ := r1
    obtain ⟨b1, b2, b3⟩ := r2
    simp only [Rw.mk.injEq]
  by_cases hab : c1 = c2
  · subst hab
    have e : r1 = r2 := by
      obtain ⟨a1, a2, a3⟩ := r1
      obtain ⟨b1, b2, b3⟩ := r2
      obtain ⟨e1, e2, e3⟩ := ColAt.inj h1 h2
      simp only at e1 e2 e3
      rw [e1, e2, e3]
    have q := q s I
    rw [decide_eq_true e] at q
    exact SeqAt.EqAt.same (A := A) (s := s) (.ref c1) X.prog X.w X.xe _ q
  · refine GQ.eqBool_refG hab ?_
    obtain ⟨dx, ha⟩ := id h1
    obtain ⟨mA, J, _⟩ := ins_get I.hok ha
    obtain ⟨od, J, _⟩ := J.look
    obtain ⟨m, hF⟩ := I.fr
    have he : EqCol X.K r1.n r1.k r1.b (.ref c2) H (decide (r1 = r2)) := .inr ⟨c2, r2.n, r2.k, r2.b, rfl, h2, eqr.symm⟩
    obtain ⟨tb, hb, hn⟩ := eqcol_ty T.I I (y := .ref c2) (v := .ref c2) (show L2.RelV (.ref c2) (.ref c2) from rfl) he
    have e0 : Env0 X.prog X.w X.K X.mg X.base A X.stack s H := by
      have e := I.env0
      exact ⟨by rw [hf]; exact e.frames, e.mod, e.bs, e.bsz, e.funs, e.frf, e.hok, e.bare⟩
    refine PySem.W.cmp_K (op := .Eq) (tb := tb) hr.units0 hF I.ok.mod.kin J hb hn T.e T.fn ?_
    refine eq_call T I hr e0 h1 (show L2.RelV (.ref c2) (.ref c2) from rfl) he fun s' H' I' e => ?_
    subst e
    exact ⟨_, rfl, q s' I'⟩
theorem op_eqT (T : ColE X.prog X.w X.K X.mg X.base f fd) (hr : Room 2 X.A) : OpR X (compareOp .Eq) (rEqT X.K) := by
  intro pins s σ H x y v u Q I rx ry hq
  obtain ⟨a, b, cs, cs2, rs, rs2, rfl, rfl, ha, hb, h1, h2, q⟩ := hq
  cases rx
  cases ry
  show wpAny (model X.prog X.w) X.A (richCompare .Eq (.ref a) (.ref b)) (EP X pins σ Q) X.xe s
  obtain ⟨its, r, e, _⟩ := I.tuple ha
  obtain ⟨its2, r2, e2, _⟩ := I.tuple hb
  have l1 : its.length = rs.length := by rw [← r.length, List.length_map, h1.1]
  have l2 : its2.length = rs2.length := by rw [← r2.length, List.length_map, h2.1]
  refine TupB.rc hr.units0 (fun i s' => Inv X pins σ H s' ∧ rs.take i = rs2.take i) e e2 ?_ ?_ ⟨I, rfl⟩
  · rintro i k1 k2 s' ⟨I', ht⟩
    have k1 : i < its.length := by simpa using k1
    have k2 : i < its2.length := by simpa using k2
    have z1 : i < cs.length := by rw [h1.1]; omega
    have z2 : i < cs2.length := by rw [h2.1]; omega
    have g1 : its[i]? = some (.ref cs[i]) := by
      obtain ⟨w, hw, rw'⟩ := r.get (i := i) (x := .ref cs[i]) (by rw [List.getElem?_map, List.getElem?_eq_getElem z1]; rfl)
      cases rw'
      exact hw
    have g2 : its2[i]? = some (.ref cs2[i]) := by
      obtain ⟨w, hw, rw'⟩ := r2.get (i := i) (x := .ref cs2[i]) (by rw [List.getElem?_map, List.getElem?_eq_getElem z2]; rfl)
      cases rw'
      exact hw
    have g1' : its.toArray[i] = .ref cs[i] := by
      rw [List.getElem?_eq_getElem k1] at g1
      simpa using Option.some.inj g1
    have g2' : its2.toArray[i] = .ref cs2[i] := by
      rw [List.getElem?_eq_getElem k2] at g2
      simpa using Option.some.inj g2
    rw [g1', g2']
    have y1 : i < rs.length := by omega
    have y2 : i < rs2.length := by omega
    refine item_eq T hr.in1 rfl I' (h1.2 i _ _ (List.getElem?_eq_getElem z1) (List.getElem?_eq_getElem y1)) (h2.2 i _ _ (List.getElem?_eq_getElem z2) (List.getElem?_eq_getElem y2)) fun s'' I'' => ?_
    by_cases er : rs[i] = rs2[i]
    · rw [decide_eq_true er, if_pos rfl]
      refine ⟨I'', ?_⟩
      rw [List.take_succ, List.take_succ, ht, List.getElem?_eq_getElem y1, List.getElem?_eq_getElem y2, er]
    · rw [decide_eq_false er, if_neg Bool.false_ne_true]
      have ne : rs ≠ rs2 := fun z => er (by subst z; rfl)
      rw [decide_eq_false ne] at q
      exact ⟨.bl false, H, I'', rfl, q⟩
  · rintro i s' ⟨I', ht⟩ hm
    have hm : min its.length its2.length ≤ i := by simpa using hm
    have es : decide (its.toArray.size = its2.toArray.size) = decide (rs = rs2) := by
      rw [List.size_toArray, List.size_toArray, l1, l2]
      by_cases el : rs.length = rs2.length
      · rw [List.take_of_length_le (by omega), List.take_of_length_le (by omega)] at ht
        rw [decide_eq_true el, decide_eq_true ht]
      · rw [decide_eq_false el, decide_eq_false fun z => el (by rw [z])]
    rw [es]
    exact ⟨.bl _, H, I', rfl, q⟩
end
end K02
set_option Elab.async false
set_option linter.all false
set_option maxRecDepth 100000
set_option maxHeartbeats 4000000
/-! a set comprehension of keys (ints, texts) -/
namespace SetC
open PySem PySem.Spec PyProof.Rows L2 PpSet
/-- the empty set of keys, the set with one more key -/
abbrev S0 (P : Program) (w : World) (a : Addr) : HO := SetK P w a (fun _ => false) 0
abbrev S1 (P : Program) (w : World) (a : Addr) (S : Key → Bool) (n : Nat) (k : Key) : HO := SetK P w a (fun j => S j || decide (j = k)) (if S k = true then n else n + 1)
theorem set0 {P : Program} {w : World} (h : Heap) : (h.push { cls := .type "set", dict := none, data := .set #[] 0 (.fresh 0 0 (!w.params.followText "set-order")) }).SetOf (mixKind P w) h.objs.size (fun _ => false) 0 :=
  ⟨_, #[], 0, _, Heap.get?_push_size _ rfl, ⟨rfl, rfl, rfl⟩, rfl, (fun e he => by simp at he), (fun k => by simp), (by decide), (by rfl), rfl⟩
section
variable {X : Cx}
/-- what one turn leads to -/
def tStep (P : Program) (w : World) (g : TG) (tt : TT) (te : TE) (vs : List Nat) (σ : L2.St) (D : Addr) (Nx : Hp → Prop) : V → Hp → Prop := fun x H => g x (wipe σ vs) H fun σ2 H2 => wipe σ2 vs = wipe σ vs ∧ tt σ2 H2 fun b H3 =>
  if b = true then te σ2 H3 fun y H4 => ∃ (k : Key) (S : Key → Bool) (n : Nat), y = kV k ∧ H4 D = some (SetK P w D S n) ∧ n + 1 < scanBound ∧ Nx (upd H4 D (S1 P w D S n k)) else Nx H3
def tScK (P : Program) (w : World) (wi : TI) (g : TG) (tt : TT) (te : TE) (vs : List Nat) : TE := fun σ H Q => wi σ H fun J H1 => ∀ D, H1 D = none → ∃ W : Nat → Nat → Hp → Prop, (∃ m, W 0 m (upd H1 D (S0 P w D))) ∧ ∀ i m H, W i m H →
  (J.stop i H ∧ Q (.ref D) H) ∨ (J.go i H ∧ ∃ Nx : Hp → Prop, (∀ H', Nx H' → ∃ m', m' < m ∧ W (i + 1) m' H') ∧ ∀ x H', J.yld i H x H' → tStep P w g tt te vs σ D Nx x H')
variable {elt tg iter : Expr} {ifs : List Expr} {scope : Scope} {own : List (PySem.Str × Nat)} {pos : Pos} {wi : TI} {g : TG} {tt : TT} {te : TE}
theorem pe_scK (hc : X.calm = true) (hN : X.N.Nodup) (hi : PI X tg iter wi) (ok : BlkOk X.N X.env.scope scope own)
    (hg : ∀ (s : Shared) (H : Hp) (C : Addr) (cl : List (PySem.Str × Addr)) (fp : List Addr), PG (X.blk s H scope (compEnvC scope cl C X.env) fp) tg g)
    (ht : ∀ (s : Shared) (H : Hp) (C : Addr) (cl : List (PySem.Str × Addr)) (fp : List Addr), PTs (X.blk s H scope (compEnvC scope cl C X.env) fp) ifs tt)
    (he : ∀ (s : Shared) (H : Hp) (C : Addr) (cl : List (PySem.Str × Addr)) (fp : List Addr), PE (X.blk s H scope (compEnvC scope cl C X.env) fp) elt te) (hs : ∀ x, foldedSetIterable iter X.env x = pure x := by intro _; rfl) :
    PE X (.SetComp elt [⟨tg, iter, ifs, 0⟩] scope pos) (tScK X.prog X.w wi g tt te (own.map (·.2))) := by
  refine ⟨fun pins s σ H Q I h => ?_⟩
  rw [eval_SetComp]
  have fr : ∀ y ∈ scope.names, y.2 = .free → ∃ c, X.env.cells.lookup y.1 = some c := fun y hy e => (ok.free y hy e).elim (fun k => I.ok.has _ (.inl k)) fun k => I.ok.has _ (.inr k)
  refine wpAny_comprehension_free (use := none) rfl hs (closure_ok fr) ok.kind (fun y hy e => by rw [ok.uniq y hy, e]) (thn (hi.run pins s σ H _ I h) fun xv t1 hx => thn hx fun itv t2 h2 => ?_)
  obtain ⟨it, fp, tn, J, Ha, rfl, Ia, T, sa, fa, q⟩ := h2
  refine newSet_ok (newEnv_comp ?_)
  generalize hD : t2.heap.objs.size = D
  have nD : Ha D = none := Ia.hok.fresh (Nat.le_of_eq hD)
  obtain ⟨W, ⟨m0, w0⟩, turn⟩ := q D nD
  generalize e3 : ({ t2 with heap := t2.heap.push { cls := .type "set", dict := none, data := .set #[] 0 (.fresh 0 0 (!X.w.params.followText "set-order")) } } : Shared) = t3
  have hp3 : t3.heap = t2.heap.push { cls := .type "set", dict := none, data := .set #[] 0 (.fresh 0 0 (!X.w.params.followText "set-order")) } := by rw [← e3]
  have Ib : Inv X pins σ (upd Ha D (S0 X.prog X.w D)) t3 := by
    rw [← e3]
    refine Ia.laid (t' := t2.toks) (fun b o e => Heap.get?_push_of_some _ e) (Nat.le_of_eq hD) ?_
    subst hD
    exact setK_new (set0 _)
  generalize eH : upd Ha D (S0 X.prog X.w D) = Hb at Ib w0
  have fb : ∀ b ∈ fp, FpOk X pins Hb b ∧ b < t3.heap.objs.size := fun b hb => by
    obtain ⟨o, eo, _⟩ := T.obj _ _ sa b hb
    have lt := Heap.lt_size eo
    refine ⟨⟨?_, (fa b hb).2⟩, by rw [hp3, Heap.size_push]; exact Nat.lt_succ_of_lt lt⟩
    rw [← eH, upd_ne (by subst hD; exact Nat.ne_of_lt lt)]
    exact (fa b hb).1
  have sb : tn 0 t3.heap := T.keep _ _ _ sa fun b _ o e => by rw [hp3]; exact Heap.get?_push_of_some _ e
  have I4 := block_start Ib ok hN fb
  have pg := hg t3 Hb t3.heap.objs.size (cellsFrom (t3.heap.objs.size + 1) scope.names (cloFrom X.env.cells scope.names [])) fp
  have pt := ht t3 Hb t3.heap.objs.size (cellsFrom (t3.heap.objs.size + 1) scope.names (cloFrom X.env.cells scope.names [])) fp
  have pe := he t3 Hb t3.heap.objs.size (cellsFrom (t3.heap.objs.size + 1) scope.names (cloFrom X.env.cells scope.names [])) fp
  show codeAny (model X.prog X.w) X.A (.compStart (.SetComp elt [⟨tg, iter, ifs, 0⟩] scope pos) 0 (.ref it) (.ref D) (compEnvC scope (cellsFrom (t3.heap.objs.size + 1) scope.names (cloFrom X.env.cells scope.names [])) t3.heap.objs.size X.env)) (compPost (model X.prog X.w) X.A X.xe none (EP X pins σ Q) (.ref D) t3.heap.objs.size) { t3 with heap := pushCells (t3.heap.push { cls := .type "dict", data := .dict #[] }) scope.names }
  generalize ec : compEnvC scope (cellsFrom (t3.heap.objs.size + 1) scope.names (cloFrom X.env.cells scope.names [])) t3.heap.objs.size X.env = ce at I4 pg pt pe ⊢
  have cl : ce.locals = t3.heap.objs.size := by rw [← ec]; rfl
  generalize e4 : ({ t3 with heap := pushCells (t3.heap.push { cls := .type "dict", data := .dict #[] }) scope.names } : Shared) = t4 at I4 ⊢
  have s4 : tn 0 t4.heap := T.keep _ _ _ sb fun b _ o e => by rw [← e4]; exact pushCells_keeps _ _ _ _ (Heap.get?_push_of_some _ e)
  have far : ∀ {σ' : L2.St} {H' : Hp} {s' : Shared}, Inv (X.blk t3 Hb scope ce fp) [] σ' H' s' → (∀ b ∈ fp, H' b = none) → ∀ b ∈ fp, FpOk (X.blk t3 Hb scope ce fp) [] H' b := fun {σ' H' s'} J' hn b hb =>
    ⟨hn b hb, (J'.ok.exf b hb).1, J'.ok.exfs b hb, .inl hb, fun x c e => (J'.ok.exf b hb).2 x c e, fun p hp => absurd (show p ∈ ([] : List (Addr × Obj)) ++ [] from hp) (by simp)⟩
  have turns : codeAny (model X.prog X.w) X.A (.compLoop (.SetComp elt [⟨tg, iter, ifs, 0⟩] scope pos) 0 (.ref it) (.ref D) ce) (compPost (model X.prog X.w) X.A X.xe none (EP X pins σ Q) (.ref D) t3.heap.objs.size) t4 := by
    refine compLoopS_any (fun m z => ∃ i Hz, Inv (X.blk t3 Hb scope ce fp) [] (wipe σ (own.map (·.2))) Hz z ∧ tn i z.heap ∧ (∀ b ∈ fp, Hz b = none) ∧ W i m Hz) ?_ m0 ⟨0, Hb, I4, s4, fun b hb => (fb b hb).1.1, w0⟩
    rintro m z ⟨i, Hz, Iz, sz, nz, wz⟩
    rcases turn i m Hz wz with ⟨st, qq⟩ | ⟨go, Nx, hNx, step⟩
    · refine thnF (T.done (X.blk t3 Hb scope ce fp) rfl rfl rfl hc i [] z _ Hz (fun _ _ => False) Iz (far Iz nz) sz st) fun r z6 ⟨hr, I6⟩ => ?_
      subst hr
      have out : Inv X pins σ Hz z6 := Ib.call' (ch := fp) I6.os I6.base I6.hok I6.bare fun b hb => let u := (fb b hb).1.2; ⟨u.2.2.1, u.1, u.2.2.2.1, u.2.2.2.2⟩
      have nC : Hz t3.heap.objs.size = none := by
        have y : Hz ce.locals = none := I6.free
        rwa [cl] at y
      obtain ⟨mm, hn, _⟩ := I6.loc
      have hn : z6.heap.Ns ce.locals mm := hn
      rw [cl] at hn
      refine ⟨mm, hn, fun h'' sk => ?_⟩
      obtain ⟨y0, y1, y2, y3, y4, y5⟩ := Ib.fpOk (Nat.le_refl _) nC
      exact ⟨.ref D, Hz, out.turned (t' := z6.toks) (fun b o hb e => (sk.2 b hb).trans e) y0 y1 y3 y4 y5, rfl, qq⟩
    · refine thnF (T.item (X.blk t3 Hb scope ce fp) rfl rfl rfl hc i [] z _ Hz (fun _ _ => False) Iz (far Iz nz) sz go) fun r z6 ⟨u, hr, h6⟩ => ?_
      subst hr
      refine thnF h6 fun _ z7 ⟨x, H7, I7, r7, y7, s7, n7⟩ => ?_
      refine thnF (pg.run _ z7 _ H7 x u _ (I7.pinned (far I7 n7) (T.obj _ _ s7)) r7 (step x H7 y7)) fun _ z8 ⟨σ8, H8, I8, hw8, q8⟩ => ?_
      refine thnF (pt.run _ z8 σ8 H8 _ I8 q8) fun b z9 ⟨H9, I9, q9⟩ => ?_
      have back : ∀ {s' : Shared} {H' : Hp}, Inv (X.blk t3 Hb scope ce fp) ([] ++ pinsAt fp z7.heap) σ8 H' s' → Nx H' → ∃ m', m' < m ∧ ∃ i' Hz', Inv (X.blk t3 Hb scope ce fp) [] (wipe σ (own.map (·.2))) Hz' s' ∧ tn i' s'.heap ∧ (∀ b ∈ fp, Hz' b = none) ∧ W i' m' Hz' := fun {s' H'} J' nx => by
        obtain ⟨m', hm, w'⟩ := hNx H' nx
        have pin : ∀ b ∈ fp, ∀ o, z7.heap.get? b = some o → s'.heap.get? b = some o ∧ H' b = none := fun b hb o e =>
          let y := J'.pin (b, o) (List.mem_append_right _ (List.mem_append_right _ (mem_pinsAt hb e)))
          ⟨y.1, y.2.1⟩
        refine ⟨m', hm, i + 1, H', (J'.unpinned (pins := [])).weak (by rw [← hw8, wipe_length]) (fun j v e => ?_), T.keep _ _ _ s7 fun b hb o e => (pin b hb o e).1, fun b hb => ?_, w'⟩
        · rw [← hw8] at e
          exact (wipe_some e).1
        · obtain ⟨o, e, _⟩ := T.obj _ _ s7 b hb
          exact (pin b hb o e).2
      cases b with
      | false =>
        rw [if_neg Bool.false_ne_true] at q9 ⊢
        exact back I9 q9
      | true =>
        rw [if_pos rfl] at q9 ⊢
        refine thnF (pe.run _ z9 σ8 H9 _ I9 q9) fun v z10 ⟨y, H10, I10, r10, k, S, n, ey, hS, room, nx⟩ => ?_
        subst ey
        refine call_set_add (kV_is r10) (key_scan r10) (setK_get (X := X.blk t3 Hb scope ce fp) I10 hS) room fun h' sk new => ?_
        have ex : ∃ u, h'.get? D = some u := by
          have ⟨o, _, _, _, ho, _⟩ := new
          exact ⟨o, ho⟩
        exact back (I10.write (e := D) (t' := z10.toks + 1) (by rw [hS]; trivial) (.inl rfl) (fun b u hb hu => (sk.2 b hb).trans hu) ex (setK_new new)) nx
  exact codeAny_compStart_set turns (T.self X.A 0 _ _ _ s4 turns)
/-- over a walk -/
theorem sck_it {P : Program} {w : World} {J : It} {n : Nat} {G : Hp → Prop} {Y : Nat → Hp → V → Hp → Prop} (wk : Walk J n G Y) {g : TG} {tt : TT} {te : TE} {vs : List Nat} {σ : L2.St} {H1 : Hp} {D : Addr} {Qd : Hp → Prop} (Pv : Nat → Hp → Prop)
    (h0 : Pv 0 (upd H1 D (S0 P w D))) (hG : ∀ i H, i ≤ n → Pv i H → G H) (hs : ∀ i x H H', i < n → Pv i H → Y i H x H' → tStep P w g tt te vs σ D (Pv (i + 1)) x H') (hd : ∀ H, Pv n H → Qd H) :
    ∃ W : Nat → Nat → Hp → Prop, (∃ m, W 0 m (upd H1 D (S0 P w D))) ∧ ∀ i m H, W i m H →
      (J.stop i H ∧ Qd H) ∨ (J.go i H ∧ ∃ Nx : Hp → Prop, (∀ H', Nx H' → ∃ m', m' < m ∧ W (i + 1) m' H') ∧ ∀ x H', J.yld i H x H' → tStep P w g tt te vs σ D Nx x H') := by
  refine ⟨fun i m H => m + i = n ∧ Pv i H, ⟨n, by simp, h0⟩, ?_⟩
  rintro i m H ⟨hm, p⟩
  have q := hG i H (by omega) p
  rcases Nat.eq_zero_or_pos m with z | z
  · obtain rfl : i = n := by omega
    exact .inl ⟨wk.stops H q, hd H p⟩
  · exact .inr ⟨wk.goes i H (by omega) q, Pv (i + 1), fun H' p' => ⟨m - 1, by omega, by omega, p'⟩, fun x H' y => hs i x H H' (by omega) p (wk.yields i H x H' (by omega) q y)⟩
theorem call_lenK : CallR X (.builtin "len") (fun xs H Q => ∃ (a : Addr) (S : Key → Bool) (n : Nat), xs = [.ref a] ∧ H a = some (SetK X.prog X.w a S n) ∧ n < scanBound ∧ Q (.int n) H) := by
  intro pins s σ H xs us Q I r h
  obtain ⟨a, S, n, rfl, ha, hn, q⟩ := h
  obtain ⟨u, rfl, rx⟩ := vals1 r
  cases rx
  obtain ⟨o, es, ep, t, ho, hex, hd, _, _, _, hf, hz⟩ := setK_get I ha
  have sb : scanBound < 2 ^ 62 := by decide
  refine call_len_set ho hex hd hf (by rw [hz]; omega) ⟨.int n, H, I.tok _, ⟨_, by rw [hz]⟩, q⟩
end
end SetC
set_option Elab.async false
set_option linter.all false
set_option maxRecDepth 100000
set_option maxHeartbeats 4000000
namespace K02
open K34 PySem PySem.Spec PyProof.Rows L2 SetC
theorem call_isiK {X : Cx} {K : PySem.W.Frag} (e : X.K = K) : CallR X (.builtin "isinstance") (rIsi K) := by
  subst e
  exact call_isi
structure PrT (P : Program) (w : World) (K : PySem.W.Frag) (mg : Str → Option Value) (base : Heap) (C : Addr) (x : Str) (sp : Sp) (p a : Addr) (fd : FuncData) : Prop where
  pr : PropOf K C x p a
  ok : FnOk P w K mg base CX0 1 a fd ["self"] sp
  b : Binds K fd ["self"] []
/-- isinstance(x, Column) -/
def IsCol (K : PySem.W.Frag) (H : Hp) (x : V) (b : Bool) : Prop := ∃ t, TyX K H x t ∧ PySem.W.kitOne K t (.ref (He.ga K "Column")) = some b
theorem IsCol.col {K : PySem.W.Frag} {mg : Str → Option Value} (T : ColI K mg) {H : Hp} {a : Addr} {n k : Str} {b : Bool} (c : ColAt K H a n k b) : IsCol K H (.ref a) true := ⟨_, T.col c, T.self⟩
theorem IsCol.th {K : PySem.W.Frag} {mg : Str → Option Value} (T : ColI K mg) {H : Hp} {x : V} {d : PyData} (c : Th K H x d) : IsCol K H x false := ⟨_, th_ty c, T.other d⟩
theorem IsCol.lst {K : PySem.W.Frag} {mg : Str → Option Value} (T : ColI K mg) {H : Hp} {a : Addr} {l : List V} (c : H a = some (.lst l)) : IsCol K H (.ref a) false := ⟨_, .base (.lst c), T.other (.list [])⟩
/-- what may stand among the arguments: a column, a datum, a list -/
inductive It2 (K : PySem.W.Frag) (H : Hp) : V → Bool → Prop where
  | col {a : Addr} {r : Rw} (h : ColAt K H a r.n r.k r.b) : It2 K H (.ref a) true
  | th {x : V} {d : PyData} (h : Th K H x d) : It2 K H x false
  | lst {a : Addr} {l : List V} (h : H a = some (.lst l)) : It2 K H (.ref a) false
theorem It2.same {K : PySem.W.Frag} {H H' : Hp} {x : V} {b : Bool} (h : It2 K H x b) (s : Same H H') : It2 K H' x b := by
  cases h with
  | col h => exact .col (h.same s)
  | th h => exact .th (h.same s)
  | lst h => exact .lst (s _ _ h)
theorem It2.is {K : PySem.W.Frag} {mg : Str → Option Value} (T : ColI K mg) {H : Hp} {x : V} {b : Bool} (h : It2 K H x b) : IsCol K H x b := by
  cases h with
  | col h => exact .col T h
  | th h => exact .th T h
  | lst h => exact .lst T h
/-- what _make_up_schema says of a tuple of anything -/
def MupAns (K : PySem.W.Frag) (H : Hp) (xs : List V) (r : Bool) : Prop := (¬(1 ≤ xs.length ∧ xs.length ≤ 5) ∧ r = false) ∨ (∃ bs : List Bool, bs.length = xs.length ∧ (∀ (i : Nat) (x : V) (b : Bool), xs[i]? = some x → bs[i]? = some b → It2 K H x b) ∧ bs.all id = false ∧ r = false) ∨
  ∃ (cs : List Addr) (rs : List Rw), xs = cs.map V.ref ∧ CsAt K H cs rs ∧ 1 ≤ cs.length ∧ cs.length ≤ 5 ∧ r = decide ((rs.map (·.n)).Nodup)
theorem sqT_same {K : PySem.W.Frag} {H H' : Hp} {a : Addr} {xs : List V} (h : SqT K H a xs) (e : Same H H') : SqT K H' a xs := by
  rcases h with (h | ⟨o, h⟩) | h
  · exact .inl (.inl (e _ _ h))
  · exact .inl (.inr ⟨o, e _ _ h⟩)
  · exact .inr h
def spMup (K : PySem.W.Frag) : Sp := fun vs H Q _ => ∃ (T : Addr) (xs : List V) (r : Bool), vs = [.ref T] ∧ SqT K H T xs ∧ xs.length ≤ 1000 ∧ MupAns K H xs r ∧ ∀ H', Same H H' → Q (.bl r) H'
theorem scMup : FnScope ["columns", "column"] ["columns"] (defScope sMakeUp) := ⟨rfl, rfl, rfl, by decide +kernel, rfl, by decide +kernel, by decide +kernel⟩
section
variable {P : Program} {w : World} {K : PySem.W.Frag} {mg : Str → Option Value} {base : Heap} {f pN aN : Addr} {fd fdN : FuncData}
theorem ok_mup (F : FnP K "_make_up_schema" sMakeUp f fd) (T : ColI K mg) (hmax : ∃ t, mg "MAX_COLUMNS" = some (.int 5 t)) (PN : PrT P w K mg base (He.ga K "Column") "name" (spGet K fun n _ _ => .str n) pN aN fdN) : FnOk P w K mg base CX0 3 f fd ["columns"] (spMup K) := by
  refine F.ok scMup (fun vs H Q E h => ?_) (fun cdv A outer s H vs Q E hr h => ?_)
  · obtain ⟨T, xs, r, rfl, _⟩ := h
    rfl
  · obtain ⟨q, xs, r, rfl, hs, hl, ans, k⟩ := h
    have nd := scMup.nd
    obtain ⟨tM, hM⟩ := hmax
    have C : Cls K (He.ga K "Column") := T.cl
    refine ⟨_, PSs.nox (pss_cons (ps_if (pt_not (pt_chain op_le op_le pe_int (pe_callB call_len_seq (by rfl) T.len PySem.boot_len (pa_cons (pv 0) pa_nil)) (pe_glob (v := .int 5) rfl hM ⟨_, rfl⟩))) (pss_one (ps_ret pe_bl)) pss_nil)
      (pss_cons (ps_if (pt_not (pt_val (pe_callB (cr_all rfl) (by rfl) T.all (by decide +kernel) (pa_cons (pe_lc (own := [("column", 1)]) (g := gName 1) (tt := tYes) rfl nd (pi_tup (pv 0)) (blkOk_by (N := ["columns", "column"]) (sc := defScope sMakeUp) (by decide +kernel)) (fun _ _ _ _ _ => pg_name (i := 1) nd rfl (Or.inl rfl)) (fun _ _ _ _ _ => pts_nil)
          (fun _ _ _ _ _ => pe_callB (call_isiK rfl) (by rfl) T.isi (by decide +kernel) (pa_cons (pv 1) (pa_cons (pe_glob (v := .ref (He.ga K "Column")) rfl T.g rfl) pa_nil)))) pa_nil)))) (pss_one (ps_ret pe_bl)) pss_nil)
      (pss_one (ps_ret (pe_cmpR op_eq (pe_callB call_lenK (by rfl) T.len PySem.boot_len (pa_cons (pe_scK (own := [("column", 1)]) (g := gName 1) (tt := tYes) rfl nd (pi_tup (pv 0)) (blkOk_by (N := ["columns", "column"]) (sc := defScope sMakeUp) (by decide +kernel)) (fun _ _ _ _ _ => pg_name (i := 1) nd rfl (Or.inl rfl)) (fun _ _ _ _ _ => pts_nil)
          (fun _ _ _ _ _ => pe_prop (pv 1) C PN.pr PN.ok (hr.mono (by decide)) PN.b .nil pass0 (by rfl))) pa_nil)) (pe_callB call_len_seq (by rfl) T.len PySem.boot_len (pa_cons (pv 0) pa_nil)) (nomark _)))))), ?_⟩
    refine ⟨_, rfl, q, xs, rfl, .inr hs, _, _, rfl, rfl, _, rfl, ?_⟩
    have bad : ¬(1 ≤ xs.length ∧ xs.length ≤ 5) → Q (.bl false) H := fun e => by
      have k := k H (Same.refl H)
      rcases ans with ⟨_, rfl⟩ | ⟨bs, hb, h1, h2, rfl⟩ | ⟨cs, rs, rfl, hc, g1, g2, rfl⟩
      · exact k
      · exact k
      · exact absurd ⟨by rw [List.length_map]; exact g1, by rw [List.length_map]; exact g2⟩ e
    refine ite2 (fun h1 => ?_) (fun h1 => ?_)
    · have h1 := of_decide_eq_true h1
      refine ⟨_, _, rfl, rfl, _, rfl, ?_⟩
      refine ite2 (fun h2 => ?_) (fun h2 => ?_)
      · have h2 : decide ((xs.length : Int) ≤ 5) = false := by simpa using h2
        have h2 := of_decide_eq_false h2
        exact bad fun z => h2 (by omega)
      · have h2 : decide ((xs.length : Int) ≤ 5) = true := by simpa using h2
        have h2 := of_decide_eq_true h2
        refine ⟨_, rfl, q, rfl, ⟨xs, hs⟩, fun D hD => ?_⟩
        have hD : H D = none := hD
        obtain ⟨bs, hb, hi, ha⟩ : ∃ bs : List Bool, bs.length = xs.length ∧ (∀ (i : Nat) (x : V) (b : Bool), xs[i]? = some x → bs[i]? = some b → It2 K H x b) ∧ (bs.all id = false ∧ r = false ∨ bs.all id = true ∧ ∃ (cs : List Addr) (rs : List Rw), xs = cs.map V.ref ∧ CsAt K H cs rs ∧ r = decide ((rs.map (·.n)).Nodup)) := by
          rcases ans with ⟨e, rfl⟩ | ⟨bs, hb, h1, h2, rfl⟩ | ⟨cs, rs, rfl, hc, g1, g2, rfl⟩
          · exact absurd ⟨by omega, by omega⟩ e
          · exact ⟨bs, hb, h1, .inl ⟨h2, rfl⟩⟩
          · refine ⟨List.replicate cs.length true, by simp, fun i x b hx hb => ?_, .inr ⟨by simp, cs, rs, rfl, hc, rfl⟩⟩
            rw [List.getElem?_map] at hx
            obtain ⟨c, hcx, rfl⟩ := Option.map_eq_some_iff.mp hx
            have lt : i < cs.length := (List.getElem?_eq_some_iff.mp hcx).1
            rw [List.getElem?_replicate_of_lt lt] at hb
            cases hb
            exact .col (hc.2 i c _ hcx (List.getElem?_eq_getElem (by rw [← hc.1]; exact lt)))
        refine lc_it (walk_tup (K := K) (a := q) (xs := xs)) (fun i H6 => H6 D = some (.lst ((bs.take i).map V.bl)) ∧ Same H H6) ⟨upd_same, same_new (Same.refl H) hD⟩ (fun i H3 _ y => sqT_same hs y.2) ?_ ?_
        · rintro i x H6 H7 hi' ⟨y1, y2⟩ ⟨rfl, hx⟩
          have lb : i < bs.length := by rw [hb]; exact hi'
          refine ⟨rfl, ?_⟩
          unfold tYes
          dsimp only
          refine iteT ?_
          obtain ⟨t, ty, kt⟩ := ((hi i x bs[i] hx (List.getElem?_eq_getElem lb)).same y2).is T
          refine ⟨_, rfl, x, .ref (He.ga K "Column"), t, _, bs[i], rfl, .own _, ty, kt, _, y1, ?_, ?_, fun b o e => ?_⟩
          · rw [List.length_map, List.length_take, sizeLine_eq]
            omega
          · rw [upd_same, List.take_add_one, List.getElem?_eq_getElem lb, List.map_append]
            rfl
          · rw [upd_ne (ne_of_none e hD)]
            exact y2 b o e
        · rintro H6 ⟨y1, y2⟩
          rw [List.take_of_length_le (by omega)] at y1
          refine ⟨D, bs, rfl, SqL.of y1, ?_⟩
          rcases ha with ⟨e, rfl⟩ | ⟨e, cs, rs, rfl, hc, rfl⟩
          · rw [e]
            refine ⟨_, rfl, ?_⟩
            refine iteT ?_
            exact k H6 y2
          · rw [e]
            refine ⟨_, rfl, ?_⟩
            refine iteF ?_
            have hs6 := sqT_same hs y2
            refine ⟨_, rfl, q, rfl, ⟨_, hs6⟩, fun D2 hD2 => ?_⟩
            have hD2 : H6 D2 = none := hD2
            have lc : cs.length = rs.length := hc.1
            rw [List.length_map] at h1 h2
            refine sck_it (walk_tup (K := K) (a := q) (xs := cs.map V.ref)) (fun i H7 => ∃ (S : Key → Bool) (n : Nat), H7 D2 = some (SetK P w D2 S n) ∧ Same H6 H7 ∧ n ≤ i ∧ (∀ x : Str, S (.inr x) = decide (x ∈ (rs.map (·.n)).take i)) ∧ (n = i ↔ ((rs.map (·.n)).take i).Nodup))
              ⟨fun _ => false, 0, upd_same, same_new (Same.refl H6) hD2, Nat.le_refl _, fun x => by simp, by simp⟩ (fun i H7 _ ⟨_, _, _, y, _⟩ => sqT_same hs6 y) ?_ ?_
            · rintro i x H7 H8 hi7 ⟨S, n, z1, z2, z3, z4, z5⟩ ⟨rfl, hx⟩
              rw [List.getElem?_map] at hx
              obtain ⟨c, hcx, rfl⟩ := Option.map_eq_some_iff.mp hx
              have lt : i < cs.length := (List.getElem?_eq_some_iff.mp hcx).1
              have lr : i < rs.length := by omega
              have col := ((hc.2 i c rs[i] hcx (List.getElem?_eq_getElem lr)).same y2).same z2
              obtain ⟨dx, hcol⟩ := id col
              unfold tStep
              refine ⟨rfl, ?_⟩
              unfold tYes
              dsimp only
              refine iteT ?_
              have hni : ((rs.map (·.n)).take (i + 1)) = ((rs.map (·.n)).take i) ++ [rs[i].n] := by
                rw [List.take_add_one, List.getElem?_map, List.getElem?_eq_getElem lr]
                rfl
              refine ⟨_, rfl, c, dx, _, rfl, hcol, c, _, _, _, rfl, col, .inr rs[i].n, S, n, rfl, z1, (by show n + 1 < 4096; omega), _, _, upd_same, ?_, ?_, ?_, ?_⟩
              · intro b o e
                rw [upd_ne (ne_of_none e hD2)]
                exact z2 b o e
              · split <;> omega
              · intro x
                rw [z4, hni]
                by_cases e : x = rs[i].n
                · subst e
                  simp
                · simp [e]
              · rw [hni, List.nodup_append]
                by_cases e : rs[i].n ∈ (rs.map (·.n)).take i
                · rw [if_pos (by rw [z4]; exact decide_eq_true e)]
                  refine ⟨fun z => by omega, fun z => absurd rfl (z.2.2 _ e _ (List.mem_singleton.mpr rfl))⟩
                · rw [if_neg (by rw [z4]; simpa using e)]
                  refine ⟨fun z => ⟨z5.mp (by omega), by simp, fun a ha b hb e2 => e ?_⟩, fun z => by rw [z5.mpr z.1]⟩
                  rw [List.mem_singleton.mp hb] at e2
                  rw [← e2]
                  exact ha
            · rintro H7 ⟨S, n, z1, z2, z3, z4, z5⟩
              rw [List.length_map] at z3 z5
              refine ⟨D2, S, n, rfl, z1, (by show n < 4096; omega), ?_⟩
              refine ⟨_, rfl, q, _, rfl, .inr (sqT_same hs6 z2), ?_⟩
              have e3 : decide (V.int (n : Int) = V.int ((cs.map V.ref).length : Nat)) = decide ((rs.map (·.n)).Nodup) := by
                have tk : (rs.map (·.n)).take cs.length = rs.map (·.n) := List.take_of_length_le (by rw [List.length_map]; omega)
                rw [tk] at z5
                rw [List.length_map]
                by_cases u : (rs.map (·.n)).Nodup
                · rw [decide_eq_true u, z5.mpr u]
                  exact decide_eq_true rfl
                · rw [decide_eq_false u]
                  refine decide_eq_false fun v => u (z5.mp ?_)
                  have := V.int.inj v
                  omega
              refine ⟨rfl, ?_⟩
              rw [e3]
              exact k H7 (y2.trans z2)
    · have h1 : decide ((1 : Int) ≤ xs.length) = false := by simpa using h1
      have h1 := of_decide_eq_false h1
      refine ⟨_, rfl, ?_⟩
      dsimp only
      refine iteT ?_
      exact bad fun z => h1 (by omega)
end
end K02
set_option Elab.async false
set_option linter.all false
set_option maxRecDepth 100000
set_option maxHeartbeats 4000000
/-! raise C(..) for own errors of every base: with fields, without -/
namespace K34
open PySem PySem.Spec PyProof.Rows L2
section
variable {X : Cx} {pins : List (Addr × Obj)} {σ : L2.St} {k : Kd} {x : Str} {C fI : Addr} {fd : FuncData} {ps : List Str} {sp : Sp}
/-- an error without a dict is let go -/
theorem mk_endN {H1 H2 : Hp} {Q : XK} {ha hb hc : Heap} {g1 g2 : Array GenState} {d1 d2 : Drawn} {t1 t2 : Nat} {os1 os2 : OsState} {a : Addr} (R : Raises X (.ref C)) (I : Inv X pins σ H1 ⟨ha, g1, d1, t1, os1⟩) (sz : ha.objs.size ≤ a)
    (kp : ∀ b o, ha.get? b = some o → hb.get? b = some o) (un : Un (frs X.stack) [] (upd H1 a (exo a C none)) H2 hb hc) (ok : HOk X.prog X.w H2 hc) (eo : os2 = os1) (bare : AllBare g2) (ea : H2 a = some (exo a C none)) (q : Q (.ref C) none (del H2 a)) :
    MkP X pins σ Q (.ref a) ⟨hc, g2, d2, t2, os2⟩ := by
  obtain ⟨t0, eat⟩ := exo_at ok ea
  have n1 : H1 a = none := I.hok.fresh sz
  obtain ⟨G, y1, y2⟩ := restrict hc fun b => decide (b ≠ a)
  have Ga : G.get? a = none := y2 a (by simp)
  have Gb : ∀ {b}, b ≠ a → G.get? b = hc.get? b := fun {b} z => y1 b (decide_eq_true z)
  have off : ∀ {b : Addr} {o : Obj}, ha.get? b = some o → b ≠ a := fun {b o} z => Nat.ne_of_lt (Nat.lt_of_lt_of_le (Heap.lt_size z) sz)
  have un1 : ∀ {b : Addr}, b ≠ a → H1 b = none → upd H1 a (exo a C none) b = none := fun {b} z n => (upd_ne z).trans n
  have U : Un (frs X.stack) [] H1 (del H2 a) ha G :=
    { keep := fun b o z n f e => (Gb (off z)).trans (un.keep b o (kp b o z) (un1 (off z) n) f e)
      slot := fun b o z n f e => by
        obtain ⟨sl, y⟩ := un.slot b o (kp b o z) (un1 (off z) n) f e
        exact ⟨sl, (Gb (off z)).trans y⟩
      free := fun b o z n e => (del_ne (off z)).trans (un.free b o (kp b o z) (un1 (off z) n) e)
      there := fun b o z e => by
        obtain ⟨u, y⟩ := un.there b o (kp b o z) e
        exact ⟨u, (Gb (off z)).trans y⟩
      tups := fun b l z => (del_ne (ne_of_none z n1)).trans (un.tups b l ((upd_ne (ne_of_none z n1)).trans z))
      frzs := fun b o v z => (del_ne (ne_of_none z n1)).trans (un.frzs b o v ((upd_ne (ne_of_none z n1)).trans z))
      tbls := fun b l z => by
        obtain ⟨m, y⟩ := un.tbls b l ((upd_ne (ne_of_none z n1)).trans z)
        exact ⟨m, (del_ne (ne_of_none z n1)).trans y⟩ }
  have okG : HOk X.prog X.w (del H2 a) G := fun b o z => by
    have nb : b ≠ a := fun e => by
      rw [e, del_same] at z
      cases z
    rw [del_ne nb] at z
    have nOwn : ∀ {c : Addr}, H2 c = some (.own b) → c ≠ a := fun {c} e => at_ne ea e exo_own
    refine (ok b o z).stay (fun c v e y => ?_) (fun c e => (del_ne (nOwn e)).trans e) (fun c l e => (del_ne (at_ne ea e exo_tup)).trans e)
    rcases e with e | e
    · rw [e] at y ⊢
      exact (Gb nb).trans y
    · exact (Gb (nOwn e)).trans y
  have J : Inv X pins σ (del H2 a) ⟨G, g2, d2, t2, os2⟩ := I.call' (ch := []) eo U okG bare (fun b z => absurd z (by simp))
  refine ⟨a, _, _, ⟨G, g2, d2, t2, os2⟩, _, .ref C, none, rfl, J, fun b o z => ?_, Ga, eat, ⟨rfl, rfl⟩, rfl, rfl, del_same, rfl, bare, R, q⟩
  by_cases e : b = a
  · rw [e, Ga] at z
    cases z
  · exact (Gb e).symm.trans z
/-- what is left of the error at a -/
def Gone (C : Addr) (H1 : Hp) (Q : XK) (a : Addr) (H2 : Hp) : Prop := (H2 a = some (exo a C none) ∧ Q (.ref C) none (del H2 a)) ∨
  ∃ (d : Addr) (fs : List (Str × V)), H2 a = some (exo a C (some d)) ∧ H2 d = some (exd d fs) ∧ H1 d = none ∧ Q (.ref C) (some d) (upd (del H2 a) d (.xd fs))
def tRz (C : Addr) (sp : Sp) (t : TA) : L2.St → Hp → XK → Prop := fun σ H Q => t σ H fun vs H1 => vs.length ≤ 1000 ∧ ∀ a, H1 a = none → sp (.ref a :: vs) (upd H1 a (exo a C none)) (fun v H2 => v = .non ∧ Gone C H1 Q a H2) E0
theorem run_rz {H : Hp} {s : Shared} {Q : XK} {us : List Value} {zs : List V} (M : EM X.prog X.w X.K X.mg X.base x C k fI fd ps sp) (hr : Room 2 X.A) (hus : us.length ≤ 1000) (I : Inv X pins σ H s) (r : Vals zs us)
    (hb : ∀ (s' : Shared) (a : Addr), X.K.In s'.heap → BindsTo s' fd ⟨.ref a :: us, []⟩ (ps.zip (.ref a :: us)))
    (h : ∀ a, H a = none → sp (.ref a :: zs) (upd H a (exo a C none)) (fun v H2 => v = .non ∧ Gone C H Q a H2) E0) : wpAny (model X.prog X.w) X.A (call (.ref C) us) (MkP X pins σ Q) X.xe s := by
  obtain ⟨nm, q, N, bs, sn, sub, ab, col, dd, k0, k1, k2, k3, k5, hC⟩ := M.c.cls
  obtain ⟨initId, bmB, FB⟩ := k.base
  have hR : Raises X (.ref C) := raises_own M.c.at_.hs M.c.ty
  obtain ⟨hp, g, dr, tk, os⟩ := s
  have sz : hp.objs.size ≤ hp.objs.size + 1 := Nat.le_succ _
  have hq := h (hp.objs.size + 1) (I.hok.fresh sz)
  have r2 : Vals (V.ref (hp.objs.size + 1) :: zs) (Value.ref (hp.objs.size + 1) :: us) := .cons rfl r
  have kk : ∀ b o, hp.get? b = some o → ((hp.push (PySem.W.kdv_tup us)).push (PySem.HandSPX.excO C hp.objs.size)).get? b = some o := fun b o e => Heap.get?_push_of_some _ (Heap.get?_push_of_some _ e)
  have I2 : Inv X pins σ (upd H (hp.objs.size + 1) (exo (hp.objs.size + 1) C none)) ⟨(hp.push (PySem.W.kdv_tup us)).push (PySem.HandSPX.excO C hp.objs.size), g, dr, tk, os⟩ :=
    I.laid (t' := tk) (a := hp.objs.size + 1) (o := exo (hp.objs.size + 1) C none) (h' := (hp.push (PySem.W.kdv_tup us)).push (PySem.HandSPX.excO C hp.objs.size)) kk sz (exo_ok (by heap_get))
  refine wpAny_call (call_E FB k.ok (.inl rfl) (I.kIn _ _ hC) (PySem.W.looks_findIn I.kIn M.init) (fun self => PySem.W.bind_fn I.kIn self M.ty) (by rw [sizeLine_eq]; omega)
    (codeAny_mono (M.ok.run _ X.stack _ _ ⟨Value.ref (hp.objs.size + 1) :: us, []⟩ (Value.ref (hp.objs.size + 1) :: us) _ _ E0 (hr.make C us []) (I2.env0.make C us []) (hb _ (hp.objs.size + 1) I2.kIn) r2 hq) fun r' s' hq' => ?_))
  cases r' with
  | error er => exact False.elim hq'
  | ok fl =>
    cases fl with
    | ret u =>
      obtain ⟨v, H2, os2, bare2, un2, hok2, rv, ev, gone⟩ := hq'
      subst ev
      obtain ⟨h2, g2, d2, t2, os'⟩ := s'
      refine ⟨rv, ?_⟩
      rcases gone with ⟨ea, q⟩ | ⟨d, fs, ea, ed, hd, q⟩
      · exact mk_endN hR I sz kk un2 hok2 os2 bare2 ea q
      · exact mk_end hR I sz kk un2 hok2 os2 bare2 ea ed hd q
    | next => exact False.elim hq'
    | brk => exact False.elim hq'
    | cont => exact False.elim hq'
variable {e : Expr} {es : List Expr} {ta : TA} {p pos : Pos}
/-- raise C(e, ..) -/
theorem pmk_E (M : EM X.prog X.w X.K X.mg X.base x C k fI fd ps sp) (hr : Room 2 X.A) (hb : Binds X.K fd ps []) (hg : Gl X x) (ha : PA X (e :: es) ta)
    (hdb : (x == ("__debug__" : Str)) = false := by decide) (he : starEach (e :: es) X.env = (false, eval e X.env) :: starEach es X.env := by rfl) (hpl : (backTo pos (starEach es X.env)).any (·.1) = false := by rfl) :
    PMk X (.Call (.Name x p) (e :: es) [] pos) (tRz C sp ta) := by
  intro pins s σ H Q I h
  refine wpAny_Call_Name_kw (ld_glob I hg M.g ?_ hdb)
  refine PySem.W.callWith_K (h₀ := X.base) I.ok.mod.kin M.c.kC (thn (ha.run pos pins s σ H _ I h) fun us s1 ⟨vs, H1, I1, r1, hz, q1⟩ => ⟨I1.kIn, ?_⟩) he hpl
  have hl : (V.ref s1.heap.objs.size :: vs).length = ps.length := M.ok.len _ _ _ _ (q1 (s1.heap.objs.size) (I1.hok.fresh (Nat.le_refl _)))
  refine run_rz (us := us) (zs := vs) M hr (by rw [← Paired.length r1]; exact hz) I1 r1 (fun s' a X' => ?_) q1
  have e := hb s' (.ref a :: us) X' (by rw [List.append_nil, ← hl, List.length_cons, List.length_cons, r1.length])
  rw [List.append_nil] at e
  exact e
/-- raise C() -/
theorem pmk_E0 (M : EM X.prog X.w X.K X.mg X.base x C k fI fd ps sp) (hr : Room 2 X.A) (hb : Binds X.K fd ps []) (hg : Gl X x) (hdb : (x == ("__debug__" : Str)) = false := by decide) : PMk X (.Call (.Name x p) [] [] pos) (tRz C sp tNil) := by
  intro pins s σ H Q I h
  obtain ⟨hz, q1⟩ := h
  refine wpAny_Call_Name_kw (ld_glob I hg M.g ?_ hdb)
  have hl : (V.ref s.heap.objs.size :: ([] : List V)).length = ps.length := M.ok.len _ _ _ _ (q1 (s.heap.objs.size) (I.hok.fresh (Nat.le_refl _)))
  refine PySem.W.callWith_K0 I.kIn M.c.kC (run_rz (us := []) (zs := []) M hr (Nat.zero_le _) I .nil (fun s' a X' => ?_) q1)
  have e := hb s' [.ref a] X' (by rw [List.append_nil, ← hl]; rfl)
  rw [List.append_nil] at e
  exact e
end
end K34
set_option Elab.async false
set_option linter.all false
set_option maxRecDepth 100000
set_option maxHeartbeats 4000000
/-! Schema.__init__ -/
namespace K02
open K34 PySem PySem.Spec PyProof.Rows L2
theorem cx_new {P : Program} {w : World} : CXNew (L2.CX P w) := by
  rintro outer s H h2 p rest E e s' kp hp hn ⟨a, B, H', cls, d, rfl, fl, ok, u, na, os, ag, q⟩
  have np : ∀ {b : Addr} {o : Obj}, s.heap.get? b = some o → b ≠ p := fun {b o} z => Nat.ne_of_lt (Nat.lt_of_lt_of_le (Heap.lt_size z) hp)
  have up : ∀ {b : Addr}, b ≠ p → upd H p (.tup rest) b = H b := fun z => upd_ne z
  have nn : ∀ {b : Addr} {o : HO}, H b = some o → b ≠ p := fun z => ne_of_none z hn
  exact ⟨a, B, H', cls, d, rfl, fl, ok,
    { keep := fun b o z n f => u.keep b o (kp b o z) ((up (np z)).trans n) f
      slot := fun b o z f => u.slot b o (kp b o z) f
      free := fun b o z n => u.free b o (kp b o z) ((up (np z)).trans n)
      there := fun b o z f => u.there b o (kp b o z) f
      tups := fun b l z => u.tups b l ((up (nn z)).trans z)
      frzs := fun b o v z => u.frzs b o v ((up (nn z)).trans z)
      tbls := fun b l z => u.tbls b l ((up (nn z)).trans z) }, na, os, ag, q⟩
def spNo : Sp := fun vs H Q _ => ∃ a : Addr, vs = [.ref a] ∧ Q .non H
theorem scESc : FnScope ["self"] ["self"] (defScope sESc) := ⟨rfl, rfl, rfl, by decide +kernel, rfl, by decide +kernel, by decide +kernel⟩
theorem scEUn : FnScope ["self", "value"] ["self", "value"] (defScope sEUn) := ⟨rfl, rfl, rfl, by decide +kernel, rfl, by decide +kernel, by decide +kernel⟩
theorem scSInit : FnScope ["self", "columns"] ["self", "columns"] (defScope sSInit) := ⟨rfl, rfl, rfl, by decide +kernel, rfl, by decide +kernel, by decide +kernel⟩
/-- a class of own objects -/
structure SchT (K : PySem.W.Frag) (mg : Str → Option Value) : Prop where
  g : mg "Schema" = some (.ref (He.ga K "Schema"))
  cl : Cls K (He.ga K "Schema")
  nC : NoAttr K (He.ga K "Schema") "_columns"
/-- what a raise without fields leaves -/
def Rz0 (C : Addr) (H : Hp) (E : XK) : Prop := ∀ H', Same H H' → E (.ref C) none H'
def spSInit (K : PySem.W.Frag) : Sp := fun vs H Q E => ∃ (a dx T : Addr) (xs : List V) (r : Bool), vs = [.ref a, .ref T] ∧ H a = some (.ins (He.ga K "Schema") dx []) ∧ SqT K H T xs ∧ xs.length ≤ 1000 ∧ MupAns K H xs r ∧
  (r = false → Rz0 (He.ga K "InvalidSchema") H E) ∧ (r = true → ∀ H', But a H H' → H' a = some (.ins (He.ga K "Schema") dx [("_columns", .ref T)]) → Q .non H')
section
variable {P : Program} {w : World} {K : PySem.W.Frag} {mg : Str → Option Value} {base : Heap} {f fM eS : Addr} {fd fdM fdES : FuncData}
theorem ok_eSc (F : FunD K "__init__" "InvalidSchema.__init__" (defArgs sESc) (defBody sESc) (defScope sESc) [] [] f fd) : FnOk P w K mg base CX0 1 f fd ["self"] spNo ∧ Binds K fd ["self"] [] := by
  refine ⟨F.ok scESc (fun vs H Q E h => ?_) (fun cdv A outer s H vs Q E hr h => ⟨_, PSs.nox (pss_one ps_pass), ?_⟩), F.bindsN fun _ _ _ _ _ _ us hl => match us, hl with | [_], _ => rfl⟩
  · obtain ⟨a, rfl, _⟩ := h
    rfl
  · obtain ⟨a, rfl, q⟩ := h
    exact q
theorem ok_eUn {C : Addr} (F : FunD K "__init__" "UnknownColumn.__init__" (defArgs sEUn) (defBody sEUn) (defScope sEUn) [] [] f fd) (T : EC K C .ke) (no : PySem.W.findIn K (.ref C) "value" = some none) : FnOk P w K mg base CX0 1 f fd ["self", "value"] (sp1 C "value") ∧ Binds K fd ["self", "value"] [] := by
  refine ⟨F.ok scEUn (fun vs H Q E h => ?_) (fun cdv A outer s H vs Q E hr h => ⟨_, PSs.nox (pss_one (ps_st (k := .ke) (pv 0) (pv 1))), ?_⟩), F.bindsN fun _ _ _ _ _ _ us hl => match us, hl with | [_, _], _ => rfl⟩
  · obtain ⟨a, v, rfl, _⟩ := h
    rfl
  · obtain ⟨a, v, rfl, ha, q⟩ := h
    exact ⟨_, rfl, _, rfl, a, C, rfl, T, no, .inl ⟨ha, fun dx n ne => q dx n ne⟩⟩
theorem ok_sinit (F : FunD K "__init__" "Schema.__init__" (defArgs sSInit) (defBody sSInit) (defScope sSInit) [] [] f fd) (T : SchT K mg) (GM : FnOk P w K mg base CX0 3 fM fdM ["columns"] (spMup K)) (gM : mg "_make_up_schema" = some (.ref fM)) (kM : PySem.W.keepIn K (.ref fM) = true) (bM : Binds K fdM ["columns"] [])
    (MS : EM P w K mg base "InvalidSchema" (He.ga K "InvalidSchema") .ve eS fdES ["self"] spNo) (bS : Binds K fdES ["self"] []) :
    FnR P w K mg base (L2.CX P w) 4 f (fun vs H Q E => ∃ v rest, vs = v :: rest ∧ rest.length ≤ 6 ∧ ∀ p, H p = none → spSInit K [v, .ref p] (upd H p (.tup rest)) Q E) := by
  obtain ⟨oc, od, dV, kV, doc, pm, an, cdv, ct, osl, rfl, lk, hcd, hD, hK⟩ := F.ex
  have hd : dV = .none := by
    rcases hD with ⟨_, e⟩ | ⟨e, _⟩
    · exact e
    · exact absurd rfl e
  subst hd
  refine FnR.imp (fn_ofV (CX := L2.CX P w) (pa := "self") (pv := "columns") (nmax := 6) (sp := spSInit K) (N := ["self", "columns"]) lk hcd scSInit (by decide) ?_ cx_new fun A outer s H vs Q E hr h => ?_) fun vs H Q E h => h
  · intro u rest hl
    match rest, hl with
    | [], _ => rfl
    | [_], _ => rfl
    | [_, _], _ => rfl
    | [_, _, _], _ => rfl
    | [_, _, _, _], _ => rfl
    | [_, _, _, _, _], _ => rfl
    | [_, _, _, _, _, _], _ => rfl
    | _ :: _ :: _ :: _ :: _ :: _ :: _ :: r, h => exact absurd h (by simp only [List.length_cons]; omega)
  · obtain ⟨a, dx, q, xs, r, rfl, ha, hs, hl, ans, e1, e2⟩ := h
    have nd := scSInit.nd
    refine ⟨_, (pss_cons (ps_if (pt_not (pt_val (pe_call GM hr rfl gM kM bM .nil pass0 (pa_cons (pv 1) pa_nil)))) (pss_one (ps_raise rfl (takes_of rfl rfl rfl rfl) (pmk_E0 MS (hr.mono (by decide)) bS rfl))) pss_nil) (pss_one (ps_fld (pv 0) (pv 1) rfl))), ?_⟩
    refine ⟨_, rfl, q, xs, r, rfl, hs, hl, ans, fun H1 s1 => ⟨_, rfl, ?_⟩⟩
    cases r with
    | false =>
      refine iteT ?_
      refine ⟨Nat.zero_le _, fun b nb => ⟨b, rfl, rfl, .inl ⟨upd_same, ?_⟩⟩⟩
      refine e1 rfl _ fun c o e => ?_
      have nc : c ≠ b := ne_of_none (s1 _ _ e) nb
      rw [del_ne nc, upd_ne nc]
      exact s1 _ _ e
    | true =>
      refine iteF ?_
      refine ⟨_, rfl, _, rfl, a, _, dx, [], rfl, s1 _ _ ha, T.cl, T.nC, (by decide), ?_⟩
      refine e2 rfl _ (fun b o nb e => ?_) ?_
      · rw [upd_ne nb]
        exact s1 _ _ e
      · rw [upd_same]
        rfl
end
end K02
set_option Elab.async false
set_option linter.all false
set_option maxRecDepth 100000
set_option maxHeartbeats 4000000
/-! the attributes and methods of Schema -/
namespace K02
open K34 PySem PySem.Spec PyProof.Rows L2
theorem walk_zipT {K : PySem.W.Frag} {a b : Addr} {xs ys : List V} {n : Nat} (hn : n = min xs.length ys.length) : Walk (RZ.ItzT K a b) n (fun H => SqT K H a xs ∧ SqT K H b ys) (YPair (fun i => xs[i]?) (fun i => ys[i]?)) := by
  subst hn
  refine ⟨fun i _ hi q => ?_, fun _ q => ⟨xs, ys, q.1, q.2, by omega⟩, fun i H v H' _ q y => ?_⟩
  · have h1 : i < xs.length := by omega
    have h2 : i < ys.length := by omega
    exact ⟨xs, ys, xs[i], ys[i], q.1, q.2, by simp [h1], by simp [h2]⟩
  · obtain ⟨T, x, z, h1, h2, h3, h4, h5⟩ := y
    exact ⟨T, x, z, h1, h2, h3, h4 xs q.1, h5 ys q.2⟩
/-- a schema at a: its columns' tuple at T -/
def SchAt (K : PySem.W.Frag) (H : Hp) (a T : Addr) (cs : List Addr) (rs : List Rw) : Prop := (∃ dx, H a = some (.ins (He.ga K "Schema") dx [("_columns", .ref T)])) ∧ SqT K H T (cs.map V.ref) ∧ CsAt K H cs rs ∧ rs.length ≤ 5
theorem SchAt.same {K : PySem.W.Frag} {H H' : Hp} {a T : Addr} {cs : List Addr} {rs : List Rw} (h : SchAt K H a T cs rs) (s : Same H H') : SchAt K H' a T cs rs := by
  obtain ⟨⟨dx, e⟩, h2, h3, h4⟩ := h
  exact ⟨⟨dx, s _ _ e⟩, sqT_same h2 s, h3.same s, h4⟩
structure SchI (K : PySem.W.Frag) (mg : Str → Option Value) : Prop extends SchT K mg where
  C : ColI K mg
  cC : (PySem.W.clsIn K (He.ga K "Schema")).isSome = true
  tC : PySem.W.typeIn K (.ref (He.ga K "Schema")) = some (.type "type")
  ha : PySem.W.findIn K (.ref (He.ga K "Schema")) "__class__" = some (some (.builtin "object.__class__"))
  hm : PySem.W.mroIn K (He.ga K "Schema") (.type "object") = some true
  ne : PySem.W.mroIn K (He.ga K "Column") (.ref (He.ga K "Schema")) = some false
  tuple : mg "tuple" = none
  zip : mg "zip" = none
theorem scSCols : FnScope ["self"] ["self"] (defScope sSCols) := ⟨rfl, rfl, rfl, by decide +kernel, rfl, by decide +kernel, by decide +kernel⟩
theorem scSNames : FnScope ["self", "column"] ["self"] (defScope sSNames) := ⟨rfl, rfl, rfl, by decide +kernel, rfl, by decide +kernel, by decide +kernel⟩
theorem scSLen : FnScope ["self"] ["self"] (defScope sSLen) := ⟨rfl, rfl, rfl, by decide +kernel, rfl, by decide +kernel, by decide +kernel⟩
def spSCols (K : PySem.W.Frag) : Sp := fun vs H Q _ => ∃ (a T : Addr) (cs : List Addr) (rs : List Rw), vs = [.ref a] ∧ SchAt K H a T cs rs ∧ Q (.ref T) H
def spSNames (K : PySem.W.Frag) : Sp := fun vs H Q _ => ∃ (a T : Addr) (cs : List Addr) (rs : List Rw), vs = [.ref a] ∧ SchAt K H a T cs rs ∧ ∀ (q : Addr) (H' : Hp), H' q = some (.tup (rs.map fun r => V.str r.n)) → Same H H' → Q (.ref q) H'
def spSLen (K : PySem.W.Frag) : Sp := fun vs H Q _ => ∃ (a T : Addr) (cs : List Addr) (rs : List Rw), vs = [.ref a] ∧ SchAt K H a T cs rs ∧ Q (.int rs.length) H
section
variable {P : Program} {w : World} {K : PySem.W.Frag} {mg : Str → Option Value} {base : Heap} {f pN aN : Addr} {fd fdN : FuncData}
theorem ok_scols (F : FunD K "columns" "Schema.columns" (defArgs sSCols) (defBody sSCols) (defScope sSCols) [] [] f fd) (T : SchI K mg) : FnOk P w K mg base CX0 1 f fd ["self"] (spSCols K) := by
  refine F.ok scSCols (fun vs H Q E h => ?_) (fun cdv A outer s H vs Q E hr h => ⟨_, PSs.nox (pss_one (ps_ret (pe_fld (pv 0) rfl))), ?_⟩)
  · obtain ⟨a, q, cs, rs, rfl, _⟩ := h
    rfl
  · obtain ⟨a, q, cs, rs, rfl, ⟨⟨dx, ha⟩, _⟩, k⟩ := h
    exact ⟨_, rfl, a, _, dx, _, _, rfl, ha, T.cl, T.nC, rfl, k⟩
theorem ok_slen (F : FunD K "__len__" "Schema.__len__" (defArgs sSLen) (defBody sSLen) (defScope sSLen) [] [] f fd) (T : SchI K mg) : FnOk P w K mg base CX0 1 f fd ["self"] (spSLen K) := by
  refine F.ok scSLen (fun vs H Q E h => ?_) (fun cdv A outer s H vs Q E hr h => ⟨_, PSs.nox (pss_one (ps_ret (pe_callB call_len_seq (by rfl) T.C.len PySem.boot_len (pa_cons (pe_fld (pv 0) rfl) pa_nil)))), ?_⟩)
  · obtain ⟨a, q, cs, rs, rfl, _⟩ := h
    rfl
  · obtain ⟨a, q, cs, rs, rfl, ⟨⟨dx, ha⟩, hs, hc, _⟩, k⟩ := h
    refine ⟨_, rfl, a, _, dx, _, _, rfl, ha, T.cl, T.nC, rfl, q, _, rfl, .inr hs, ?_⟩
    rw [List.length_map, hc.1]
    exact k
theorem ok_snames (F : FunD K "names" "Schema.names" (defArgs sSNames) (defBody sSNames) (defScope sSNames) [] [] f fd) (T : SchI K mg) (PN : PrT P w K mg base (He.ga K "Column") "name" (spGet K fun n _ _ => .str n) pN aN fdN) : FnOk P w K mg base CX0 3 f fd ["self"] (spSNames K) := by
  refine F.ok scSNames (fun vs H Q E h => ?_) (fun cdv A outer s H vs Q E hr h => ?_)
  · obtain ⟨a, q, cs, rs, rfl, _⟩ := h
    rfl
  · obtain ⟨a, q, cs, rs, rfl, ⟨⟨dx, ha⟩, hs, hc, l5⟩, k⟩ := h
    have nd := scSNames.nd
    have C : Cls K (He.ga K "Column") := T.C.cl
    refine ⟨_, PSs.nox (pss_one (ps_ret (pe_tupleOf rfl T.tuple (pe_lc (own := [("column", 1)]) (g := gName 1) (tt := tYes) rfl nd (pi_tup (pe_fld (pv 0) rfl)) (blkOk_by (N := ["self", "column"]) (sc := defScope sSNames) (by decide +kernel)) (fun _ _ _ _ _ => pg_name (i := 1) nd rfl (Or.inl rfl)) (fun _ _ _ _ _ => pts_nil)
          (fun _ _ _ _ _ => pe_prop (pv 1) C PN.pr PN.ok hr PN.b .nil pass0 (by rfl)))))), ?_⟩
    refine ⟨_, rfl, a, _, dx, _, _, rfl, ha, T.cl, T.nC, rfl, q, rfl, ⟨_, hs⟩, fun D hD => ?_⟩
    have hD : H D = none := hD
    have lc : cs.length = rs.length := hc.1
    refine lc_it (walk_tup (K := K) (a := q) (xs := cs.map V.ref)) (fun i H6 => H6 D = some (.lst ((rs.take i).map fun r => V.str r.n)) ∧ Same H H6) ⟨upd_same, same_new (Same.refl H) hD⟩ (fun i H3 _ y => sqT_same hs y.2) ?_ ?_
    · rintro i x H6 H7 hi ⟨y1, y2⟩ ⟨rfl, hx⟩
      rw [List.getElem?_map] at hx
      obtain ⟨c, hcx, rfl⟩ := Option.map_eq_some_iff.mp hx
      have lt : i < cs.length := (List.getElem?_eq_some_iff.mp hcx).1
      have lr : i < rs.length := by omega
      have col := (hc.2 i c rs[i] hcx (List.getElem?_eq_getElem lr)).same y2
      obtain ⟨dc, hcol⟩ := id col
      refine ⟨rfl, ?_⟩
      unfold tYes
      dsimp only
      refine iteT ?_
      refine ⟨_, rfl, c, dc, _, rfl, hcol, c, _, _, _, rfl, col, _, y1, ?_, ?_, fun b o e => ?_⟩
      · rw [List.length_map, List.length_take, sizeLine_eq]
        omega
      · rw [upd_same, List.take_add_one, List.getElem?_eq_getElem lr, List.map_append]
        rfl
      · rw [upd_ne (ne_of_none e hD)]
        exact y2 b o e
    · rintro H6 ⟨y1, y2⟩
      rw [List.length_map, lc, List.take_length] at y1
      exact .inl ⟨D, _, rfl, SqL.of y1, fun z hz => k z _ upd_same (same_new y2 hz)⟩
end
end K02
set_option Elab.async false
set_option linter.all false
set_option maxRecDepth 100000
set_option maxHeartbeats 4000000
/-! Schema.is_row, Schema.__eq__ -/
namespace K02
open K34 PySem PySem.Spec PyProof.Rows L2
/-- what may be asked for: a tuple of data, or no tuple -/
inductive Thg (K : PySem.W.Frag) (H : Hp) : V → Option (List PyData) → Prop where
  | tup {q : Addr} {xs : List V} {ds : List PyData} (h : SqT K H q xs) (l : xs.length = ds.length) (a : ∀ (i : Nat) (x : V) (d : PyData), xs[i]? = some x → ds[i]? = some d → Th K H x d ∧ sOk d = true) : Thg K H (.ref q) (some ds)
  | non {v : V} {t : Value} (ty : TyX K H v t) (k : PySem.W.kitOne K t (.type "tuple") = some false) : Thg K H v none
def rowOk (rs : List Rw) (o : Option (List PyData)) : Bool := match o with
  | none => false
  | some ds => decide (ds.length = rs.length) && (rs.zip ds).all fun p => valOk p.1.k p.1.b p.2
theorem scSRow : FnScope ["self", "value", "column", "entry"] ["self", "value"] (defScope sSRow) := ⟨rfl, rfl, rfl, by decide +kernel, rfl, by decide +kernel, by decide +kernel⟩
theorem scSEq : FnScope ["self", "other"] ["self", "other"] (defScope sSEq) := ⟨rfl, rfl, rfl, by decide +kernel, rfl, by decide +kernel, by decide +kernel⟩
def spSRow (K : PySem.W.Frag) : Sp := fun vs H Q _ => ∃ (a T : Addr) (cs : List Addr) (rs : List Rw) (v : V) (o : Option (List PyData)), vs = [.ref a, v] ∧ SchAt K H a T cs rs ∧ Thg K H v o ∧ ∀ H', Same H H' → Q (.bl (rowOk rs o)) H'
theorem kit_tup {K : PySem.W.Frag} : PySem.W.kitOne K (.type "tuple") (.type "tuple") = some true := by
  unfold PySem.W.kitOne
  rw [if_pos (beq_self_eq_true _)]
theorem sqT_ty {K : PySem.W.Frag} {H : Hp} {a : Addr} {xs : List V} (h : SqT K H a xs) : TyX K H (.ref a) (.type "tuple") := by
  rcases h with (h | ⟨o, h⟩) | ⟨o, its, n, e, c, _⟩
  · exact .base (.tup h)
  · exact .fTuple h
  · exact .kTuple e c
section
variable {P : Program} {w : World} {K : PySem.W.Frag} {mg : Str → Option Value} {base : Heap} {f fV : Addr} {fd fdV : FuncData}
theorem ok_srow (F : FunD K "is_row" "Schema.is_row" (defArgs sSRow) (defBody sSRow) (defScope sSRow) [] [] f fd) (T : SchI K mg) (GV : FnOk P w K mg base CX0 2 fV fdV ["self", "value"] (spIsVal K)) (bV : Binds K fdV ["self", "value"] []) (MV : Meth K (He.ga K "Column") "is_value" fV) :
    FnOk P w K mg base CX0 3 f fd ["self", "value"] (spSRow K) := by
  refine F.ok scSRow (fun vs H Q E h => ?_) (fun cdv A outer s H vs Q E hr h => ?_)
  · obtain ⟨a, q, cs, rs, v, o, rfl, _⟩ := h
    rfl
  · obtain ⟨a, q, cs, rs, v, o, rfl, ⟨⟨dx, ha⟩, hs, hc, l5⟩, hv, k⟩ := h
    have nd := scSRow.nd
    have C : Cls K (He.ga K "Column") := T.C.cl
    have lc : cs.length = rs.length := hc.1
    refine ⟨_, PSs.nox (pss_cons (ps_if (PW.pt (pw_or (pt_not (pt_val (pe_callB call_isi (by rfl) T.C.isi (by decide +kernel) (pa_cons (pv 1) (pa_cons (pe_bltn (v := .ty "tuple") (by rfl) T.tuple (by decide +kernel) rfl) pa_nil))))) (pw_or1 (pt_cmpR op_ne (pe_callB call_len_seq (by rfl) T.C.len PySem.boot_len (pa_cons (pv 1) pa_nil)) (pe_callB call_len_seq (by rfl) T.C.len PySem.boot_len (pa_cons (pe_fld (pv 0) rfl) pa_nil)) (nomark _))))) (pss_one (ps_ret pe_bl)) pss_nil)
      (pss_one (ps_ret (pe_callB (cr_all rfl) (by rfl) T.C.all (by decide +kernel) (pa_cons (pe_lc (own := [("column", 2), ("entry", 3)]) (g := gTup K 2 (gCons (gName 2) (gCons (gName 3) gNil))) (tt := tYes) rfl nd (RZ.pi_zipA (by rfl) T.zip (pa_cons (pe_fld (pv 0) rfl) (pa_cons (pv 1) pa_nil))) (blkOk_by (N := ["self", "value", "column", "entry"]) (sc := defScope sSRow) (by decide +kernel))
          (fun _ _ _ _ _ => pg_tup rfl (pgs_cons (pg_name (i := 2) nd rfl (Or.inl rfl)) (pgs_cons (pg_name (i := 3) nd rfl (Or.inl rfl)) pgs_nil))) (fun _ _ _ _ _ => pts_nil)
          (fun _ _ _ _ _ => pe_meth (pv 2) C MV GV hr bV .nil pass0 (pa_cons (pv 3) pa_nil))) pa_nil))))), ?_⟩
    cases hv with
    | non ty hk =>
      refine ⟨_, rfl, v, .ty "tuple", _, _, false, rfl, .ty _, ty, hk, _, rfl, ?_⟩
      refine iteT ?_
      refine iteT ?_
      exact k H (Same.refl H)
    | @tup qv xs ds hx lx hall =>
      refine ⟨_, rfl, _, .ty "tuple", _, _, true, rfl, .ty _, sqT_ty hx, kit_tup, _, rfl, ?_⟩
      refine iteF ?_
      refine ⟨_, rfl, qv, xs, rfl, .inr hx, _, rfl, a, _, dx, _, _, rfl, ha, T.cl, T.nC, rfl, q, _, rfl, .inr hs, rfl, _, rfl, ?_⟩
      by_cases el : ds.length = rs.length
      · refine itF ?_ ?_
        · rw [List.length_map, lc, lx, el, decide_eq_true rfl]
          rfl
        refine ⟨_, rfl, a, _, dx, _, _, rfl, ha, T.cl, T.nC, rfl, _, rfl, q, qv, cs.map V.ref, xs, rfl, .inr ⟨hs, hx, fun D hD => ?_⟩⟩
        have hD : H D = none := hD
        have hn : rs.length = min (cs.map V.ref).length xs.length := by
          rw [List.length_map]
          omega
        refine lc_it (walk_zipT (K := K) (a := q) (b := qv) hn) (fun i H6 => H6 D = some (.lst ((((rs.zip ds).take i).map fun p => valOk p.1.k p.1.b p.2).map V.bl)) ∧ Same H H6) ⟨upd_same, same_new (Same.refl H) hD⟩ (fun i H3 _ y => ⟨sqT_same hs y.2, sqT_same hx y.2⟩) ?_ ?_
        · rintro i z H6 H7 hi ⟨y1, y2⟩ ⟨t, x1, x2, rfl, nt, rfl, e1, e2⟩
          have e1 : (cs.map V.ref)[i]? = some x1 := e1
          have e2 : xs[i]? = some x2 := e2
          rw [List.getElem?_map] at e1
          obtain ⟨c, hcx, rfl⟩ := Option.map_eq_some_iff.mp e1
          have ld : i < ds.length := by omega
          have col := ((hc.2 i c rs[i] hcx (List.getElem?_eq_getElem hi)).same y2)
          obtain ⟨th, sk⟩ := hall i x2 ds[i] e2 (List.getElem?_eq_getElem ld)
          have s7 := same_new (o := .tup [.ref c, x2]) y2 nt
          have col7 := col.same (same_new (o := .tup [.ref c, x2]) (Same.refl H6) nt)
          obtain ⟨dc, hcol⟩ := id col7
          refine ⟨t, _, rfl, SqT.of upd_same, rfl, _, _, rfl, _, _, rfl, rfl, rfl, ?_⟩
          unfold tYes
          dsimp only
          refine iteT ?_
          refine ⟨_, rfl, c, dc, _, rfl, hcol, rfl, _, rfl, c, _, _, _, x2, ds[i], rfl, col7, th.same s7, sk, fun H8 s8 => ⟨_, s8 _ _ (by rw [upd_ne (ne_of_none y1 nt)]; exact y1), ?_, ?_, fun b o e => ?_⟩⟩
          · rw [List.length_map, List.length_map, List.length_take, sizeLine_eq]
            omega
          · have lz : i < (rs.zip ds).length := by rw [List.length_zip]; omega
            rw [upd_same, List.take_add_one, List.getElem?_eq_getElem lz, List.map_append, List.map_append, List.getElem_zip]
            rfl
          · rw [upd_ne (ne_of_none e hD)]
            exact s8 _ _ (s7 _ _ e)
        · rintro H6 ⟨y1, y2⟩
          have tk : (rs.zip ds).take rs.length = rs.zip ds := List.take_of_length_le (by rw [List.length_zip]; omega)
          rw [tk] at y1
          refine ⟨D, _, rfl, SqL.of y1, ?_⟩
          have kk := k H6 y2
          have rk : rowOk rs (some ds) = (rs.zip ds).all fun p => valOk p.1.k p.1.b p.2 := by
            show (decide (ds.length = rs.length) && _) = _
            rw [decide_eq_true el, Bool.true_and]
          rw [rk] at kk
          rw [List.all_map]
          exact kk
      · refine itT ?_ ?_
        · rw [List.length_map, lc, lx]
          have : decide (V.int (ds.length : Nat) = V.int (rs.length : Nat)) = false := decide_eq_false fun z => el (by have := V.int.inj z; omega)
          rw [this]
          rfl
        have kk := k H (Same.refl H)
        have rk : rowOk rs (some ds) = false := by
          show (decide (ds.length = rs.length) && _) = _
          rw [decide_eq_false el, Bool.false_and]
        rw [rk] at kk
        exact kk
/-- what == says of a schema and another thing -/
def spSEq (K : PySem.W.Frag) : Sp := fun vs H Q _ => ∃ (a T : Addr) (cs : List Addr) (rs : List Rw) (v : V), vs = [.ref a, v] ∧ SchAt K H a T cs rs ∧
  ((∃ t, TyX K H v t ∧ PySem.W.kitOne K t (.ref (He.ga K "Schema")) = some false ∧ Q (.bl false) H) ∨ ∃ (a2 T2 : Addr) (cs2 : List Addr) (rs2 : List Rw), v = .ref a2 ∧ SchAt K H a2 T2 cs2 rs2 ∧ Q (.bl (decide (rs = rs2))) H)
theorem SchI.ty (T : SchI K mg) {H : Hp} {a q : Addr} {cs : List Addr} {rs : List Rw} (c : SchAt K H a q cs rs) : TyX K H (.ref a) (.ref (He.ga K "Schema")) := by
  obtain ⟨⟨dx, h⟩, _⟩ := c
  exact .base (.ins h T.cl T.ha T.C.hn T.C.ht T.hm)
theorem SchI.self (T : SchI K mg) : PySem.W.kitOne K (.ref (He.ga K "Schema")) (.ref (He.ga K "Schema")) = some true := by
  unfold PySem.W.kitOne
  rw [if_pos (beq_self_eq_true _)]
theorem SchI.other (T : SchI K mg) (d : PyData) : PySem.W.kitOne K (.type (tyName d)) (.ref (He.ga K "Schema")) = some false := by
  unfold PySem.W.kitOne
  rw [if_neg (by intro z; exact nomatch (beq_iff_eq.mp z))]
  show (if ((PySem.W.clsIn K (He.ga K "Schema")).isSome && PySem.W.typeIn K (.ref (He.ga K "Schema")) == some (.type "type")) = true then PySem.W.subIn K (.type (tyName d)) (.ref (He.ga K "Schema")) else none) = some false
  rw [if_pos (by rw [T.cC, T.tC]; rfl)]
  exact sub_ref d
theorem ok_seq {fE : Addr} {fdE : FuncData} (F : FunD K "__eq__" "Schema.__eq__" (defArgs sSEq) (defBody sSEq) (defScope sSEq) [] [] f fd) (T : SchI K mg) (CE : ColE P w K mg base fE fdE) : FnOk P w K mg base CX0 3 f fd ["self", "other"] (spSEq K) := by
  refine F.ok scSEq (fun vs H Q E h => ?_) (fun cdv A outer s H vs Q E hr h => ?_)
  · obtain ⟨a, q, cs, rs, v, rfl, _⟩ := h
    rfl
  · obtain ⟨a, q, cs, rs, v, rfl, sa, h⟩ := h
    have nd := scSEq.nd
    refine ⟨_, PSs.nox (pss_one (ps_ret (pe_and (pe_callB call_isi (by rfl) T.C.isi (by decide +kernel) (pa_cons (pv 1) (pa_cons (pe_glob (v := .ref (He.ga K "Schema")) rfl T.g rfl) pa_nil))) (pe_one (pe_cmpR (op_eqT CE hr) (pe_fld (pv 0) rfl) (pe_fld (pv 1) rfl) (nomark _)))))), ?_⟩
    rcases h with ⟨t, ty, hk, k⟩ | ⟨a2, q2, cs2, rs2, rfl, sb, k⟩
    · refine ⟨_, rfl, v, .ref (He.ga K "Schema"), t, _, false, rfl, .own _, ty, hk, _, rfl, ?_⟩
      refine iteF ?_
      exact k
    · refine ⟨_, rfl, _, .ref (He.ga K "Schema"), .ref (He.ga K "Schema"), _, true, rfl, .own _, T.ty sb, T.self, _, rfl, ?_⟩
      refine iteT ?_
      obtain ⟨⟨dx, ha⟩, h1, h2, _⟩ := sa
      obtain ⟨⟨dy, hb⟩, h3, h4, _⟩ := sb
      exact ⟨_, rfl, a, _, dx, _, _, rfl, ha, T.cl, T.nC, rfl, _, rfl, a2, _, dy, _, _, rfl, hb, T.cl, T.nC, rfl, q, q2, cs, cs2, rs, rs2, rfl, rfl, h1, h3, h2, h4, k⟩
end
end K02
set_option Elab.async false
set_option linter.all false
set_option maxRecDepth 100000
set_option maxHeartbeats 4000000
/-! Schema.__getitem__ -/
namespace K02
open K34 PySem PySem.Spec PyProof.Rows L2
def isStr (n : Str) (d : PyData) : Bool := match d with
  | .str z => decide (n = z) | _ => false
/-- a text == a datum -/
def rEqSA (K : PySem.W.Frag) : R2 := fun x y H Q => ∃ (n : Str) (d : PyData), x = .str n ∧ PyData.strOk n = true ∧ Th K H y d ∧ shp d = true ∧ Q (.bl (isStr n d)) H
theorem eqv_str (n : Str) (d : PyData) : PyData.eqv (.str n) d = isStr n d := by
  cases d with
  | str z =>
    show PyData.eqv (.str n) (.str z) = decide (n = z)
    rw [Bool.eq_iff_iff]
    simp [PyData.eqv]
  | _ => first | rfl | (simp [PyData.eqv, isStr])
theorem op_eqSA {X : Cx} (hu : X.A.units + 64 < cLine) : OpR X (compareOp .Eq) (rEqSA X.K) := by
  intro pins s σ H x y v u Q I rx ry h
  obtain ⟨n, d, rfl, so, t, sh, q⟩ := h
  have dic : ∀ {a : Addr} {kvs : List (Key × V)}, H a = some (.dK kvs) → u = .ref a → isStr n d = false → wpAny (model X.prog X.w) X.A (compareOp .Eq v u) (EP X pins σ Q) X.xe s := fun {a kvs} h e e2 => by
    subst e
    obtain ⟨k, rfl⟩ := (show ∃ k, v = Value.str n k from rx)
    obtain ⟨_, hn, vs, rel, o, es, ep, ho, hx, hd, he⟩ := dk_of I.hok h
    rw [e2] at q
    show wpAny (model X.prog X.w) X.A (richCompare .Eq (.str n k) (.ref a)) (EP X pins σ Q) X.xe s
    exact K02S.rc_str_dict n k ho hx.1 hd (by omega) X.prog X.w X.xe _ ⟨.bl false, H, I, rfl, q⟩
  cases t with
  | dp hp nd =>
    have sd : SeqAt.shaped d = true := by
      unfold shp at sh
      rw [nd, Bool.false_or] at sh
      exact sh
    have sn : SeqAt.shaped (.str n) = true := by
      show (PyData.strOk n && decide ((PyData.str n).depth ≤ 64)) = true
      rw [so, decide_eq_true (by rw [PyData.depth]; all_goals decide)]
      rfl
    refine op_eqD hu pins s σ H (.str n) y v u Q I rx ry ⟨.str n, d, .str n, hp, sn, sd, ?_⟩
    rw [eqv_str]
    exact q
  | @d0 a h => exact dic h ry rfl
  | @d1 a h => exact dic h ry rfl
theorem scSItem : FnScope ["self", "at", "column"] ["self", "at"] (defScope sSItem) := ⟨rfl, rfl, rfl, by decide +kernel, rfl, by decide +kernel, by decide +kernel⟩
def spSItem (K : PySem.W.Frag) : Sp := fun vs H Q E => ∃ (a T : Addr) (cs : List Addr) (rs : List Rw) (v : V) (d : PyData), vs = [.ref a, v] ∧ SchAt K H a T cs rs ∧ (∀ r ∈ rs, PyData.strOk r.n = true) ∧ Th K H v d ∧ shp d = true ∧
  (∀ (i : Nat) (c : Addr) (r : Rw), cs[i]? = some c → rs[i]? = some r → isStr r.n d = true → (∀ (j : Nat) (r' : Rw), j < i → rs[j]? = some r' → isStr r'.n d = false) → Q (.ref c) H) ∧ ((∀ r ∈ rs, isStr r.n d = false) → Rz (He.ga K "UnknownColumn") v H E)
section
variable {P : Program} {w : World} {K : PySem.W.Frag} {mg : Str → Option Value} {base : Heap} {f pN aN eU : Addr} {fd fdN fdEU : FuncData}
theorem ok_sitem (F : FunD K "__getitem__" "Schema.__getitem__" (defArgs sSItem) (defBody sSItem) (defScope sSItem) [] [] f fd) (T : SchI K mg) (PN : PrT P w K mg base (He.ga K "Column") "name" (spGet K fun n _ _ => .str n) pN aN fdN)
    (MU : EM P w K mg base "UnknownColumn" (He.ga K "UnknownColumn") .ke eU fdEU ["self", "value"] (sp1 (He.ga K "UnknownColumn") "value")) (bU : Binds K fdEU ["self", "value"] []) : FnOk P w K mg base (L2.CX P w) 3 f fd ["self", "at"] (spSItem K) := by
  refine F.ok scSItem (fun vs H Q E h => ?_) (fun cdv A outer s H vs Q E hr h => ?_)
  · obtain ⟨a, q, cs, rs, v, d, rfl, _⟩ := h
    rfl
  · obtain ⟨a, q, cs, rs, v, d, rfl, ⟨⟨dx, ha⟩, hs, hc, l5⟩, so, th, sh, k1, k2⟩ := h
    have nd := scSItem.nd
    have hu64 := hu64_of hr
    have C : Cls K (He.ga K "Column") := T.C.cl
    have lc : cs.length = rs.length := hc.1
    refine ⟨_, (pss_cons (ps_for (passes_of rfl) rfl (pi_tup (pe_fld (pv 0) rfl)) (pg_name (i := 2) nd rfl (Or.inl rfl)) (pss_one (ps_if (pt_cmpR (op_eqSA hu64) (pe_prop (pv 2) C PN.pr PN.ok hr PN.b .nil pass0 (by rfl)) (pv 1) (nomark _)) (pss_one (ps_ret (pv 2))) pss_nil)))
      (pss_one (ps_raise rfl (takes_of rfl rfl rfl rfl) (pmk_E MU hr bU rfl (pa_cons (pv 1) pa_nil))))), ?_⟩
    refine ⟨_, rfl, a, _, dx, _, _, rfl, ha, T.cl, T.nC, rfl, q, rfl, ⟨_, hs⟩, ?_⟩
    refine for_it (walk_tup (K := K) (a := q) (xs := cs.map V.ref)) (fun i σ H' => H' = H ∧ (∃ v2 : Option V, σ = [some (.ref a), some v, v2]) ∧ ∀ (j : Nat) (r' : Rw), j < i → rs[j]? = some r' → isStr r'.n d = false)
      ⟨rfl, ⟨none, rfl⟩, fun j r' hj => absurd hj (Nat.not_lt_zero _)⟩ (fun i σ H' _ y => by rw [y.1]; exact hs) ?_ ?_
    · rintro i x σ H1 H2 hi ⟨rfl, ⟨v2, rfl⟩, y3⟩ ⟨rfl, hx⟩
      rw [List.getElem?_map] at hx
      obtain ⟨c, hcx, rfl⟩ := Option.map_eq_some_iff.mp hx
      have lt : i < cs.length := (List.getElem?_eq_some_iff.mp hcx).1
      have lr : i < rs.length := by omega
      have col := hc.2 i c rs[i] hcx (List.getElem?_eq_getElem lr)
      obtain ⟨dc, hcol⟩ := id col
      refine ⟨_, rfl, c, dc, _, rfl, hcol, c, _, _, _, rfl, col, _, rfl, rs[i].n, d, rfl, so _ (List.getElem_mem lr), th, sh, _, rfl, ?_⟩
      cases e : isStr rs[i].n d with
      | true =>
        refine iteT ?_
        exact ⟨_, rfl, k1 i c _ hcx (List.getElem?_eq_getElem lr) e y3⟩
      | false =>
        refine iteF ?_
        refine ⟨rfl, ⟨_, rfl⟩, fun j r' hj hr' => ?_⟩
        by_cases z : j < i
        · exact y3 j r' z hr'
        · obtain rfl : j = i := by omega
          rw [List.getElem?_eq_getElem lr] at hr'
          cases hr'
          exact e
    · rintro σ H1 ⟨rfl, ⟨v2, rfl⟩, y3⟩
      rw [List.length_map, lc] at y3
      have no : ∀ r ∈ rs, isStr r.n d = false := fun r hr => by
        obtain ⟨j, hj, e⟩ := List.mem_iff_getElem.mp hr
        exact y3 j r hj (by rw [List.getElem?_eq_getElem hj, e])
      have z := k2 no
      refine ⟨_, rfl, (by show 1 ≤ 1000; decide), fun b nb => ⟨b, v, rfl, upd_same, fun e he ne => ⟨rfl, .inr ⟨e, [("value", v)], upd_same, ?_, ?_, ?_⟩⟩⟩⟩
      · rw [upd_ne ne, upd_same]
      · rw [upd_ne ne] at he
        exact he
      · have he0 : H1 e = none := by
          rw [upd_ne ne] at he
          exact he
        refine z e _ he0 (fun c o y => ?_) upd_same
        have n1 : c ≠ b := ne_of_none y nb
        have n2 : c ≠ e := ne_of_none y he0
        rw [upd_ne n2, del_ne n1, upd_ne n1, upd_ne n2, upd_ne n1]
        exact y
end
end K02
set_option Elab.async false
set_option linter.all false
set_option maxRecDepth 100000
set_option maxHeartbeats 4000000
/-! len(o), o[i], o == x, o != x by the text's own methods -/
namespace K02
open K34 PySem PySem.Spec PyProof.Rows L2
section
variable {X : Cx} {CX : CXT} {C f : Addr} {fd : FuncData} {k : Nat} {ps : List Str} {sp : Sp} {pins : List (Addr × Obj)} {σ : L2.St} {H : Hp} {s : Shared}
theorem env_in1 {A : Around} (I : Inv X pins σ H s) (hf : A.frames = X.A.frames) : Env0 X.prog X.w X.K X.mg X.base A X.stack s H := by
  have e := I.env0
  exact ⟨by rw [hf]; exact e.frames, e.mod, e.bs, e.bsz, e.funs, e.frf, e.hok, e.bare⟩
/-- the method at f, called somewhere below -/
theorem own_call {E : XK} (F : FnOk X.prog X.w X.K X.mg X.base CX k f fd ps sp) (hb : Binds X.K fd ps []) (hx : Passes CX X E) {A : Around} (hr : Room k A) (hf : A.frames = X.A.frames) (I : Inv X pins σ H s) {us : List Value} {vs : List V} (r : Vals vs us) {Q : VK} (h : sp vs H Q E)
    {R : Value → Shared → Prop} (q : ∀ z u H' s', Inv X pins σ H' s' → RelV z u → Q z H' → R u s') : wpAny (model X.prog X.w) A (call (.ref f) us) R X.xe s := by
  have hl := F.len _ _ _ _ h
  refine wpAny_call (codeAny_mono (F.run A X.stack s H ⟨us, []⟩ us vs Q E hr (env_in1 I hf) (by
    have z := hb s us I.kIn (by rw [List.append_nil, ← r.length]; exact hl)
    rw [List.append_nil] at z
    exact z) r h) fun r' s' hq => ?_)
  cases r' with
  | error e => exact hx pins σ H s e s' I hq
  | ok fl =>
    cases fl with
    | ret u =>
      obtain ⟨z, H', I', rz, ez⟩ := I.after hq
      exact q z u H' s' I' rz ez
    | next => exact False.elim hq
    | brk => exact False.elim hq
    | cont => exact False.elim hq
theorem call_lenO (F : FnOk X.prog X.w X.K X.mg X.base CX0 k f fd ps sp) (hb : Binds X.K fd ps []) (hr : Room (k + 1) X.A) (hs : PySem.W.findIn X.K (.ref C) "__len__" = some (some (.ref f))) (hf : PySem.W.isFn X.K (.ref f) = true) :
    CallR X (.builtin "len") (fun xs H Q => ∃ (a dx : Addr) (fs : List (Str × V)), xs = [.ref a] ∧ H a = some (.ins C dx fs) ∧ sp [.ref a] H (fun z H' => ∃ n : Nat, z = .int n ∧ n < 1000 ∧ Q (.int n) H') E0) := by
  intro pins s σ H xs us Q I r h
  obtain ⟨a, dx, fs, rfl, ha, h⟩ := h
  obtain ⟨u, rfl, rx⟩ := vals1 r
  cases rx
  obtain ⟨mA, J, _⟩ := ins_get I.hok ha
  obtain ⟨od, J, _⟩ := J.look
  obtain ⟨m, hF⟩ := I.fr
  refine PySem.W.len_K hF I.ok.mod.kin J hs hf (own_call F hb pass0 hr.in1 rfl I (vs := [.ref a]) (.cons rfl .nil) h fun z u H' s' I' rz q => ?_)
  obtain ⟨n, rfl, hn, q⟩ := q
  obtain ⟨t, rfl⟩ := rz
  exact ⟨⟨by omega, by have : (2 : Int) ^ 63 = 9223372036854775808 := by decide
                       omega⟩, .int n, H', I'.tok _, ⟨_, rfl⟩, q⟩
/-- o[i] -/
def rItem (C : Addr) (sp : Sp) (E : XK) : R2 := fun x y H Q => ∃ (a dx : Addr) (fs : List (Str × V)), x = .ref a ∧ H a = some (.ins C dx fs) ∧ sp [.ref a, y] H Q E
theorem pe_item {E : XK} {a b : Expr} {ta tb : TE} {pos : Pos} (F : FnOk X.prog X.w X.K X.mg X.base CX k f fd ps sp) (hb : Binds X.K fd ps []) (hx : Passes CX X E) (hr : Room (k + 1) X.A) (hs : PySem.W.findIn X.K (.ref C) "__getitem__" = some (some (.ref f))) (hn : PySem.W.fnIn X.K f = true) (hf : PySem.W.isFn X.K (.ref f) = true)
    (pa : PE X a ta) (pb : PE X b tb) (hsl : ∀ x i : Value, subscripted b true x i = runValue (.builtin "lifetime.subscript" ⟨[x, i], []⟩) := by intro _ _; with_unfolding_all rfl) : PE X (.Subscript a b pos) (tOp (rItem C sp E) ta tb) := by
  refine ⟨fun pins s σ H Q I h => ?_⟩
  refine Subscript_ (binT pa pb I h fun v u s2 x y H2 I2 rx ry q => ?_)
  obtain ⟨o, dx, fs, rfl, ha, q⟩ := q
  cases rx
  obtain ⟨mA, J, _⟩ := ins_get I2.hok ha
  obtain ⟨od, J, _⟩ := J.look
  obtain ⟨m, hF⟩ := I2.fr
  exact PySem.W.sub_K hF I2.ok.mod.kin J hs hn hf (own_call F hb hx hr.in1 rfl I2 (vs := [.ref o, y]) (.cons rfl (.cons ry .nil)) q fun z u H' s' I' rz q => ⟨z, H', I', rz, q⟩) (hsl _ _)
/-- o == x, o != x: the answer of the own __eq__, turned by g -/
def rEqO (K : PySem.W.Frag) (C : Addr) (sp : Sp) (g : Bool → Bool) : R2 := fun x y H Q => ∃ (a dx : Addr) (fs : List (Str × V)) (t : Value), x = .ref a ∧ H a = some (.ins C dx fs) ∧ TyX K H y t ∧ PySem.W.notFirst K C t = true ∧ sp [.ref a, y] H (fun z H' => ∃ r, z = .bl r ∧ Q (.bl (g r)) H') E0
theorem op_eqO (F : FnOk X.prog X.w X.K X.mg X.base CX0 k f fd ps sp) (hb : Binds X.K fd ps []) (hr : Room k X.A) (hs : PySem.W.findIn X.K (.ref C) "__eq__" = some (some (.ref f))) (hf : PySem.W.isFn X.K (.ref f) = true) : OpR X (compareOp .Eq) (rEqO X.K C sp id) := by
  intro pins s σ H x y v u Q I rx ry hq
  obtain ⟨a, dx, fs, t, rfl, ha, ty, nf, h⟩ := hq
  cases rx
  show wpAny (model X.prog X.w) X.A (richCompare .Eq (.ref a) u) (EP X pins σ Q) X.xe s
  obtain ⟨mA, J, _⟩ := ins_get I.hok ha
  obtain ⟨od, J, _⟩ := J.look
  obtain ⟨m, hF⟩ := I.fr
  obtain ⟨P, Z, p, _⟩ := kit_of I ry ty
  refine PySem.W.cmp_K (op := .Eq) (tb := t) hr.units0 hF I.ok.mod.kin J (Z.ty _ _ I.kIn p) nf hs hf (own_call F hb pass0 hr rfl I (vs := [.ref a, y]) (.cons rfl (.cons ry .nil)) h fun z u H' s' I' rz q => ?_)
  obtain ⟨r, rfl, q⟩ := q
  cases rz
  exact ⟨.bl r, H', I', rfl, q⟩
theorem op_neO (F : FnOk X.prog X.w X.K X.mg X.base CX0 k f fd ps sp) (hb : Binds X.K fd ps []) (hr : Room (k + 1) X.A) (hs : PySem.W.findIn X.K (.ref C) "__eq__" = some (some (.ref f))) (hf : PySem.W.isFn X.K (.ref f) = true)
    (hne : PySem.W.findIn X.K (.ref C) "__ne__" = some (some (.builtin "object.__ne__"))) (hm : PySem.W.mroIn X.K C (.type "object") = some true) : OpR X (compareOp .NotEq) (rEqO X.K C sp not) := by
  intro pins s σ H x y v u Q I rx ry hq
  obtain ⟨a, dx, fs, t, rfl, ha, ty, nf, h⟩ := hq
  cases rx
  show wpAny (model X.prog X.w) X.A (richCompare .NotEq (.ref a) u) (EP X pins σ Q) X.xe s
  obtain ⟨mA, J, _⟩ := ins_get I.hok ha
  obtain ⟨od, J, _⟩ := J.look
  obtain ⟨P, Z, p, _⟩ := kit_of I ry ty
  refine K02S.ne_K I.kIn J (Z.ty _ _ I.kIn p) nf hne hm hs hf hr.units0 hr.in1.units0 (own_call F hb pass0 hr.in1 rfl I (vs := [.ref a, y]) (.cons rfl (.cons ry .nil)) h fun z u H' s' I' rz q => ?_)
  obtain ⟨r, rfl, q⟩ := q
  cases rz
  exact ⟨r, rfl, .bl (!r), H', I', rfl, q⟩
end
end K02
set_option Elab.async false
set_option linter.all false
set_option maxRecDepth 100000
set_option maxHeartbeats 4000000
/-! the law's own looks at rows -/
namespace K02
open K34 PySem PySem.Spec PyProof.Rows L2
def Pl.rw (p : Pl) : Rw := ⟨p.n, p.k, p.b⟩
def spCell (K : PySem.W.Frag) : Sp := fun vs H Q _ => ∃ (p : Pl) (v : V) (d : PyData), vs = [.ref p.a, v] ∧ p.at_ H ∧ p.ok ∧ Th K H v d ∧ sOk d = true ∧ ∀ H', Same H H' → Q (.bl (valOk p.k p.b d)) H'
theorem ix_listK {X : Cx} {K : PySem.W.Frag} (h : X.K = K) : IxR X (rIxL K) := by
  subst h
  exact ix_list
theorem ix_tupK {X : Cx} {K : PySem.W.Frag} (h : X.K = K) : IxR X (rIxT K) := by
  subst h
  exact ix_tup
def okAt (rs : List Rw) (ds : List PyData) (j : Nat) : Bool := match rs[j]?, ds[j]? with
  | some r, some d => valOk r.k r.b d
  | _, _ => true
def badAt (rs : List Rw) (ds : List PyData) (i : Nat) : List Int := ((List.range i).filter fun j => !okAt rs ds j).map fun j => ((j : Nat) : Int)
theorem bad_succ (rs : List Rw) (ds : List PyData) (i : Nat) : badAt rs ds (i + 1) = badAt rs ds i ++ (if okAt rs ds i = true then [] else [((i : Nat) : Int)]) := by
  unfold badAt
  rw [List.range_succ, List.filter_append, List.map_append]
  cases h : okAt rs ds i with
  | true => simp [List.filter, h]
  | false => simp [List.filter, h]
theorem bad_all {rs : List Rw} {ds : List PyData} (e : ds.length = rs.length) : (badAt rs ds rs.length).isEmpty = (rs.zip ds).all fun p => valOk p.1.k p.1.b p.2 := by
  rw [Bool.eq_iff_iff]
  unfold badAt
  rw [List.isEmpty_iff, List.map_eq_nil_iff, List.filter_eq_nil_iff, List.all_eq_true]
  constructor
  · intro h p hp
    obtain ⟨i, hi, e2⟩ := List.mem_iff_getElem.mp hp
    have li : i < rs.length := by rw [List.length_zip] at hi; omega
    have z := h i (List.mem_range.mpr li)
    unfold okAt at z
    rw [List.getElem?_eq_getElem li, List.getElem?_eq_getElem (by omega)] at z
    rw [← e2, List.getElem_zip]
    simpa using z
  · intro h i hi
    have li := List.mem_range.mp hi
    unfold okAt
    rw [List.getElem?_eq_getElem li, List.getElem?_eq_getElem (by omega)]
    have z := h (rs[i], ds[i]) (List.mem_iff_getElem.mpr ⟨i, by rw [List.length_zip]; omega, by rw [List.getElem_zip]⟩)
    simpa using z
theorem scCell : FnScope ["_law_column", "_law_thing"] ["_law_column", "_law_thing"] (defScope sIsCell) := ⟨rfl, rfl, rfl, by decide +kernel, rfl, by decide +kernel, by decide +kernel⟩
theorem scLRow : FnScope ["_law_plain", "_law_thing", "_law_k"] ["_law_plain", "_law_thing"] (defScope sIsRow) := ⟨rfl, rfl, rfl, by decide +kernel, rfl, by decide +kernel, by decide +kernel⟩
def spLRow (K : PySem.W.Frag) : Sp := fun vs H Q _ => ∃ (q : Addr) (ps : List Pl) (v : V) (o : Option (List PyData)), vs = [.ref q, v] ∧ PlAt H q ps ∧ ps.length ≤ 5 ∧ Thg K H v o ∧ ∀ H', Same H H' → Q (.bl (rowOk (ps.map Pl.rw) o)) H'
section
variable {P : Program} {w : World} {K : PySem.W.Frag} {mg : Str → Option Value} {base : Heap} {f fO fC : Addr} {fd fdO fdC : FuncData}
theorem ok_cell (F : FnP K "_law_is_cell" sIsCell f fd) (GO : FnOk P w K mg base CX0 2 fO fdO ["_law_sort", "_law_thing"] (spOf K)) (gO : mg "_law_is_of" = some (.ref fO)) (kO : PySem.W.keepIn K (.ref fO) = true) (bO : Binds K fdO ["_law_sort", "_law_thing"] []) :
    FnOk P w K mg base CX0 3 f fd ["_law_column", "_law_thing"] (spCell K) := by
  refine F.ok scCell (fun vs H Q E h => ?_) (fun cdv A outer s H vs Q E hr h => ?_)
  · obtain ⟨p, v, d, rfl, _⟩ := h
    rfl
  · obtain ⟨p, v, d, rfl, hp, ok, th, sk, k⟩ := h
    have nd := scCell.nd
    refine ⟨_, PSs.nox (pss_one (ps_ret (pe_ifExp (pt_cmpR op_isN (pv 1) pe_non (nomark _)) (pe_not (pe_ix ix_tup (pv 0) pe_int (fun _ _ => rfl))) (pe_call GO hr rfl gO kO bO .nil pass0 (pa_cons (pe_ix ix_tup (pv 0) pe_int (fun _ _ => rfl)) (pa_cons (pv 1) pa_nil)))))), ?_⟩
    have ht : SqT K H p.a [.str p.n, .str p.k, .bl p.b] := SqT.of hp
    refine ⟨_, rfl, rfl, ?_⟩
    rw [th_non th]
    cases hn : isNo d with
    | true =>
      refine ⟨_, rfl, ?_⟩
      refine iteT ?_
      have ev : valOk p.k p.b d = !p.b := by
        unfold valOk
        rw [if_pos hn]
      refine ⟨_, rfl, p.a, _, 2, .bl p.b, rfl, rfl, ht, rfl, _, rfl, ?_⟩
      have kk := k H (Same.refl H)
      rw [ev] at kk
      exact kk
    | false =>
      refine ⟨_, rfl, ?_⟩
      refine iteF ?_
      have ev : valOk p.k p.b d = if p.k = "word" then isW d else isN d := by
        unfold valOk
        rw [if_neg (by rw [hn]; exact Bool.false_ne_true)]
        rcases ok.2 with e | e <;> rw [e] <;> rfl
      refine ⟨_, rfl, p.a, _, 1, .str p.k, rfl, rfl, ht, rfl, _, rfl, p.k, v, d, rfl, th, sk, fun H' s => ?_⟩
      have kk := k H' s
      rw [ev] at kk
      exact kk
theorem ok_lrow (F : FnP K "_law_is_row" sIsRow f fd) (T : SchI K mg) (TR : mg "range" = none) (GC : FnOk P w K mg base CX0 3 fC fdC ["_law_column", "_law_thing"] (spCell K)) (gC : mg "_law_is_cell" = some (.ref fC)) (kC : PySem.W.keepIn K (.ref fC) = true) (bC : Binds K fdC ["_law_column", "_law_thing"] []) :
    FnOk P w K mg base CX0 4 f fd ["_law_plain", "_law_thing"] (spLRow K) := by
  refine F.ok scLRow (fun vs H Q E h => ?_) (fun cdv A outer s H vs Q E hr h => ?_)
  · obtain ⟨q, ps, v, o, rfl, _⟩ := h
    rfl
  · obtain ⟨q, ps, v, o, rfl, hp, l5, hv, k⟩ := h
    have nd := scLRow.nd
    have hu64 := hu64_of hr
    refine ⟨_, PSs.nox (pss_cons (ps_if (PW.pt (pw_or (pt_not (pt_val (pe_callB call_isi (by rfl) T.C.isi (by decide +kernel) (pa_cons (pv 1) (pa_cons (pe_bltn (v := .ty "tuple") (by rfl) T.tuple (by decide +kernel) rfl) pa_nil))))) (pw_or1 (pt_cmpR op_ne (pe_callB call_len_seq (by rfl) T.C.len PySem.boot_len (pa_cons (pv 1) pa_nil)) (pe_callB call_len_seq (by rfl) T.C.len PySem.boot_len (pa_cons (pv 0) pa_nil)) (nomark _))))) (pss_one (ps_ret pe_bl)) pss_nil)
      (pss_one (ps_ret (pe_cmpR (op_eqD hu64) (pe_lc (own := [("_law_k", 2)]) (g := gName 2) rfl nd (pi_range1 rfl TR (pa_cons (pe_callB call_len_seq (by rfl) T.C.len PySem.boot_len (pa_cons (pv 0) pa_nil)) pa_nil)) (blkOk_by (N := ["_law_plain", "_law_thing", "_law_k"]) (sc := defScope sIsRow) (by decide +kernel))
          (fun _ _ _ _ _ => pg_name (i := 2) nd rfl (Or.inl rfl)) (fun _ _ _ _ _ => pts_one (pt_not (pt_val (pe_call GC hr rfl gC kC bC .nil pass0 (pa_cons (pe_ix (ix_listK (K := K) rfl) (pv 0) (pv 2) (fun _ _ => rfl)) (pa_cons (pe_ix (ix_tupK (K := K) rfl) (pv 1) (pv 2) (fun _ _ => rfl)) pa_nil)))))) (fun _ _ _ _ _ => pv 2)) (pe_lst pa_nil) (nomark _))))), ?_⟩
    have hl : SqL K H q (ps.map fun r => V.ref r.a) := SqL.of hp.1
    cases hv with
    | non ty hk =>
      refine ⟨_, rfl, v, .ty "tuple", _, _, false, rfl, .ty _, ty, hk, _, rfl, ?_⟩
      refine iteT ?_
      refine iteT ?_
      exact k H (Same.refl H)
    | @tup qv xs ds hx lx hall =>
      refine ⟨_, rfl, _, .ty "tuple", _, _, true, rfl, .ty _, sqT_ty hx, kit_tup, _, rfl, ?_⟩
      refine iteF ?_
      refine ⟨_, rfl, qv, xs, rfl, .inr hx, _, rfl, q, _, rfl, .inl hl, rfl, _, rfl, ?_⟩
      by_cases el : ds.length = (ps.map Pl.rw).length
      · have el2 : ds.length = ps.length := by rw [el, List.length_map]
        refine itF ?_ ?_
        · rw [List.length_map, lx, el2, decide_eq_true rfl]
          rfl
        have ln : (ps.map fun r => V.ref r.a).length = ps.length := List.length_map ..
        refine ⟨_, rfl, q, _, rfl, .inl hl, _, rfl, by omega, by omega, fun D hD => ?_⟩
        have hD : H D = none := hD
        refine lc_it (walk_range (lo := 0) (n := ((ps.map fun r => V.ref r.a).length : Int).toNat)) (fun i H6 => H6 D = some (.lst ((badAt (ps.map Pl.rw) ds i).map V.int)) ∧ Same H H6) ⟨upd_same, same_new (Same.refl H) hD⟩ (fun _ _ _ _ => True.intro) ?_ ?_
        · rintro i x H6 H7 hi ⟨y1, y2⟩ ⟨rfl, rfl⟩
          have hi : i < ps.length := by rw [ln] at hi; omega
          have ld : i < ds.length := by omega
          have lxs : i < xs.length := by omega
          refine ⟨rfl, ?_⟩
          have e0 : (0 : Int) + (i : Int) = ((i : Nat) : Int) := Int.zero_add _
          have eV : (fun i : Nat => V.int (0 + (i : Int))) i = V.int ((i : Nat) : Int) := congrArg V.int e0
          rw [eV]
          have hp6 := hp.same y2
          have row := hp6.2 ps[i] (List.getElem_mem hi)
          obtain ⟨th, sk⟩ := hall i xs[i] ds[i] (List.getElem?_eq_getElem lxs) (List.getElem?_eq_getElem ld)
          refine ⟨_, rfl, _, rfl, q, _, _, _, rfl, rfl, SqL.of hp6.1, atI_nat (by rw [List.getElem?_map, List.getElem?_eq_getElem hi]; rfl), _, rfl, _, rfl, qv, xs, _, xs[i], rfl, rfl, sqT_same hx y2, atI_nat (List.getElem?_eq_getElem lxs), ps[i], xs[i], ds[i], rfl, row.1, row.2, th.same y2, sk, fun H8 s8 => ?_⟩
          have ok : okAt (ps.map Pl.rw) ds i = valOk ps[i].k ps[i].b ds[i] := by
            unfold okAt
            rw [List.getElem?_map, List.getElem?_eq_getElem hi, List.getElem?_eq_getElem ld]
            rfl
          rw [← ok]
          have nx := bad_succ (ps.map Pl.rw) ds i
          refine ⟨_, rfl, ?_⟩
          cases hk : okAt (ps.map Pl.rw) ds i with
          | true =>
            refine iteF ?_
            rw [hk, if_pos rfl, List.append_nil] at nx
            rw [nx]
            exact ⟨s8 _ _ y1, y2.trans s8⟩
          | false =>
            refine iteT ?_
            rw [hk, if_neg Bool.false_ne_true] at nx
            refine ⟨_, rfl, _, s8 _ _ y1, ?_, ?_, fun b o e => ?_⟩
            · rw [List.length_map, sizeLine_eq]
              have q1 : (badAt (ps.map Pl.rw) ds i).length ≤ i := by
                unfold badAt
                rw [List.length_map]
                exact Nat.le_trans (List.length_filter_le _ _) (Nat.le_of_eq List.length_range)
              omega
            · rw [upd_same, nx, List.map_append]
              rfl
            · rw [upd_ne (ne_of_none e hD)]
              exact s8 _ _ (y2 _ _ e)
        · rintro H6 ⟨y1, y2⟩
          have e2 : ((ps.map fun r => V.ref r.a).length : Int).toNat = (ps.map Pl.rw).length := by rw [ln, List.length_map]; omega
          rw [e2] at y1
          refine ⟨(by show 0 ≤ sizeLine; decide), fun z hz => ⟨.list ((badAt (ps.map Pl.rw) ds (ps.map Pl.rw).length).map PyData.int), .list [], .lst (SqL.of (up y1 hz)) (dp_ints _), .lst (SqL.of upd_same) .nil, shaped_ints _, rfl, ?_⟩⟩
          rw [eqv_nil, bad_all el]
          have kk := k _ (same_new y2 hz (o := .lst []))
          have rk : rowOk (ps.map Pl.rw) (some ds) = ((ps.map Pl.rw).zip ds).all fun p => valOk p.1.k p.1.b p.2 := by
            show (decide (ds.length = (ps.map Pl.rw).length) && _) = _
            rw [decide_eq_true el, Bool.true_and]
          rw [rk] at kk
          exact kk
      · refine itT ?_ ?_
        · rw [List.length_map] at el
          rw [List.length_map, lx]
          have : decide (V.int (ds.length : Nat) = V.int (ps.length : Nat)) = false := decide_eq_false fun z => el (by have := V.int.inj z; omega)
          rw [this]
          rfl
        have kk := k H (Same.refl H)
        have rk : rowOk (ps.map Pl.rw) (some ds) = false := by
          show (decide (ds.length = (ps.map Pl.rw).length) && _) = _
          rw [decide_eq_false el, Bool.false_and]
        rw [rk] at kk
        exact kk
end
end K02
set_option Elab.async false
set_option linter.all false
set_option maxRecDepth 100000
set_option maxHeartbeats 4000000
/-! Column(..): the three ways in which its arguments are bound -/
namespace K02
open K34 PySem PySem.Spec PyProof.Rows L2
abbrev FInit (K : PySem.W.Frag) (f : Addr) (fd : FuncData) : Prop := FunD K "__init__" "Column.__init__" (defArgs sInit) (defBody sInit) (defScope sInit) [] [(("is_required" : Str), V.bl false)] f fd
def psI : List Str := ["self", "name", "kind", "is_required"]
section
variable {K : PySem.W.Frag} {f : Addr} {fd : FuncData}
theorem bindPos (F : FInit K f fd) : ∃ ds, Vals [V.bl false] ds ∧ Binds K fd psI ds := by
  refine FunD.binds0 F 3 (by simp) rfl fun D doc pm an cdv ct us ks h1 h2 => ?_
  match us, ks, h1, h2 with
  | [a, b, c], [d], _, _ => exact ⟨_, _, _, _, _, _, rfl, rfl, rfl⟩
theorem bindKw (F : FInit K f fd) : ∃ mv : List Value, KBn K fd psI 3 ["is_required"] (fun us ws => us ++ (mv ++ ws)) (fun vs zs => vs ++ (([] : List (Str × V)).map (·.2) ++ zs)) := by
  refine FunD.kbinds0 F 3 ["is_required"] [] (fun us mv ws => us ++ (mv ++ ws)) (by simp) (fun q h => by cases h) (fun r1 r2 r3 => r1.append (r2.append r3)) fun D doc pm an cdv ct us mv ws h1 h2 h3 => ?_
  match us, mv, ws, h1, h2, h3 with
  | [a, b, c], [], [d], _, _, _ => exact rfl
def g3 {α : Type} (us mv ws : List α) : List α := match us, ws with
  | [s], [k, r, n] => [s, n, k, r]
  | _, _ => []
theorem bindAll (F : FInit K f fd) : ∃ mv : List Value, KBn K fd psI 1 ["kind", "is_required", "name"] (fun us ws => g3 us mv ws) (fun vs zs => g3 vs (([] : List (Str × V)).map (·.2)) zs) := by
  refine FunD.kbinds0 F 1 ["kind", "is_required", "name"] [] (fun us mv ws => g3 us mv ws) (by simp) (fun q h => by cases h) (fun r1 r2 r3 => ?_) fun D doc pm an cdv ct us mv ws h1 h2 h3 => ?_
  · cases r1 with
    | nil => exact .nil
    | cons a1 t1 =>
      cases t1 with
      | cons _ _ => cases r3 <;> exact .nil
      | nil =>
        cases r3 with
        | nil => exact .nil
        | cons b1 u1 =>
          cases u1 with
          | nil => exact .nil
          | cons b2 u2 =>
            cases u2 with
            | nil => exact .nil
            | cons b3 u3 =>
              cases u3 with
              | nil => exact .cons a1 (.cons b3 (.cons b1 (.cons b2 .nil)))
              | cons _ _ => exact .nil
  · match us, mv, ws, h1, h2, h3 with
    | [a], [], [b, c, d], _, _, _ => exact rfl
end
end K02
set_option Elab.async false
set_option linter.all false
set_option maxRecDepth 100000
set_option maxHeartbeats 4000000
/-! o.m(y = e): a method called by one keyword -/
namespace K02
open K34 PySem PySem.Spec PyProof.Rows L2
def tMethK (C : Addr) (m : Str) (sp : Sp) (ta : TE) (tk : TA) : TE := fun σ H Q => ta σ H fun x H1 => ∃ a dx fs, x = .ref a ∧ H1 a = some (.ins C dx fs) ∧ fs.lookup m = none ∧
  tk σ H1 fun zs H2 => zs.length = 1 ∧ sp (x :: zs) H2 Q E0
section
variable {X : Cx} {k : Nat} {f C : Addr} {fd : FuncData} {sp : Sp} {m y : Str} {o : Expr} {kws : List Keyword} {ta : TE} {tk : TA} {apos pos : Pos}
theorem pe_methK {pl : Sem Bool} (he : PE X o ta) (c : Cls X.K C) (hm : Meth X.K C m f) (F : FnOk X.prog X.w X.K X.mg X.base CX0 k f fd ["self", y] sp) (hr : Room k X.A)
    (hb : ∀ (s' : Shared) (a : Addr) (u : Value), BindsTo s' fd ⟨[.ref a], [(y, u)]⟩ [(("self" : Str), .ref a), (y, u)]) (hkw : PK X kws tk)
    (hall : (backToKw pos (keywordEach kws X.env)).all (·.1.isSome) = true := by rfl) (hks : (backToKw pos (keywordEach kws X.env)).filterMap (·.1) = [y] := by rfl)
    (hpl : ((backTo pos (starEach [] X.env)).any (·.1) || (backToKw pos (keywordEach kws X.env)).any (·.1.isNone)) = false := by rfl)
    (ht : eval (.Call (.Attribute o m apos) [] kws pos) X.env = (do
      let ov ← eval o X.env
      standAt apos.atName
      let (f, first) ← holding [ov] (getMethod ov m pl)
      callWith pos f first (backTo pos (starEach [] X.env)) (backToKw pos (keywordEach kws X.env))) := by rfl) :
    PE X (.Call (.Attribute o m apos) [] kws pos) (tMethK C m sp ta tk) := by
  refine ⟨fun pins s σ H Q I h => ?_⟩
  refine PySem.W.methodCall_KW (pl := pl) (thn (he.run pins s σ H _ I h) fun u s1 ⟨x, H1, I1, rx, a, dx, fs, ex, ea, l, q⟩ => ?_) ht
  subst ex
  obtain rfl : u = Value.ref a := rx
  refine getmeth_ok I1 ea c hm l ?_
  refine PySem.W.callWith_KW0 (first := [.ref a]) (h₀ := X.base) I.ok.mod.kin hm.kp hall ?_ hpl
  refine thn (hkw.run pos pins _ σ H1 _ I1 q) fun ws s2 ⟨zs, H2, I2, rz, hz, q2⟩ => ⟨I2.kIn, ?_⟩
  rw [hks]
  cases zs with
  | nil => exact absurd hz (by decide)
  | cons z zt =>
    cases zt with
    | cons z2 zt2 => exact absurd hz (by simp)
    | nil =>
      cases rz with
      | cons rz1 rz2 =>
        cases rz2
        rename_i u _
        refine wpAny_call (codeAny_mono (F.run X.A X.stack s2 H2 ⟨[.ref a], [(y, u)]⟩ [.ref a, u] [.ref a, z] Q E0 hr I2.env0 (hb s2 a u) (.cons rfl (.cons rz1 .nil)) q2) fun r s' hq => ?_)
        cases r with
        | error e => exact False.elim hq
        | ok fl =>
          cases fl with
          | ret u => exact I2.after hq
          | next => exact False.elim hq
          | brk => exact False.elim hq
          | cont => exact False.elim hq
end
section
theorem kw_isval {K : PySem.W.Frag} {f : Addr} {fd : FuncData} (F : FunD K "is_value" "Column.is_value" (defArgs sIsVal) (defBody sIsVal) (defScope sIsVal) [] [] f fd) (s' : Shared) (a : Addr) (u : Value) : BindsTo s' fd ⟨[.ref a], [(("value" : Str), u)]⟩ [(("self" : Str), .ref a), (("value" : Str), u)] := by
  obtain ⟨oc, od, dV, kV, doc, pm, an, cdv, ct, osl, rfl, lk, hcd, hD, hK⟩ := F.ex
  rcases hD with ⟨_, rfl⟩ | ⟨e, _⟩
  · exact .of_eq rfl
  · exact absurd rfl e
end
end K02
set_option Elab.async false
set_option linter.all false
set_option maxRecDepth 100000
set_option maxHeartbeats 4000000
/-! the law's own making of schemas -/
namespace K02
open K34 PySem PySem.Spec PyProof.Rows L2 StX
theorem word_ok {x : Str} (h : wordS x = true) : PyData.strOk x = true := by
  unfold wordS at h
  obtain ⟨_, h⟩ := Bool.and_eq_true_iff.mp h
  obtain ⟨_, h⟩ := Bool.and_eq_true_iff.mp h
  unfold PyData.strOk
  rw [Array.all_eq_true_iff_forall_mem]
  intro c hc
  have z := List.all_eq_true.mp h c (Array.mem_toList_iff.mpr hc)
  unfold lowN at z
  have := of_decide_eq_true (Bool.and_eq_true_iff.mp z).2
  exact decide_eq_true (by omega)
theorem word_len {x : Str} (h : wordS x = true) : x.length ≤ 8 := by
  unfold wordS at h
  obtain ⟨_, h⟩ := Bool.and_eq_true_iff.mp h
  obtain ⟨h, _⟩ := Bool.and_eq_true_iff.mp h
  exact of_decide_eq_true h
theorem nm_word {x : Str} (h : isNm (.str x) = true) : wordS x = true := (Bool.and_eq_true_iff.mp h).1
theorem kd_ok {k : Str} (h : k = "number" ∨ k = "word") : PyData.strOk k = true := by
  rcases h with rfl | rfl <;> decide +kernel
theorem nm_ok {n : Str} (h : isNm (.str n) = true) : sOk (.str n) = true := by
  show (decide (n.length ≤ 1000) && PyData.strOk n) = true
  have := word_len (nm_word h)
  rw [word_ok (nm_word h), decide_eq_true (by omega)]
  rfl
theorem kd_in {k : Str} (h : k = "number" ∨ k = "word") : isIn (.str k) kinds = true := by rcases h with rfl | rfl <;> decide +kernel
theorem ColAt.put {K : PySem.W.Frag} {H : Hp} {a R : Addr} {n k : Str} {b : Bool} {l l' : List V} (c : ColAt K H a n k b) (h : H R = some (.lst l)) : ColAt K (upd H R (.lst l')) a n k b := by
  obtain ⟨dx, e⟩ := c
  exact ⟨dx, by rw [upd_ne (ne_of e h (by intro z; cases z))]; exact e⟩
/-- a column is made -/
theorem rd_init {K : PySem.W.Frag} {H : Hp} {x dx : Addr} {n k : Str} {b : Bool} {W : VK} {E : XK} (hn : isNm (.str n) = true) (hk : k = "number" ∨ k = "word") (h1 : H x = none) (h2 : H dx = none) (ne : dx ≠ x)
    (q : ∀ H', Same H H' → ColAt K H' x n k b → W .non H') : spInit K [.ref x, .str n, .str k, .bl b] (upd (upd H dx (.own x)) x (.ins (He.ga K "Column") dx [])) W E := by
  refine ⟨x, dx, .str n, .str k, .str n, .str k, b, rfl, upd_same, .dp (.str _) rfl, nm_ok hn, .dp (.str _) rfl, (fun e => by rw [hn] at e; cases e), (fun _ e => by rw [kd_in hk] at e; cases e), fun _ _ H' bu hx => q H' (fun c o e => ?_) ⟨dx, hx⟩⟩
  have nx : c ≠ x := ne_of_none e h1
  have nd : c ≠ dx := ne_of_none e h2
  refine bu c o nx ?_
  rw [upd_ne nx, upd_ne nd]
  exact e
/-- what Schema(..) does with its arguments -/
def spSchR (K : PySem.W.Frag) : Sp := fun vs H Q E => ∃ v rest, vs = v :: rest ∧ rest.length ≤ 6 ∧ ∀ p, H p = none → spSInit K [v, .ref p] (upd H p (.tup rest)) Q E
theorem MupAns.same {K : PySem.W.Frag} {H H' : Hp} {xs : List V} {r : Bool} (h : MupAns K H xs r) (s : Same H H') : MupAns K H' xs r := by
  rcases h with h | ⟨bs, h1, h2, h3⟩ | ⟨cs, rs, h1, h2, h3⟩
  · exact .inl h
  · exact .inr (.inl ⟨bs, h1, fun i x b hx hb => (h2 i x b hx hb).same s, h3⟩)
  · exact .inr (.inr ⟨cs, rs, h1, h2.same s, h3⟩)
theorem same_ins {H : Hp} {C x dx : Addr} (hx : H x = none) (hd : H dx = none) (ne : dx ≠ x) : Same H (upd (upd H dx (.own x)) x (.ins C dx [])) :=
  same_new (same_new (Same.refl H) hd) (by rw [upd_ne (Ne.symm ne)]; exact hx)
theorem rd_schOk {K : PySem.W.Frag} {H : Hp} {x dx : Addr} {cs : List Addr} {rs : List Rw} {Q : VK} {E : XK} (hc : CsAt K H cs rs) (l1 : 1 ≤ cs.length) (l5 : cs.length ≤ 5) (nd : (rs.map (·.n)).Nodup) (hx : H x = none) (hd : H dx = none) (ne : dx ≠ x)
    (q : ∀ T H', Same H H' → SchAt K H' x T cs rs → Q (.ref x) H') : spSchR K (.ref x :: cs.map V.ref) (upd (upd H dx (.own x)) x (.ins (He.ga K "Schema") dx [])) (fun v H2 => v = .non ∧ Q (.ref x) H2) E := by
  have s1 := same_ins (C := He.ga K "Schema") hx hd ne
  have ex : (upd (upd H dx (.own x)) x (.ins (He.ga K "Schema") dx [])) x = some (.ins (He.ga K "Schema") dx []) := upd_same
  generalize upd (upd H dx (.own x)) x (.ins (He.ga K "Schema") dx []) = H1 at s1 ex ⊢
  refine ⟨_, _, rfl, by rw [List.length_map]; omega, fun p hp => ?_⟩
  have s2 := same_new (o := .tup (cs.map V.ref)) (Same.refl H1) hp
  have ep : (upd H1 p (.tup (cs.map V.ref))) p = some (.tup (cs.map V.ref)) := upd_same
  have nx : p ≠ x := (ne_of_none ex hp).symm
  generalize upd H1 p (.tup (cs.map V.ref)) = H2 at s2 ep ⊢
  refine ⟨x, dx, p, _, true, rfl, s2 _ _ ex, SqT.of ep, by rw [List.length_map]; omega, .inr (.inr ⟨cs, rs, rfl, (hc.same s1).same s2, l1, l5, (decide_eq_true nd).symm⟩), (fun e => by cases e), fun _ H' bu hH' => ⟨rfl, ?_⟩⟩
  have s3 : Same H H' := fun c o e => bu c o (ne_of_none e hx) (s2 _ _ (s1 _ _ e))
  exact q p H' s3 ⟨⟨dx, hH'⟩, SqT.of (bu _ _ nx ep), hc.same s3, by rw [← hc.1]; exact l5⟩
theorem rd_schNo {K : PySem.W.Frag} {H : Hp} {x dx : Addr} {xs : List V} {Q : VK} {E : XK} (hl : xs.length ≤ 6) (ans : MupAns K H xs false) (hx : H x = none) (hd : H dx = none) (ne : dx ≠ x)
    (e : ∀ H', Same H H' → E (.ref (He.ga K "InvalidSchema")) none H') : spSchR K (.ref x :: xs) (upd (upd H dx (.own x)) x (.ins (He.ga K "Schema") dx [])) Q E := by
  have s1 := same_ins (C := He.ga K "Schema") hx hd ne
  have ex : (upd (upd H dx (.own x)) x (.ins (He.ga K "Schema") dx [])) x = some (.ins (He.ga K "Schema") dx []) := upd_same
  generalize upd (upd H dx (.own x)) x (.ins (He.ga K "Schema") dx []) = H1 at s1 ex ⊢
  refine ⟨_, _, rfl, hl, fun p hp => ?_⟩
  have s2 := same_new (o := .tup xs) (Same.refl H1) hp
  have ep : (upd H1 p (.tup xs)) p = some (.tup xs) := upd_same
  generalize upd H1 p (.tup xs) = H2 at s2 ep ⊢
  refine ⟨x, dx, p, xs, false, rfl, s2 _ _ ex, SqT.of ep, by omega, (ans.same s1).same s2, (fun _ H' s' => e H' ((s1.trans s2).trans s')), (fun e => by cases e)⟩
def NLS : List Str := ["_law_plain", "_law_made", "_law_title", "_law_sort", "_law_must"]
theorem scLSch : FnScope NLS ["_law_plain"] (defScope sLSchema) := ⟨rfl, rfl, rfl, by decide +kernel, rfl, by decide +kernel, by decide +kernel⟩
def spLSch (K : PySem.W.Frag) : Sp := fun vs H Q _ => ∃ (q : Addr) (ps : List Pl), vs = [.ref q] ∧ PlAt H q ps ∧ 1 ≤ ps.length ∧ ps.length ≤ 5 ∧ (ps.map (·.n)).Nodup ∧
  ∀ (a T : Addr) (cs : List Addr) (H' : Hp), Same H H' → SchAt K H' a T cs (ps.map Pl.rw) → Q (.ref a) H'
section
variable {P : Program} {w : World} {K : PySem.W.Frag} {mg : Str → Option Value} {base : Heap} {f fI fS : Addr} {fd fdI : FuncData}
theorem ok_lsch (F : FnP K "_law_schema" sLSchema f fd) (T : SchI K mg) (TL : mg "len" = none) (C : ColT K mg) (MC : Mk K (He.ga K "Column") fI) (GI : FnOk P w K mg base (L2.CX P w) 3 fI fdI psI (spInit K)) (FI : FInit K fI fdI)
    (MS : Mk K (He.ga K "Schema") fS) (GS : FnR P w K mg base (L2.CX P w) 4 fS (spSchR K)) : FnOk P w K mg base CX0 6 f fd ["_law_plain"] (spLSch K) := by
  obtain ⟨mv, bK⟩ := bindKw FI
  refine F.ok scLSch (fun vs H Q E h => ?_) (fun cdv A outer s H vs Q E hr h => ?_)
  · obtain ⟨q, ps, rfl, _⟩ := h
    rfl
  · obtain ⟨q, ps, rfl, P1, l1, l5, nn, k⟩ := h
    have nd := scLSch.nd
    refine ⟨_, PSs.nox (pss_cons (ps_setLc (i := 1) (own := [("_law_title", 2), ("_law_sort", 3), ("_law_must", 4)]) (g := gTup K 3 (gCons (gName 2) (gCons (gName 3) (gCons (gName 4) gNil)))) (tt := tYes) rfl nd rfl rfl (sw_true rfl rfl rfl (by decide +kernel)) (pi_list (pv 0))
      (blkOk_by (N := NLS) (sc := defScope sLSchema) (by decide +kernel)) (fun _ _ _ _ _ => pg_tup rfl (pgs_cons (pg_name (i := 2) nd rfl (Or.inl rfl)) (pgs_cons (pg_name (i := 3) nd rfl (Or.inl rfl)) (pgs_cons (pg_name (i := 4) nd rfl (Or.inl rfl)) pgs_nil)))) (fun _ _ _ _ _ => pts_nil)
      (fun _ _ _ _ _ => pe_makeK MC GI (hr.mono (by decide)) (by rfl) C.g bK passL (pa_cons (pv 2) (pa_cons (pv 3) pa_nil)) (pk_cons (pv 4) pk_nil)))
      (pss_cons (ps_if (pt_cmpR op_eq (pe_callB call_len_seq (by rfl) TL PySem.boot_len (pa_cons (pv 1) pa_nil)) pe_int (nomark _)) (pss_one (ps_ret (pe_makeR MS GS hr (by rfl) T.g passL (pa_cons (pe_ix ix_list (pv 1) pe_int (fun _ _ => rfl)) pa_nil)))) pss_nil)
      (pss_cons (ps_if (pt_cmpR op_eq (pe_callB call_len_seq (by rfl) TL PySem.boot_len (pa_cons (pv 1) pa_nil)) pe_int (nomark _)) (pss_one (ps_ret (pe_makeR MS GS hr (by rfl) T.g passL (pa_cons (pe_ix ix_list (pv 1) pe_int (fun _ _ => rfl)) (pa_cons (pe_ix ix_list (pv 1) pe_int (fun _ _ => rfl)) pa_nil))))) pss_nil)
      (pss_cons (ps_if (pt_cmpR op_eq (pe_callB call_len_seq (by rfl) TL PySem.boot_len (pa_cons (pv 1) pa_nil)) pe_int (nomark _)) (pss_one (ps_ret (pe_makeR MS GS hr (by rfl) T.g passL (pa_cons (pe_ix ix_list (pv 1) pe_int (fun _ _ => rfl)) (pa_cons (pe_ix ix_list (pv 1) pe_int (fun _ _ => rfl)) (pa_cons (pe_ix ix_list (pv 1) pe_int (fun _ _ => rfl)) pa_nil)))))) pss_nil)
      (pss_cons (ps_if (pt_cmpR op_eq (pe_callB call_len_seq (by rfl) TL PySem.boot_len (pa_cons (pv 1) pa_nil)) pe_int (nomark _)) (pss_one (ps_ret (pe_makeR MS GS hr (by rfl) T.g passL (pa_cons (pe_ix ix_list (pv 1) pe_int (fun _ _ => rfl)) (pa_cons (pe_ix ix_list (pv 1) pe_int (fun _ _ => rfl)) (pa_cons (pe_ix ix_list (pv 1) pe_int (fun _ _ => rfl)) (pa_cons (pe_ix ix_list (pv 1) pe_int (fun _ _ => rfl)) pa_nil))))))) pss_nil)
      (pss_one (ps_ret (pe_makeR MS GS hr (by rfl) T.g passL (pa_cons (pe_ix ix_list (pv 1) pe_int (fun _ _ => rfl)) (pa_cons (pe_ix ix_list (pv 1) pe_int (fun _ _ => rfl)) (pa_cons (pe_ix ix_list (pv 1) pe_int (fun _ _ => rfl)) (pa_cons (pe_ix ix_list (pv 1) pe_int (fun _ _ => rfl)) (pa_cons (pe_ix ix_list (pv 1) pe_int (fun _ _ => rfl)) pa_nil))))))))))))), ?_⟩
    refine ⟨_, rfl, q, rfl, ⟨_, SqL.of P1.1⟩, fun R hR => ?_⟩
    have hR : H R = none := hR
    refine lc_it (walk_list (K := K) (a := q) (xs := ps.map fun r => V.ref r.a)) (fun i H3 => ∃ cs : List Addr, H3 R = some (.lst (cs.map V.ref)) ∧ cs.length = i ∧ (∀ (j : Nat) (c : Addr) (r : Pl), cs[j]? = some c → ps[j]? = some r → ColAt K H3 c r.n r.k r.b) ∧ Same H H3)
      ⟨[], upd_same, rfl, fun j c r z => by simp at z, same_new (Same.refl H) hR⟩ (fun i H3 _ ⟨cs, _, _, _, y⟩ => SqL.of (y _ _ P1.1)) ?_ ?_
    · rintro i x' H3 H4 hi ⟨cs, y1, y2, y3, y4⟩ ⟨rfl, hx'⟩
      have hx' : (ps.map fun r => V.ref r.a)[i]? = some x' := hx'
      rw [List.getElem?_map] at hx'
      obtain ⟨r, hri, rfl⟩ := Option.map_eq_some_iff.mp hx'
      have hr := P1.2 r (List.mem_of_getElem? hri)
      refine ⟨r.a, _, rfl, SqT.of (y4 _ _ hr.1), rfl, _, _, rfl, _, _, rfl, _, _, rfl, rfl, rfl, ?_⟩
      unfold tYes
      dsimp only
      refine iteT ?_
      refine ⟨_, rfl, _, rfl, _, rfl, rfl, rfl, fun x dx n1 n2 ne => rd_init hr.2.1 hr.2.2 n1 n2 ne fun H5 s5 c5 => ⟨rfl, cs.map V.ref, s5 _ _ y1, ?_, cs ++ [x], ?_, ?_, fun j c' r' h1 h2 => ?_, fun b o e => ?_⟩⟩
      · rw [List.length_map, y2, sizeLine_eq]
        have : i < (ps.map fun r => V.ref r.a).length := hi
        rw [List.length_map] at this
        omega
      · rw [upd_same, List.map_append]
        rfl
      · rw [List.length_append, y2]
        rfl
      · have e5 := s5 _ _ y1
        by_cases hj : j < cs.length
        · rw [List.getElem?_append_left hj] at h1
          exact ((y3 j c' r' h1 h2).same s5).put e5
        · rw [List.getElem?_append_right (by omega)] at h1
          have ej : j = i := by
            have : j - cs.length < [x].length := (List.getElem?_eq_some_iff.mp h1).1
            simp only [List.length_singleton] at this
            omega
          subst ej
          rw [y2, Nat.sub_self] at h1
          cases h1
          rw [hri] at h2
          cases h2
          exact c5.put e5
      · rw [upd_ne (ne_of_none e hR)]
        exact s5 _ _ (y4 _ _ e)
    · rintro H3 ⟨cs, y1, y2, y3, y4⟩
      rw [List.length_map] at y2
      have hc : CsAt K H3 cs (ps.map Pl.rw) := by
        refine ⟨by rw [List.length_map]; exact y2, fun i c r h1 h2 => ?_⟩
        rw [List.getElem?_map] at h2
        obtain ⟨p, hp, rfl⟩ := Option.map_eq_some_iff.mp h2
        exact y3 i c p h1 hp
      have hn : ((ps.map Pl.rw).map (·.n)).Nodup := by
        rw [List.map_map]
        exact nn
      have fin : ∀ x dx, H3 x = none → H3 dx = none → dx ≠ x → spSchR K (.ref x :: cs.map V.ref) (upd (upd H3 dx (.own x)) x (.ins (He.ga K "Schema") dx [])) (fun v H2 => v = .non ∧ Q (.ref x) H2) E0 := fun x dx h1 h2 ne =>
        rd_schOk hc (by omega) (by omega) hn h1 h2 ne fun T' H' s' hs => k x T' cs H' (y4.trans s') hs
      clear y3 hc hn
      have sq := SqL.of (K := K) y1
      match cs, y2 with
      | [c0], _ =>
        refine ⟨_, rfl, R, _, rfl, .inl sq, rfl, _, rfl, ?_⟩
        refine itT (by rfl) ?_
        exact ⟨_, rfl, R, _, 0, _, rfl, rfl, sq, rfl, fin⟩
      | [c0, c1], _ =>
        refine ⟨_, rfl, R, _, rfl, .inl sq, rfl, _, rfl, ?_⟩
        refine itF (by rfl) ?_
        refine ⟨_, rfl, R, _, rfl, .inl sq, rfl, _, rfl, ?_⟩
        refine itT (by rfl) ?_
        exact ⟨_, rfl, R, _, 0, _, rfl, rfl, sq, rfl, _, rfl, R, _, 1, _, rfl, rfl, sq, rfl, fin⟩
      | [c0, c1, c2], _ =>
        refine ⟨_, rfl, R, _, rfl, .inl sq, rfl, _, rfl, ?_⟩
        refine itF (by rfl) ?_
        refine ⟨_, rfl, R, _, rfl, .inl sq, rfl, _, rfl, ?_⟩
        refine itF (by rfl) ?_
        refine ⟨_, rfl, R, _, rfl, .inl sq, rfl, _, rfl, ?_⟩
        refine itT (by rfl) ?_
        exact ⟨_, rfl, R, _, 0, _, rfl, rfl, sq, rfl, _, rfl, R, _, 1, _, rfl, rfl, sq, rfl, _, rfl, R, _, 2, _, rfl, rfl, sq, rfl, fin⟩
      | [c0, c1, c2, c3], _ =>
        refine ⟨_, rfl, R, _, rfl, .inl sq, rfl, _, rfl, ?_⟩
        refine itF (by rfl) ?_
        refine ⟨_, rfl, R, _, rfl, .inl sq, rfl, _, rfl, ?_⟩
        refine itF (by rfl) ?_
        refine ⟨_, rfl, R, _, rfl, .inl sq, rfl, _, rfl, ?_⟩
        refine itF (by rfl) ?_
        refine ⟨_, rfl, R, _, rfl, .inl sq, rfl, _, rfl, ?_⟩
        refine itT (by rfl) ?_
        exact ⟨_, rfl, R, _, 0, _, rfl, rfl, sq, rfl, _, rfl, R, _, 1, _, rfl, rfl, sq, rfl, _, rfl, R, _, 2, _, rfl, rfl, sq, rfl, _, rfl, R, _, 3, _, rfl, rfl, sq, rfl, fin⟩
      | [c0, c1, c2, c3, c4], _ =>
        refine ⟨_, rfl, R, _, rfl, .inl sq, rfl, _, rfl, ?_⟩
        refine itF (by rfl) ?_
        refine ⟨_, rfl, R, _, rfl, .inl sq, rfl, _, rfl, ?_⟩
        refine itF (by rfl) ?_
        refine ⟨_, rfl, R, _, rfl, .inl sq, rfl, _, rfl, ?_⟩
        refine itF (by rfl) ?_
        refine ⟨_, rfl, R, _, rfl, .inl sq, rfl, _, rfl, ?_⟩
        refine itF (by rfl) ?_
        exact ⟨_, rfl, R, _, 0, _, rfl, rfl, sq, rfl, _, rfl, R, _, 1, _, rfl, rfl, sq, rfl, _, rfl, R, _, 2, _, rfl, rfl, sq, rfl, _, rfl, R, _, 3, _, rfl, rfl, sq, rfl, _, rfl, R, _, 4, _, rfl, rfl, sq, rfl, fin⟩
      | [], e => exact absurd e (by show 0 ≠ _; omega)
      | _ :: _ :: _ :: _ :: _ :: _ :: _, e => exact absurd e (by simp only [List.length_cons]; omega)
end
end K02
set_option Elab.async false
set_option linter.all false
set_option maxRecDepth 100000
set_option maxHeartbeats 4000000
/-! a tuple turned round by its slice -/
namespace RevT
open PySem PyProof.Rows L2
theorem adj (n : Nat) : Builtin.Slice.sliceAdjust none none (-1) (n : Int) = ((n : Int) - 1, -1) := by
  unfold Builtin.Slice.sliceAdjust
  simp
theorem places (n : Nat) : Builtin.Slice.slicePlaces ((n : Int) - 1) (-1) (-1) = n := by
  unfold Builtin.Slice.slicePlaces
  simp
  try omega
theorem pick (items : Array Value) : ((List.range items.size).filterMap fun k : Nat => items[((items.size : Int) - 1 + (k : Int) * (-1)).toNat]?).toArray = items.toList.reverse.toArray := by
  congr 1
  have e : ∀ (n : Nat), n ≤ items.size → (List.range n).filterMap (fun k : Nat => items[((items.size : Int) - 1 + (k : Int) * (-1)).toNat]?) = items.toList.reverse.take n := by
    intro n
    induction n with
    | zero => intro _; simp
    | succ n ih =>
      intro hn
      rw [List.range_succ, List.filterMap_append, ih (by omega), List.take_add_one]
      congr 1
      have e1 : ((items.size : Int) - 1 + (n : Int) * (-1)).toNat = items.size - 1 - n := by omega
      rw [List.filterMap_cons, List.filterMap_nil, e1, List.getElem?_reverse (by rw [Array.length_toList]; omega), Array.length_toList, Array.getElem?_toList]
      cases items[items.size - 1 - n]? <;> rfl
  have := e items.size (Nat.le_refl _)
  rw [this, List.take_of_length_le (by rw [List.length_reverse, Array.length_toList]; omega)]
section
variable {prog : Program} {w : World} {A : Around} {E : Value → Shared → Prop} {s : Shared}
theorem sliceApplied_rev {sl : Addr} {vl vu vs : Value} {n : Nat} {Q : Int × Int × Nat → Shared → Prop} (hs : s.heap.IsSliceOf sl vl vu vs) (pl : IsPart vl none) (pu : IsPart vu none) (ps : IsPart vs (some (-1)))
    (h : Q ((n : Int) - 1, -1, n) s) : wpAny (model prog w) A (Builtin.Slice.sliceApplied (.ref sl) (pure (n : Int))) Q E s := by
  obtain ⟨os, hos, hcs, hds⟩ := id hs
  unfold Builtin.Slice.sliceApplied
  refine wpAny_bind (wpAny_bind (wpAny_field hos hds rfl (wpAny_bind (wpAny_field hos hds rfl (wpAny_bind (wpAny_field hos hds rfl (wpAny_pure (wpAny_bind (HT.slicePart_ ps ?_)))))))))
  show wpAny _ _ (if ((-1 : Int) == 0) = true then _ else _) _ _ _
  rw [if_neg (by decide)]
  refine wpAny_bind (HT.slicePart_ pl (wpAny_bind (HT.slicePart_ pu (wpAny_bind (wpAny_pure ?_)))))
  show wpAny _ _ (match Builtin.Slice.sliceAdjust none none (-1) (n : Int) with | (lo, hi) => pure (lo, -1, Builtin.Slice.slicePlaces lo hi (-1))) _ _ _
  rw [adj]
  show wpAny _ _ (pure ((n : Int) - 1, (-1 : Int), Builtin.Slice.slicePlaces ((n : Int) - 1) (-1) (-1))) _ _ _
  rw [places]
  exact wpAny_pure h
theorem getItem_tuple_rev {t sl : Addr} {items : Array Value} {vl vu vs : Value} {Q : Value → Shared → Prop} (ht : IsTup s.heap t items) (hs : s.heap.IsSliceOf sl vl vu vs) (pl : IsPart vl none) (pu : IsPart vu none) (ps : IsPart vs (some (-1)))
    (h : Q (.ref s.heap.objs.size) { s with heap := s.heap.push { cls := .type "tuple", data := .seq items.toList.reverse.toArray } }) (hsz : items.size ≤ sizeLine) : wpAny (model prog w) A (getItem (.ref t) (.ref sl)) Q E s := by
  obtain ⟨os, hos, hcs, hds⟩ := id hs
  have hTs : s.TypeIs (.ref sl) "slice" := ⟨os, hos, hcs⟩
  refine wpAny_holding (wpAny_bind (wpAny_sequenceKey (IsTup.typeIs ht) (by decide +kernel) (wpAny_bind (wpAny_callSpecial?_slot (IsTup.typeIs ht) slot_tuple_getitem (wpAny_call_entry slot_tuple_getitem (IsTup.typeIs ht) entry_tuple_getitem ?_ (args_tuple_getitem (.ref t) (.ref sl)))))))
  refine wpAny_bind (show wpAny _ _ (pure (Value.ref t, [Value.ref sl])) _ _ _ from wpAny_pure ?_)
  dsimp only
  refine wpAny_bind (tupleItemsOf_ ht (wpAny_bind (wpAny_typeOf hTs ?_)))
  rw [if_pos (by decide +kernel)]
  refine wpAny_bind (sliceApplied_rev hs pl pu ps ?_)
  dsimp only
  have hno : ¬(((items.size : Int) - 1 == 0 && (-1 : Int) == 1 && items.size == items.size) = true) := by
    simp
  rw [if_neg hno, pick]
  exact wpAny_bind (wpAny_newObj_type (wpAny_pure ⟨_, rfl, wpAny_pure h⟩) (show items.toList.reverse.toArray.size ≤ sizeLine by rw [List.size_toArray, List.length_reverse, Array.length_toList]; exact hsz))
end
/-- e[::-1] of a tuple -/
def tRevT (K : PySem.W.Frag) (te : TE) : TE := fun σ H Q => te σ H fun x H1 => ∃ a xs, x = .ref a ∧ SqT K H1 a xs ∧ ∀ p, H1 p = none → Q (.ref p) (upd H1 p (.tup xs.reverse))
theorem vals_rev {xs : List V} {us : List Value} (h : Vals xs us) : Vals xs.reverse us.reverse := by
  induction h with
  | nil => exact .nil
  | cons r _ ih =>
    rw [List.reverse_cons, List.reverse_cons]
    exact ih.append (.cons r .nil)
theorem pe_revT {X : Cx} {e : Expr} {te : TE} {k : Nat} {p1 p2 p3 pos : Pos} (he : PE X e te) : PE X (.Subscript e (.Slice none none (some (.UnaryOp .USub (.Constant (.int 1) k p1) p2)) p3) pos) (tRevT X.K te) := by
  refine ⟨fun pins s σ H Q I h => ?_⟩
  refine Subscript_ (thn (he.run pins s σ H _ I h) fun v s1 ⟨x, H1, I1, r1, a, xs, ex, hx, q⟩ => ?_)
  subst ex
  obtain rfl : v = Value.ref a := r1
  have hst : PO X (some (.UnaryOp .USub (.Constant (.int 1) k p1) p2)) _ := po_some (pe_un un_neg pe_int)
  refine wpAny_Slice (thn (po_none.run pins s1 σ H1 (fun o H2 => o = none ∧ H2 = H1) I1 ⟨rfl, rfl⟩) fun vl s2 ⟨l, H2, I2, pl, el, e2⟩ => ?_)
  subst el
  subst e2
  refine thn (po_none.run pins s2 σ H2 (fun o H3 => o = none ∧ H3 = H2) I2 ⟨rfl, rfl⟩) fun vu s3 ⟨u, H3, I3, pu, eu, e3⟩ => ?_
  subst eu
  subst e3
  refine thn (hst.run pins s3 σ H3 (fun o H4 => o = some (-1) ∧ H4 = H3) I3 ⟨1, rfl, -1, rfl, rfl, rfl⟩) fun vs s4 ⟨o, H4, I4, ps, eo, e4⟩ => ?_
  subst eo
  subst e4
  have I5 := I4.kept (t' := s4.toks) (h' := s4.heap.push { cls := Value.type "slice", data := Data.fields #[vl, vu, vs] }) fun b ob q => Heap.get?_push_of_some _ q
  obtain ⟨its, r, ht, hz⟩ := Inv.tuple I5 hx
  have hlen := Vals.length r
  refine tail_any (IsTup.typeIs ht) slot_tuple_getitem.lookup (getItem_tuple_rev ht (Heap.IsSliceOf.new s4.1 vl vu vs) pl pu ps ?_ (by rw [List.size_toArray, ← hlen]; exact hz)) rfl
  refine ⟨.ref _, upd H4 _ (.tup xs.reverse), Inv.laid I5 (fun b ob q => Heap.get?_push_of_some _ q) (Nat.le_refl _) ⟨?_, its.reverse, vals_rev r, ?_⟩, rfl, q _ (HOk.fresh I5.hok (Nat.le_refl _))⟩
  · rw [List.length_reverse]
    exact hz
  · exact IsTup.new _ its.reverse.toArray
end RevT
set_option Elab.async false
set_option linter.all false
set_option maxRecDepth 100000
set_option maxHeartbeats 4000000
/-! the law's drawn rows -/
namespace K02
open K34 PySem PySem.Spec PyProof.Rows L2 StX RevT
/-- a drawn row -/
def RowAt (K : PySem.W.Frag) (H : Hp) (q : Addr) (ds : List PyData) : Prop := ∃ xs, SqT K H q xs ∧ xs.length = ds.length ∧ ∀ (i : Nat) (x : V) (d : PyData), xs[i]? = some x → ds[i]? = some d → Fl x d
def spRow (K : PySem.W.Frag) : Sp := fun vs H Q _ => ∃ (p c q : Addr) (ns : List Int) (t l : Int) (ps : List Pl), vs = [.ref p, .ref q] ∧ PenAt H p c ns t l ∧ t + 20 < 1000000000000 ∧ PlAt H q ps ∧ ps.length ≤ 5 ∧
  ∀ (r : Addr) (ds : List PyData) (t' l' : Int) (H' : Hp), RowAt K H' r ds → ds.length = ps.length → t' ≤ t + 20 → PenAt H' p c ns t' l' → But p H H' → Q (.ref r) H'
def NLR : List Str := ["_law_pen_here", "_law_plain", "_law_found", "_law_title", "_law_sort", "_law_must"]
theorem scRow : FnScope NLR ["_law_pen_here", "_law_plain"] (defScope sSomeRow) := ⟨rfl, rfl, rfl, by decide +kernel, rfl, by decide +kernel, by decide +kernel⟩
section
variable {P : Program} {w : World} {K : PySem.W.Frag} {mg : Str → Option Value} {base : Heap} {f fD fP fV : Addr} {fd fdD fdP fdV : FuncData}
theorem ok_row (F : FnP K "_law_some_row" sSomeRow f fd) (T : TxB mg) (TT : mg "tuple" = none) (FD : FnP K "_law_draw" sDraw fD fdD) (gD : mg "_law_draw" = some (.ref fD)) (FP : FnP K "_law_pick" sPick fP fdP) (gP : mg "_law_pick" = some (.ref fP))
    (FV : FnP K "_law_value" sValue fV fdV) (gV : mg "_law_value" = some (.ref fV)) : FnOk P w K mg base CX0 4 f fd ["_law_pen_here", "_law_plain"] (spRow K) := by
  have GD : FnOk P w K mg base CX0 1 fD fdD ["_law_pen_here", "_law_many"] spDraw := ok_draw FD T
  have bD : Binds K fdD ["_law_pen_here", "_law_many"] [] := FD.bindsN fun _ _ _ _ _ _ us hl => match us, hl with | [_, _], _ => rfl
  have kD := FD.kp
  have GV : FnOk P w K mg base CX0 3 fV fdV ["_law_pen_here", "_law_sort"] (spVal K 3 fun vs p => ∃ z, vs = [.ref p, .str z]) := ok_value FV T FD gD FP gP
  have bV : Binds K fdV ["_law_pen_here", "_law_sort"] [] := FV.bindsN fun _ _ _ _ _ _ us hl => match us, hl with | [_, _], _ => rfl
  have kV := FV.kp
  refine F.ok scRow (fun vs H Q E h => ?_) (fun cdv A outer s H vs Q E hr h => ?_)
  · obtain ⟨p, c, q, ns, t, l, ps, rfl, _⟩ := h
    rfl
  · obtain ⟨p, c, q, ns, t, l, ps, rfl, D, ht, P1, l5, k⟩ := h
    have nd := scRow.nd
    refine ⟨_, PSs.nox (pss_cons (ps_set (i := 2) nd rfl (Or.inl rfl) (pe_lst pa_nil))
      (pss_cons (ps_for PassesOwn.never rfl (pi_list (pv 1)) (pg_tup rfl (pgs_cons (pg_name (i := 3) nd rfl (Or.inl rfl)) (pgs_cons (pg_name (i := 4) nd rfl (Or.inl rfl)) (pgs_cons (pg_name (i := 5) nd rfl (Or.inl rfl)) pgs_nil))))
        (pss_one (ps_expr (pe_bm PySem.F.plainAttrs_list PySem.F.slot_list_append PySem.F.type_list_append mt_append (pv 2) (pa_cons (pe_ifExp (PW.pt (pw_or (pt_val (pv 5)) (pw_or1 (pt_cmpR op_gt (pe_call GD (hr.mono (by decide)) rfl gD kD bD .nil pass0 (pa_cons (pv 0) (pa_cons pe_int pa_nil))) pe_int (nomark _)))))
          (pe_call GV hr rfl gV kV bV .nil pass0 (pa_cons (pv 0) (pa_cons (pv 4) pa_nil))) pe_non) pa_nil)))))
      (pss_one (ps_ret (pe_callTy call_tuple_of (by rfl) TT (by decide +kernel) (pa_cons (pv 2) pa_nil)))))), ?_⟩
    refine ⟨(by show 0 ≤ sizeLine; decide), fun L hL => ?_⟩
    have eL : L ≠ p := (ne_of_none D.d hL).symm
    have eC : L ≠ c := (ne_of_none D.c hL).symm
    refine ⟨_, rfl, q, rfl, ⟨_, SqL.of ((P1.same (same_new (o := .lst []) (Same.refl H) hL)).1)⟩, ?_⟩
    refine for_list (K := K) (a := q) (xs := ps.map fun r => V.ref r.a) (fun i σ H' => ∃ (xs : List V) (ds : List PyData) (u3 u4 u5 : Option V) (t' l' : Int), σ = [some (.ref p), some (.ref q), some (.ref L), u3, u4, u5] ∧ H' L = some (.lst xs) ∧ xs.length = i ∧ ds.length = i ∧
      (∀ (i : Nat) (x : V) (d : PyData), xs[i]? = some x → ds[i]? = some d → Fl x d) ∧ PenAt H' p c ns t' l' ∧ t' ≤ t + 4 * i ∧ But p H H') ⟨[], [], _, _, _, t, l, rfl, upd_same, rfl, rfl, (fun i x d z => by simp at z), pen_put D eL eC, by omega, (But.refl p H).anew hL⟩
      (fun i σ H' _ ⟨xs, ds, u3, u4, u5, t', l', _, _, _, _, _, _, _, b⟩ => SqL.of ((P1.but D.d b).1)) ?_ ?_
    · rintro i x' σ H2 hx' ⟨xs, ds, u3, u4, u5, t2, l2, rfl, hxs, lx, ld, fl, D2, h2, b2⟩
      rw [List.getElem?_map] at hx'
      obtain ⟨r, hri, rfl⟩ := Option.map_eq_some_iff.mp hx'
      have P2 := P1.but D.d b2
      have hr := P2.2 r (List.mem_of_getElem? hri)
      have hi : i < ps.length := (List.getElem?_eq_some_iff.mp hri).1
      refine ⟨r.a, _, rfl, SqT.of hr.1, rfl, _, _, rfl, _, _, rfl, _, _, rfl, rfl, ?_⟩
      refine ⟨_, rfl, .inl ⟨rfl, xs, SqL.of hxs⟩, ?_⟩
      generalize r.b = mu
      have fin : ∀ (v : V) (d : PyData) (t3 l3 : Int) (H3 : Hp), Fl v d → t3 ≤ t2 + 4 → PenAt H3 p c ns t3 l3 → But p H2 H3 → ∃ (l : Addr) (ys : List V) (y : V), V.ref L = .ref l ∧ [v] = [y] ∧ H3 l = some (.lst ys) ∧ ys.length < sizeLine ∧
          (∃ (xs : List V) (ds : List PyData) (u3 u4 u5 : Option V) (t' l' : Int), [some (V.ref p), some (.ref q), some (.ref L), some (.str r.n), some (.str r.k), some (.bl mu)] = [some (.ref p), some (.ref q), some (.ref L), u3, u4, u5] ∧ (upd H3 l (.lst (ys ++ [y]))) L = some (.lst xs) ∧ xs.length = i + 1 ∧ ds.length = i + 1 ∧
            (∀ (i : Nat) (x : V) (d : PyData), xs[i]? = some x → ds[i]? = some d → Fl x d) ∧ PenAt (upd H3 l (.lst (ys ++ [y]))) p c ns t' l' ∧ t' ≤ t + 4 * ((i + 1 : Nat) : Int) ∧ But p H (upd H3 l (.lst (ys ++ [y])))) := by
        intro v d t3 l3 H3 hf h3 D3 b3
        refine ⟨L, xs, v, rfl, rfl, b3 _ _ eL hxs, by rw [lx, sizeLine_eq]; omega, xs ++ [v], ds ++ [d], _, _, _, t3, l3, rfl, upd_same, by rw [List.length_append, lx]; rfl, by rw [List.length_append, ld]; rfl, ?_, pen_put D3 eL eC, by push_cast; omega, but_put (b2.trans b3) hL⟩
        intro j x d' h1 h2
        by_cases hj : j < i
        · rw [List.getElem?_append_left (by omega)] at h1 h2
          exact fl j x d' h1 h2
        · rw [List.getElem?_append_right (by omega)] at h1 h2
          rw [lx] at h1
          rw [ld] at h2
          have ej : j - i = 0 := by
            have : j - i < [v].length := (List.getElem?_eq_some_iff.mp h1).1
            simp only [List.length_singleton] at this
            omega
          rw [ej] at h1 h2
          cases h1
          cases h2
          exact hf
      refine ⟨_, rfl, mu, rfl, ?_⟩
      have call : (∀ (t3 l3 : Int) (H3 : Hp), t3 ≤ t2 + 1 → PenAt H3 p c ns t3 l3 → But p H2 H3 → spVal K 3 (fun vs p => ∃ z, vs = [.ref p, .str z]) [.ref p, .str r.k] H3 (fun v H4 => ∃ (l : Addr) (ys : List V) (y : V), V.ref L = .ref l ∧ [v] = [y] ∧ H4 l = some (.lst ys) ∧ ys.length < sizeLine ∧ _) E0) := fun t3 l3 H3 h3 D3 b3 =>
        ⟨p, c, ns, t3, l3, ⟨r.k, rfl⟩, D3, by omega, fun v d t4 l4 H4 hf h4 D4 b4 => fin v d t4 l4 H4 hf (by omega) D4 (b3.trans b4)⟩
      cases mu with
      | true =>
        refine iteT (iteT ?_)
        exact ⟨_, rfl, _, rfl, call t2 l2 H2 (by omega) D2 (But.refl p H2)⟩
      | false =>
        refine iteF ?_
        refine ⟨_, rfl, p, c, ns, t2, l2, 4, rfl, D2, by omega, by decide, by decide, fun j t3 l3 H3 j0 j1 h3 D3 b3 => ?_⟩
        refine ⟨_, _, rfl, rfl, _, rfl, ?_⟩
        refine ite2 (fun _ => ?_) (fun _ => ?_)
        · exact ⟨_, rfl, _, rfl, call t3 l3 H3 (by omega) D3 b3⟩
        · exact fin .non .none t3 l3 H3 (.inr (.inr ⟨rfl, rfl⟩)) (by omega) D3 b3
    · rintro σ H2 ⟨xs, ds, u3, u4, u5, t2, l2, rfl, hxs, lx, ld, fl, D2, h2, b2⟩
      rw [List.length_map] at lx ld h2
      refine ⟨_, rfl, L, xs, rfl, .inl ⟨SqL.of hxs, fun r hr => ?_⟩⟩
      exact k r ds t2 l2 _ ⟨xs, SqT.of upd_same, by omega, fl⟩ ld (by omega) (pen_new D2 hr) (b2.anew hr)
end
end K02
set_option Elab.async false
set_option linter.all false
set_option maxRecDepth 100000
set_option maxHeartbeats 4000000
/-! the law's bent rows -/
namespace K02
open K34 PySem PySem.Spec PyProof.Rows L2 StX RevT
/-- an item that may be asked for as a row -/
def Itm (K : PySem.W.Frag) (H : Hp) (v : V) : Prop := (∃ (q : Addr) (xs : List V), v = .ref q ∧ SqT K H q xs ∧ ∀ x ∈ xs, ∃ d, Th K H x d ∧ sOk d = true) ∨
  (∃ (q : Addr) (l : List V), v = .ref q ∧ H q = some (.lst l)) ∨ ∃ d, Th K H v d ∧ aOk d = true
theorem sqT_but {K : PySem.W.Frag} {H H' : Hp} {p q c : Addr} {t l : Int} {xs : List V} (hp : H p = some (.dK (penK c t l))) (b : But p H H') (h : SqT K H q xs) : SqT K H' q xs := by
  rcases h with (h | ⟨o, h⟩) | h
  · exact .inl (.inl (b _ _ (ne_of h hp (by intro z; cases z)) h))
  · exact .inl (.inr ⟨o, b _ _ (ne_of h hp (by intro z; cases z)) h⟩)
  · exact .inr h
theorem Itm.but {K : PySem.W.Frag} {H H' : Hp} {p c : Addr} {t l : Int} {v : V} (hp : H p = some (.dK (penK c t l))) (b : But p H H') (h : Itm K H v) : Itm K H' v := by
  rcases h with ⟨q, xs, rfl, h1, h3⟩ | ⟨q, l', rfl, h⟩ | ⟨d, h, o⟩
  · refine .inl ⟨q, xs, rfl, sqT_but hp b h1, fun x hx => ?_⟩
    obtain ⟨d, h, o⟩ := h3 x hx
    exact ⟨d, th_but hp b h, o⟩
  · exact .inr (.inl ⟨q, l', rfl, b _ _ (ne_of h hp (by intro z; cases z)) h⟩)
  · exact .inr (.inr ⟨d, th_but hp b h, o⟩)
theorem Itm.same {K : PySem.W.Frag} {H H' : Hp} {v : V} (s : Same H H') (h : Itm K H v) : Itm K H' v := by
  rcases h with ⟨q, xs, rfl, h1, h3⟩ | ⟨q, l', rfl, h⟩ | ⟨d, h, o⟩
  · refine .inl ⟨q, xs, rfl, sqT_same h1 s, fun x hx => ?_⟩
    obtain ⟨d, h, o⟩ := h3 x hx
    exact ⟨d, h.same s, o⟩
  · exact .inr (.inl ⟨q, l', rfl, s _ _ h⟩)
  · exact .inr (.inr ⟨d, h.same s, o⟩)
theorem choose_ds {R : V → PyData → Prop} : ∀ xs : List V, (∀ x ∈ xs, ∃ d, R x d) → ∃ ds : List PyData, xs.length = ds.length ∧ ∀ (i : Nat) (x : V) (d : PyData), xs[i]? = some x → ds[i]? = some d → R x d
  | [], _ => ⟨[], rfl, fun i x d e _ => by simp at e⟩
  | x :: r, h => by
    obtain ⟨d, hd⟩ := h x List.mem_cons_self
    obtain ⟨ds, e, hds⟩ := choose_ds r fun y hy => h y (List.mem_cons_of_mem _ hy)
    refine ⟨d :: ds, by rw [List.length_cons, List.length_cons, e], fun i x' d' e1 e2 => ?_⟩
    cases i with
    | zero =>
      cases e1
      cases e2
      exact hd
    | succ i => exact hds i x' d' e1 e2
theorem catA {K : PySem.W.Frag} {H : Hp} {a b : Addr} {x1 x2 : List V} {Q : VK} (h1 : SqT K H a x1) (h2 : SqT K H b x2) (sz : x1.length + x2.length ≤ sizeLine) (q : ∀ c H', Same H H' → SqT K H' c (x1 ++ x2) → Q (.ref c) H') : rCatA K (.ref a) (.ref b) H Q :=
  ⟨a, b, x1, x2, rfl, rfl, h1, h2, sz, fun e => q b H (Same.refl H) (by rw [e]; exact h2), fun _ e => q a H (Same.refl H) (by rw [e, List.append_nil]; exact h1), fun _ _ p hp => q p _ (same_new (Same.refl H) hp) (SqT.of upd_same)⟩
theorem cutV_full {xs : List V} {lo hi : Option Int} (h : HT.sIx xs.length 0 lo = 0 ∧ HT.sIx xs.length xs.length hi = xs.length) : cutV xs lo hi = xs := by
  unfold cutV
  rw [h.1, h.2, List.drop_zero, Nat.sub_zero, List.take_length]
theorem slA {K : PySem.W.Frag} {H : Hp} {a : Addr} {xs : List V} {lo hi : Option Int} {Q : VK} (h : SqT K H a xs) (q : ∀ c H', Same H H' → SqT K H' c (cutV xs lo hi) → Q (.ref c) H') : rSlA K (.ref a) lo hi H Q :=
  ⟨a, xs, rfl, h, fun e => q a H (Same.refl H) (by rw [cutV_full e]; exact h), fun _ p hp => q p _ (same_new (Same.refl H) hp) (SqT.of upd_same)⟩
theorem np {σ : L2.St} {H : Hp} {Q : Option Int → Hp → Prop} (h : Q none H) : tNoPart σ H Q := by
  unfold tNoPart
  exact h
theorem cut_mem {xs : List V} {lo hi : Option Int} {x : V} (h : x ∈ cutV xs lo hi) : x ∈ xs := List.mem_of_mem_drop (List.mem_of_mem_take h)
theorem cut_len (xs : List V) (lo hi : Option Int) : (cutV xs lo hi).length ≤ xs.length := by
  unfold cutV
  rw [List.length_take, List.length_drop]
  omega
theorem kit_tl {K : PySem.W.Frag} {n : String} (h : kitB n "tuple" = some false) : PySem.W.kitOne K (.type n) (.type "tuple") = some false := kit_ty h
theorem dpAll_at {K : PySem.W.Frag} {H : Hp} : ∀ {vs : List V} {ds : List PyData}, DpAll K H vs ds → vs.length = ds.length ∧ ∀ (i : Nat) (x : V) (d : PyData), vs[i]? = some x → ds[i]? = some d → Dp K H x d
  | _, _, .nil => ⟨rfl, fun i x d e _ => by simp at e⟩
  | _, _, .cons h t => by
    obtain ⟨e, r⟩ := dpAll_at t
    refine ⟨by rw [List.length_cons, List.length_cons, e], fun i x d e1 e2 => ?_⟩
    cases i with
    | zero =>
      cases e1
      cases e2
      exact h
    | succ i => exact r i x d e1 e2
theorem nd_at : ∀ {ds : List PyData} {d : PyData}, PyData.hasDictAll ds = false → d ∈ ds → d.hasDict = false
  | d0 :: r, d, h, m => by
    have h : (PyData.hasDict d0 || PyData.hasDictAll r) = false := h
    obtain ⟨h1, h2⟩ := Bool.or_eq_false_iff.mp h
    rcases List.mem_cons.mp m with rfl | m
    · exact h1
    · exact nd_at h2 m
theorem Itm.thg {K : PySem.W.Frag} {H : Hp} {v : V} (h : Itm K H v) : ∃ o, ∀ H', Same H H' → Thg K H' v o := by
  rcases h with ⟨q, xs, rfl, h1, h3⟩ | ⟨q, l', rfl, h⟩ | ⟨d, h, o⟩
  · obtain ⟨ds, e, hds⟩ := choose_ds xs h3
    exact ⟨_, fun H' s' => .tup (sqT_same h1 s') e fun i x d e1 e2 => ⟨(hds i x d e1 e2).1.same s', (hds i x d e1 e2).2⟩⟩
  · exact ⟨_, fun H' s' => .non (.base (.lst (s' _ _ h))) (kit_tl (by decide +kernel))⟩
  · by_cases e : ∃ ds, d = .tuple ds
    · obtain ⟨ds, rfl⟩ := e
      cases h with
      | dp h n =>
        cases h with
        | @tup a xs _ hs hall =>
          obtain ⟨le, at_⟩ := dpAll_at hall
          have tk : ds.all sOk = true := (Bool.and_eq_true_iff.mp o).2
          exact ⟨_, fun H' s' => .tup (sqT_same hs s') le fun i x d e1 e2 => ⟨Th.same (.dp (at_ i x d e1 e2) (nd_at n (List.mem_of_getElem? e2))) s', List.all_eq_true.mp tk d (List.mem_of_getElem? e2)⟩⟩
    · refine ⟨_, fun H' s' => .non (th_ty (h.same s')) (kit_tl ?_)⟩
      cases d with
      | tuple ds => exact absurd ⟨ds, rfl⟩ e
      | none => decide +kernel
      | bool b => exact (by decide +kernel : kitB "bool" "tuple" = some false)
      | int i => exact (by decide +kernel : kitB "int" "tuple" = some false)
      | str x => exact (by decide +kernel : kitB "str" "tuple" = some false)
      | list x => exact (by decide +kernel : kitB "list" "tuple" = some false)
      | dict x => exact (by decide +kernel : kitB "dict" "tuple" = some false)
def spBent (K : PySem.W.Frag) : Sp := fun vs H Q _ => ∃ (p c r : Addr) (ns : List Int) (t l : Int) (ds : List PyData), vs = [.ref p, .ref r] ∧ PenAt H p c ns t l ∧ t + 6 < 1000000000000 ∧ RowAt K H r ds ∧ 1 ≤ ds.length ∧ ds.length ≤ 5 ∧
  ∀ (v : V) (t' l' : Int) (H' : Hp), Itm K H' v → t' ≤ t + 6 → PenAt H' p c ns t' l' → But p H H' → Q v H'
def NLB : List Str := ["_law_pen_here", "_law_row", "_law_at", "_law_odd", "_law_other"]
theorem scBent : FnScope NLB ["_law_pen_here", "_law_row"] (defScope sBent) := ⟨rfl, rfl, rfl, by decide +kernel, rfl, by decide +kernel, by decide +kernel⟩
theorem RowAt.same {K : PySem.W.Frag} {H H' : Hp} {q : Addr} {ds : List PyData} (h : RowAt K H q ds) (s : Same H H') : RowAt K H' q ds := by
  obtain ⟨xs, h1, h2⟩ := h
  exact ⟨xs, sqT_same h1 s, h2⟩
theorem aok_s {d : PyData} (h : aOk d = true) : sOk d = true := (Bool.and_eq_true_iff.mp (Bool.and_eq_true_iff.mp (Bool.and_eq_true_iff.mp h).1).1).2
section
variable {P : Program} {w : World} {K : PySem.W.Frag} {mg : Str → Option Value} {base : Heap} {f fD fP fA : Addr} {fd fdD fdP fdA : FuncData}
theorem ok_bent (F : FnP K "_law_bent_row" sBent f fd) (T : TxB mg) (TL : mg "list" = none) (FD : FnP K "_law_draw" sDraw fD fdD) (gD : mg "_law_draw" = some (.ref fD)) (FP : FnP K "_law_pick" sPick fP fdP) (gP : mg "_law_pick" = some (.ref fP))
    (FA : FnP K "_law_any_value" sAny fA fdA) (gA : mg "_law_any_value" = some (.ref fA)) : FnOk P w K mg base CX0 4 f fd ["_law_pen_here", "_law_row"] (spBent K) := by
  have GD : FnOk P w K mg base CX0 1 fD fdD ["_law_pen_here", "_law_many"] spDraw := ok_draw FD T
  have bD : Binds K fdD ["_law_pen_here", "_law_many"] [] := FD.bindsN fun _ _ _ _ _ _ us hl => match us, hl with | [_, _], _ => rfl
  have kD := FD.kp
  have GP : FnOk P w K mg base CX0 2 fP fdP ["_law_pen_here", "_law_options"] (spPick K) := ok_pick FP T FD gD
  have bP : Binds K fdP ["_law_pen_here", "_law_options"] [] := FP.bindsN fun _ _ _ _ _ _ us hl => match us, hl with | [_, _], _ => rfl
  have kP := FP.kp
  have GA : FnOk P w K mg base CX0 3 fA fdA ["_law_pen_here"] (spAny K) := ok_any FA T FD gD FP gP
  have bA : Binds K fdA ["_law_pen_here"] [] := FA.bindsN fun _ _ _ _ _ _ us hl => match us, hl with | [_], _ => rfl
  have kA := FA.kp
  refine F.ok scBent (fun vs H Q E h => ?_) (fun cdv A outer s H vs Q E hr h => ?_)
  · obtain ⟨p, c, r, ns, t, l, ds, rfl, _⟩ := h
    rfl
  · obtain ⟨p, c, r, ns, t, l, ds, rfl, D, ht, hrow, l1, l5, k⟩ := h
    have nd := scBent.nd
    refine ⟨_, PSs.nox (pss_cons (ps_set (i := 2) nd rfl (Or.inl rfl) (pe_call GD (hr.mono (by decide)) rfl gD kD bD .nil pass0 (pa_cons (pv 0) (pa_cons (pe_callB call_len_seq (by rfl) T.len PySem.boot_len (pa_cons (pv 1) pa_nil)) pa_nil))))
      (pss_cons (ps_set (i := 3) nd rfl (Or.inl rfl) (pe_call GP (hr.mono (by decide)) rfl gP kP bP .nil pass0 (pa_cons (pv 0) (pa_cons (pe_lst (pa_cons pe_non (pa_cons pe_bl (pa_cons pe_str (pa_cons pe_int (pa_cons (pe_call GA hr rfl gA kA bA .nil pass0 (pa_cons (pv 0) pa_nil)) (pa_cons (pe_op op_add (pe_op op_pow pe_int pe_int) pe_int) pa_nil))))))) pa_nil))))
      (pss_cons (ps_set (i := 4) nd rfl (Or.inl rfl) (pe_op op_catA (pe_op op_catA (pe_slice sl_tupA (pv 1) po_none (po_some (pv 2))) (pe_tup (pa_cons (pv 3) pa_nil))) (pe_slice sl_tupA (pv 1) (po_some (pe_op op_add (pv 2) pe_int)) po_none)))
      (pss_one (ps_ret (pe_call GP (hr.mono (by decide)) rfl gP kP bP .nil pass0 (pa_cons (pv 0) (pa_cons (pe_lst (pa_cons (pv 4) (pa_cons (pv 4) (pa_cons (pe_callTy call_list_of (by rfl) TL (by decide +kernel) (pa_cons (pv 1) pa_nil)) (pa_cons (pe_op op_catA (pv 1) (pe_tup (pa_cons pe_non pa_nil)))
        (pa_cons (pe_slice sl_tupA (pv 1) (po_some pe_int) po_none) (pa_cons (pe_revT (pv 1)) (pa_cons (pe_call GA hr rfl gA kA bA .nil pass0 (pa_cons (pv 0) pa_nil)) pa_nil)))))))) pa_nil)))))))), ?_⟩
    obtain ⟨xs, hq, lx, fl⟩ := hrow
    refine ⟨_, rfl, _, rfl, r, xs, rfl, .inr hq, p, c, ns, t, l, _, rfl, D, by omega, by omega, by omega, fun a t1 l1' H1 a0 a1 h1 D1 b1 => ?_⟩
    have q1 := sqT_but D.d b1 hq
    -- odd
    refine ⟨_, rfl, _, rfl, p, c, ns, t1, l1', rfl, D1, by omega, fun va da t2 l2 H2 tha oka h2 D2 b2 => ?_⟩
    have q2 := sqT_but D1.d b2 q1
    refine ⟨_, _, rfl, rfl, ⟨by decide, by decide, by decide⟩, _, _, rfl, rfl, (by show 6 ≤ sizeLine; decide), fun q3 n3 => ?_⟩
    refine ⟨p, c, q3, ns, t2, l2, _, rfl, pen_new D2 n3, by omega, SqL.of upd_same, by simp, (by show 6 < 1000000; decide), fun odd t4 l4 H4 hx h4 D4 b4 => ?_⟩
    have b24 : But p H2 H4 := (But.of (same_new (Same.refl H2) n3)).trans b4
    obtain ⟨dO, hO, sO⟩ : ∃ dO, Th K H4 odd dO ∧ sOk dO = true := by
      simp only [List.mem_cons, List.not_mem_nil, or_false] at hx
      rcases hx with rfl | rfl | rfl | rfl | rfl | rfl
      · exact ⟨.none, .dp .non rfl, rfl⟩
      · exact ⟨.bool true, .dp (.bl _) rfl, rfl⟩
      · exact ⟨.str "a", .dp (.str _) rfl, by decide +kernel⟩
      · exact ⟨.int 1, .dp (.int _) rfl, rfl⟩
      · exact ⟨da, th_but D2.d b24 tha, aok_s oka⟩
      · exact ⟨.int _, .dp (.int _) rfl, rfl⟩
    have q4 := sqT_but D2.d b24 q2
    have bH4 : But p H H4 := (b1.trans b2).trans b24
    have lxs : xs.length ≤ 5 := by omega
    have mem : ∀ x ∈ xs, ∀ H' : Hp, ∃ d, Th K H' x d ∧ sOk d = true := fun x hx H' => by
      obtain ⟨i, hi, e⟩ := List.mem_iff_getElem.mp hx
      exact ⟨_, (fl i x _ (by rw [List.getElem?_eq_getElem hi, e]) (List.getElem?_eq_getElem (by omega))).th⟩
    clear q1 q2 b24 hx tha oka n3 hq b1 b2 b4 D1 D2
    -- other
    refine ⟨_, rfl, _, rfl, _, rfl, slA q4 fun c5 H5 s5 t5 => ⟨_, rfl, (by show 1 ≤ sizeLine; decide), fun p6 n6 => ?_⟩⟩
    have s6 := same_new (o := .tup [odd]) s5 n6
    have t6 : SqT K (upd H5 p6 (.tup [odd])) p6 [odd] := SqT.of upd_same
    have t5 := sqT_same t5 (same_new (o := .tup [odd]) (Same.refl H5) n6)
    generalize upd H5 p6 (.tup [odd]) = H6 at s6 t6 t5 ⊢
    have l5' := cut_len xs none (some a)
    refine catA t5 t6 (by show _ + 1 ≤ sizeLine; rw [sizeLine_eq]; omega) fun c7 H7 s7 t7 => ?_
    have s7 := s6.trans s7
    refine ⟨_, rfl, _, rfl, _, _, rfl, rfl, _, rfl, np (slA (sqT_same q4 s7) fun c8 H8 s8 t8 => ?_)⟩
    have t7 := sqT_same t7 s8
    have s8 := s7.trans s8
    have l8 := cut_len xs (some (a + 1)) none
    have lt7 : (cutV xs none (some a) ++ [odd]).length ≤ 6 := by
      rw [List.length_append]
      show _ + 1 ≤ 6
      omega
    refine catA t7 t8 (by rw [sizeLine_eq]; omega) fun c9 H9 s9 t9 => ?_
    have s9 := s8.trans s9
    have m9 : ∀ x ∈ cutV xs none (some a) ++ [odd] ++ cutV xs (some (a + 1)) none, ∃ d, Th K H9 x d ∧ sOk d = true := fun x hx => by
      rcases List.mem_append.mp hx with z | z
      · rcases List.mem_append.mp z with z | z
        · exact mem x (cut_mem z) H9
        · rw [List.mem_singleton.mp z]
          exact ⟨dO, hO.same s9, sO⟩
      · exact mem x (cut_mem z) H9
    have iO : Itm K H9 (.ref c9) := .inl ⟨c9, _, rfl, t9, m9⟩
    have q9 := sqT_same q4 s9
    have D9 := D4.same s9
    have b9 := bH4.trans (But.of s9)
    clear s5 s6 t5 t6 s7 t7 s8 t8 m9 t9 n6 hO D4 bH4 q4 s9
    -- the pick
    refine ⟨_, rfl, _, rfl, _, rfl, _, rfl, r, xs, rfl, .inr q9, fun p10 n10 => ?_⟩
    have s10 := same_new (o := .lst xs) (Same.refl H9) n10
    have f10 : (upd H9 p10 (.lst xs)) p10 = some (.lst xs) := upd_same
    generalize upd H9 p10 (.lst xs) = H10 at s10 f10 ⊢
    refine ⟨_, rfl, (by show 1 ≤ sizeLine; decide), fun p11 n11 => ?_⟩
    have s11 := same_new (o := .tup [.non]) s10 n11
    have t11 : SqT K (upd H10 p11 (.tup [.non])) p11 [.non] := SqT.of upd_same
    have f11 := up (o := .tup [.non]) f10 n11
    generalize upd H10 p11 (.tup [.non]) = H11 at s11 t11 f11 ⊢
    refine catA (sqT_same q9 s11) t11 (by show _ + 1 ≤ sizeLine; rw [sizeLine_eq]; omega) fun c12 H12 s12 t12 => ?_
    have f12 := s12 _ _ f11
    have s12 := s11.trans s12
    have i12 : Itm K H12 (.ref c12) := .inl ⟨c12, _, rfl, t12, fun x hx => by
      rcases List.mem_append.mp hx with z | z
      · exact mem x z H12
      · rw [List.mem_singleton.mp z]
        exact ⟨.none, .dp .non rfl, rfl⟩⟩
    refine ⟨_, rfl, _, rfl, np (slA (sqT_same q9 s12) fun c13 H13 s13 t13 => ?_)⟩
    have f13 := s13 _ _ f12
    have i13 : Itm K H13 (.ref c13) := .inl ⟨c13, _, rfl, t13, fun x hx => mem x (cut_mem hx) H13⟩
    have i12 := i12.same s13
    have s13 := s12.trans s13
    refine ⟨_, rfl, r, xs, rfl, sqT_same q9 s13, fun p14 n14 => ?_⟩
    have s14 := same_new (o := .tup xs.reverse) (Same.refl H13) n14
    have t14 : SqT K (upd H13 p14 (.tup xs.reverse)) p14 xs.reverse := SqT.of upd_same
    generalize upd H13 p14 (.tup xs.reverse) = H14 at s14 t14 ⊢
    have f14 := s14 _ _ f13
    have i12 := i12.same s14
    have i13 := i13.same s14
    have i14 : Itm K H14 (.ref p14) := .inl ⟨p14, _, rfl, t14, fun x hx => mem x (List.mem_reverse.mp hx) H14⟩
    have s14 := s13.trans s14
    have iO := iO.same s14
    have D14 := D9.same s14
    have b14 := b9.trans (But.of s14)
    clear s10 f10 s11 t11 f11 s12 t12 f12 s13 t13 f13 t14 n10 n11 n14 D9 b9 q9 s14 mem fl
    refine ⟨_, rfl, p, c, ns, t4, l4, rfl, D14, by omega, fun va da t15 l15 H15 tha oka h15 D15 b15 => ?_⟩
    have iO := iO.but D14.d b15
    have i12 := i12.but D14.d b15
    have i13 := i13.but D14.d b15
    have i14 := i14.but D14.d b15
    have iL : Itm K H15 (.ref p10) := .inr (.inl ⟨p10, xs, rfl, b15 _ _ (ne_of f14 D14.d (by intro z; cases z)) f14⟩)
    have iA : Itm K H15 va := .inr (.inr ⟨da, tha, oka⟩)
    refine ⟨(by show 7 ≤ sizeLine; decide), fun q3 n3 => ?_⟩
    refine ⟨p, c, q3, ns, t15, l15, _, rfl, pen_new D15 n3, by omega, SqL.of upd_same, by simp, (by show 7 < 1000000; decide), fun v t' l' H' hx h' D' b' => ?_⟩
    have bX : But p H15 H' := (But.of (same_new (Same.refl H15) n3)).trans b'
    refine k v t' l' H' (Itm.but D15.d bX ?_) (by omega) D' ((b14.trans b15).trans bX)
    simp only [List.mem_cons, List.not_mem_nil, or_false] at hx
    rcases hx with rfl | rfl | rfl | rfl | rfl | rfl | rfl
    · exact iO
    · exact iO
    · exact iL
    · exact i12
    · exact i13
    · exact i14
    · exact iA
end
end K02
set_option Elab.async false
set_option linter.all false
set_option maxRecDepth 100000
set_option maxHeartbeats 4000000
/-! != of two lists of equal items -/
namespace LstN
open PySem PySem.SeqAt
open AutoSeq1 (wpAny_loadPart')
open MeetsSeq MeetsSeq2 MeetsSeq3 SeqRoads2
section
variable {prog : Program} {w : World} {A : Around} {R : Result → Shared → Prop}
def ListJ (prog : Program) (w : World) (A : Around) (E : Value → Shared → Prop) (l b : Addr) (N : Nat) (I : Nat → Shared → Prop) : Prop := ∀ i s, I i s → ∃ (items items2 : Array Value) (n n2 : Nat) (d1 d2 : Option Addr) (c1 c2 : Array (Option Value)), s.heap.get? l = some { cls := .type "list", dict := d1, data := .seq items n, slots := c1 } ∧
  s.heap.get? b = some { cls := .type "list", dict := d2, data := .seq items2 n2, slots := c2 } ∧ items.size = N ∧ items2.size = N ∧ ∀ (h1 : i < items.size) (h2 : i < items2.size), wpAny (model prog w) A.in1 (eqBool items[i] items2[i]) (fun r s' => r = true ∧ I (i + 1) s') E s
theorem ne_loop (l b : Addr) (N : Nat) (I : Nat → Shared → Prop) (hl : ListJ prog w A (fun e s' => R (.error e) s') l b N I) (fin : ∀ s, I N s → R (.ok (.ret (.bool false))) s) :
    ∀ (k i : Nat), N - i = k → i ≤ N → ∀ s, I i s → wpAny (model prog w) A.in1 (Builtin.«list.__eq__.loop» ⟨[.ref l, .ref b, rawInt i, rawInt 3], []⟩) (GQ.FinOf prog w A R) (fun e s' => R (.error e) s') s := by
  intro k
  induction k with
  | zero =>
    intro i hk hi s h
    obtain ⟨items, items2, n, n2, d1, d2, c1, c2, hl1, hb1, hs1, hs2, _⟩ := hl i s h
    have ei : i = N := by omega
    subst ei
    have hR := fin s h
    obtain ⟨hp, g, d, tk, os⟩ := s
    have hi1 : items[((i : Nat) : Int).toNat]? = none := by simp [hs1]
    have hi2 : items2[((i : Nat) : Int).toNat]? = none := by simp [hs2]
    wp_walk using wpAny_load' hl1, wpAny_load' hb1
    rw [hi1, hi2]
    wp_walk using wpAny_load' hl1, wpAny_load' hb1
    show R (.ok (.ret (.bool (items.size != items2.size)))) _
    rw [hs1, hs2, bne_self_eq_false]
    exact hR
  | succ k ih =>
    intro i hk hi s h
    obtain ⟨items, items2, n, n2, d1, d2, c1, c2, hl1, hb1, hs1, hs2, turn⟩ := hl i s h
    have hlt : i < items.size := by omega
    have hlt2 : i < items2.size := by omega
    have ht := turn hlt hlt2
    obtain ⟨hp, g, d, tk, os⟩ := s
    have hi1 : items[((i : Nat) : Int).toNat]? = some items[i] := by simp [hlt]
    have hi2 : items2[((i : Nat) : Int).toNat]? = some items2[i] := by simp [hlt2]
    wp_walk using wpAny_load' hl1, wpAny_load' hb1
    rw [hi1, hi2]
    refine wpAny_bind (wpAny_mono ht (fun r s' ⟨hr, hI⟩ => ?_) fun _ _ x => x)
    subst hr
    refine wpAny_ite_true rfl ?_
    have hrec := ih (i + 1) (by omega) (by omega) s' hI
    have hc : ((i : Nat) : Int) + 1 = ((i + 1 : Nat) : Int) := by push_cast; rfl
    rw [hc]
    refine wpAny_pure ?_
    refine ⟨plainId_quiet plain_eq_loop _, codeAny_builtin entry_eq_loop ?_⟩
    rw [Around.under_plainId plain_eq_loop]
    exact hrec
theorem list_ne (l b : Addr) (N : Nat) (I : Nat → Shared → Prop) (hl : ListJ prog w A (fun e s' => R (.error e) s') l b N I) (fin : ∀ s, I N s → R (.ok (.ret (.bool false))) s) {s : Shared} (h : I 0 s) :
    wpAny (model prog w) A.in1 (Builtin.«list.__ne__» ⟨[.ref l, .ref b], []⟩) (GQ.FinOf prog w A R) (fun e s' => R (.error e) s') s := by
  obtain ⟨items, items2, n, n2, d1, d2, c1, c2, hl1, hb1, hs1, hs2, _⟩ := hl 0 s h
  have hrec := ne_loop l b N I hl fin (N - 0) 0 rfl (Nat.zero_le N) s h
  have f3 := AutoSeq1.sub_list_list
  have hne : (items.size != items2.size) = false := by rw [hs1, hs2, bne_self_eq_false]
  obtain ⟨hp, g, d, tk, os⟩ := s
  wp_walk using wpAny_loadPart' hb1, wpAny_load' hl1, wpAny_load' hb1
  refine ⟨plainId_quiet plain_eq_loop _, codeAny_builtin entry_eq_loop ?_⟩
  rw [Around.under_plainId plain_eq_loop]
  exact hrec
theorem rc_ne {E : Value → Shared → Prop} {s : Shared} {l b : Addr} {N : Nat} {Q : Value → Shared → Prop} (hu : A.units < cLine) (I : Nat → Shared → Prop) (hl : ListJ prog w A E l b N I) (fin : ∀ s, I N s → Q (.bool false) s) (h : I 0 s) :
    wpAny (model prog w) A (richCompare .NotEq (.ref l) (.ref b)) Q E s := by
  obtain ⟨items, items2, n, n2, d1, d2, c1, c2, hl1, hb1, hs1, hs2, _⟩ := hl 0 s h
  exact wpAny_richCompare_same_room (op := .NotEq) ⟨_, hl1, rfl⟩ ⟨_, hb1, rfl⟩ F.slot_list_ne (GQ.call_here F.slot_list_ne ⟨_, hl1, rfl⟩ F.entry_list_ne (F.args_list_ne_2 _ _) (list_ne (R := wants (fun v s' => v ≠ .notImplemented ∧ Q v s') E) l b N I hl (fun s' q => ⟨(fun z => nomatch z), fin s' q⟩) h)) hu
end
end LstN
set_option Elab.async false
set_option linter.all false
set_option maxRecDepth 100000
set_option maxHeartbeats 4000000
/-! != of two lists of equal columns -/
namespace K02
open K34 PySem PySem.Spec PyProof.Rows L2
def rNeLc (K : PySem.W.Frag) : R2 := fun x y H Q => ∃ (a b : Addr) (cs cs2 : List Addr) (rs : List Rw), x = .ref a ∧ y = .ref b ∧ H a = some (.lst (cs.map V.ref)) ∧ H b = some (.lst (cs2.map V.ref)) ∧ CsAt K H cs rs ∧ CsAt K H cs2 rs ∧ Q (.bl false) H
section
variable {X : Cx} {f : Addr} {fd : FuncData}
theorem op_neLc (T : ColE X.prog X.w X.K X.mg X.base f fd) (hr : Room 2 X.A) : OpR X (compareOp .NotEq) (rNeLc X.K) := by
  intro pins s σ H x y v u Q I rx ry hq
  obtain ⟨a, b, cs, cs2, rs, rfl, rfl, ha, hb, h1, h2, q⟩ := hq
  cases rx
  cases ry
  show wpAny (model X.prog X.w) X.A (richCompare .NotEq (.ref a) (.ref b)) (EP X pins σ Q) X.xe s
  refine LstN.rc_ne hr.units0 (N := rs.length) (fun i s' => Inv X pins σ H s') ?_ (fun s' I' => ⟨.bl false, H, I', rfl, q⟩) I
  intro i s' I'
  obtain ⟨its, r, ht, _⟩ := I'.list (SqL.of ha)
  obtain ⟨its2, r2, ht2, _⟩ := I'.list (SqL.of hb)
  obtain ⟨⟨k1, d1, u1, c1⟩, n, o1, e1, g1, f1⟩ := ht
  obtain ⟨⟨k2, d2, u2, c2⟩, n2, o2, e2, g2, f2⟩ := ht2
  simp only at e1 f1 e2 f2
  subst e1 f1 e2 f2
  have l1 : its.length = rs.length := by rw [← r.length, List.length_map, h1.1]
  have l2 : its2.length = rs.length := by rw [← r2.length, List.length_map, h2.1]
  refine ⟨its.toArray, its2.toArray, n, n2, d1, d2, c1, c2, o1, o2, by rw [List.size_toArray, l1], by rw [List.size_toArray, l2], fun k1 k2 => ?_⟩
  have k1 : i < its.length := by simpa using k1
  have k2 : i < its2.length := by simpa using k2
  have z1 : i < cs.length := by rw [h1.1]; omega
  have z2 : i < cs2.length := by rw [h2.1]; omega
  have g1 : its[i]? = some (.ref cs[i]) := by
    obtain ⟨w, hw, rw'⟩ := r.get (i := i) (x := .ref cs[i]) (by rw [List.getElem?_map, List.getElem?_eq_getElem z1]; rfl)
    cases rw'
    exact hw
  have g2 : its2[i]? = some (.ref cs2[i]) := by
    obtain ⟨w, hw, rw'⟩ := r2.get (i := i) (x := .ref cs2[i]) (by rw [List.getElem?_map, List.getElem?_eq_getElem z2]; rfl)
    cases rw'
    exact hw
  have g1' : its.toArray[i] = .ref cs[i] := by
    rw [List.getElem?_eq_getElem k1] at g1
    simpa using Option.some.inj g1
  have g2' : its2.toArray[i] = .ref cs2[i] := by
    rw [List.getElem?_eq_getElem k2] at g2
    simpa using Option.some.inj g2
  rw [g1', g2']
  have y1 : i < rs.length := by omega
  refine item_eq T hr.in1 rfl I' (h1.2 i _ _ (List.getElem?_eq_getElem z1) (List.getElem?_eq_getElem y1)) (h2.2 i _ _ (List.getElem?_eq_getElem z2) (List.getElem?_eq_getElem y1)) fun s'' I'' => ?_
  exact ⟨decide_eq_true rfl, I''⟩
end
end K02
set_option Elab.async false
set_option linter.all false
set_option maxRecDepth 100000
set_option maxHeartbeats 4000000
/-! the law's look at names, columns and items -/
namespace K02
open K34 PySem PySem.Spec PyProof.Rows L2 StX RevT
def NLT : List Str := ["_law_schema_here", "_law_made", "_law_plain", "_law_titles", "_law_title", "_law_sort", "_law_must", "_law_one"]
theorem scTit : FnScope NLT ["_law_schema_here", "_law_made", "_law_plain"] (defScope sTitles) := ⟨rfl, rfl, rfl, by decide +kernel, rfl, by decide +kernel, by decide +kernel⟩
/-- what is asked by the law's defs of the program's class Schema -/
structure SchF (P : Program) (w : World) (K : PySem.W.Frag) (mg : Str → Option Value) (base : Heap) (pN aN pC aC fL fI : Addr) (fdN fdC fdL fdI : FuncData) : Prop where
  pN : PropOf K (He.ga K "Schema") "names" pN aN
  oN : FnOk P w K mg base CX0 3 aN fdN ["self"] (spSNames K)
  bN : Binds K fdN ["self"] []
  pC : PropOf K (He.ga K "Schema") "columns" pC aC
  oC : FnOk P w K mg base CX0 1 aC fdC ["self"] (spSCols K)
  bC : Binds K fdC ["self"] []
  oL : FnOk P w K mg base CX0 1 fL fdL ["self"] (spSLen K)
  bL : Binds K fdL ["self"] []
  sL : PySem.W.findIn K (.ref (He.ga K "Schema")) "__len__" = some (some (.ref fL))
  iL : PySem.W.isFn K (.ref fL) = true
  oI : FnOk P w K mg base (L2.CX P w) 3 fI fdI ["self", "at"] (spSItem K)
  bI : Binds K fdI ["self", "at"] []
  sI : PySem.W.findIn K (.ref (He.ga K "Schema")) "__getitem__" = some (some (.ref fI))
  nI : PySem.W.fnIn K fI = true
  iI : PySem.W.isFn K (.ref fI) = true
structure TxY (K : PySem.W.Frag) (mg : Str → Option Value) : Prop extends SchI K mg where
  repr : mg "repr" = none
  list : mg "list" = none
def spTit (K : PySem.W.Frag) : Sp := fun vs H Q _ => ∃ (a T m q : Addr) (cs cs2 : List Addr) (ps : List Pl), vs = [.ref a, .ref m, .ref q] ∧ SchAt K H a T cs (ps.map Pl.rw) ∧ H m = some (.lst (cs2.map V.ref)) ∧ CsAt K H cs2 (ps.map Pl.rw) ∧ PlAt H q ps ∧ ps.length ≤ 5 ∧ (ps.map (·.n)).Nodup ∧
  ∀ H', Same H H' → Q (.bl true) H'
theorem shp_str {n : Str} (h : PyData.strOk n = true) : shp (.str n) = true := by
  have e1 : PyData.canLay0 (.str n) = true := h
  have e2 : (PyData.str n).depth ≤ 64 := by simp [PyData.depth]
  show (false || (PyData.canLay0 (.str n) && decide ((PyData.str n).depth ≤ 64))) = true
  rw [e1, decide_eq_true e2]
  rfl
theorem dp_strs {K : PySem.W.Frag} {H : Hp} : ∀ ns : List Str, DpAll K H (ns.map V.str) (ns.map PyData.str)
  | [] => .nil
  | n :: r => .cons (.str n) (dp_strs r)
theorem nd_strs : ∀ ns : List Str, PyData.hasDictAll (ns.map PyData.str) = false
  | [] => rfl
  | n :: r => by
    show (false || PyData.hasDictAll (r.map PyData.str)) = false
    rw [nd_strs r]
    rfl
theorem strs_show {ns : List Str} (h : ∀ n ∈ ns, PyData.strOk n = true ∧ n.length ≤ 8) (l : ns.length ≤ 5) : (PyData.tuple (ns.map PyData.str)).showable = true ∧ (PyData.tuple (ns.map PyData.str)).shown.length ≤ sizeLine ∧ (PyData.tuple (ns.map PyData.str)).depth ≤ 8 := by
  have key : ∀ ms : List Str, (∀ n ∈ ms, PyData.strOk n = true) → PyData.canLayAll0 (ms.map PyData.str) = true := by
    intro ms
    induction ms with
    | nil => intro _; rfl
    | cons n r ih =>
      intro hm
      show (PyData.strOk n && PyData.canLayAll0 (r.map PyData.str)) = true
      rw [hm n List.mem_cons_self, ih fun x hx => hm x (List.mem_cons_of_mem _ hx)]
      rfl
  have sh : ∀ ms : List Str, PyData.showableAll (ms.map PyData.str) = true := by
    intro ms
    induction ms with
    | nil => rfl
    | cons n r ih =>
      show (true && PyData.showableAll (r.map PyData.str)) = true
      rw [ih]
      rfl
  have is : ∀ ms : List Str, PyData.intsShortAll 13 (ms.map PyData.str) = true := by
    intro ms
    induction ms with
    | nil => rfl
    | cons n r ih =>
      show (true && PyData.intsShortAll 13 (r.map PyData.str)) = true
      rw [ih]
      rfl
  refine ⟨sh ns, PyData.shown_fits (B := 13) (by decide) (by decide) (PyData.leavesShort_of_canLay0 13 _ (key ns fun n hn => (h n hn).1) (is ns)) ?_, ?_⟩
  · have e : (2 : Nat) ^ 20 = 1048576 := by decide
    have hs : ∀ n ∈ ns, n.cps.size ≤ 8 := fun n hn => (h n hn).2
    rw [e]
    match ns, l, hs with
    | [], _, _ => simp only [List.map_nil, PyData.weight, PyData.weightAll]; omega
    | [a], _, hs => have := hs a (by simp); simp only [List.map_cons, List.map_nil, PyData.weight, PyData.weightAll]; omega
    | [a, b], _, hs => have := hs a (by simp); have := hs b (by simp); simp only [List.map_cons, List.map_nil, PyData.weight, PyData.weightAll]; omega
    | [a, b, c], _, hs => have := hs a (by simp); have := hs b (by simp); have := hs c (by simp); simp only [List.map_cons, List.map_nil, PyData.weight, PyData.weightAll]; omega
    | [a, b, c, d], _, hs => have := hs a (by simp); have := hs b (by simp); have := hs c (by simp); have := hs d (by simp); simp only [List.map_cons, List.map_nil, PyData.weight, PyData.weightAll]; omega
    | [a, b, c, d, e], _, hs => have := hs a (by simp); have := hs b (by simp); have := hs c (by simp); have := hs d (by simp); have := hs e (by simp); simp only [List.map_cons, List.map_nil, PyData.weight, PyData.weightAll]; omega
    | _ :: _ :: _ :: _ :: _ :: _ :: _, l, _ => simp only [List.length_cons] at l; omega
  · have dp : ∀ ms : List Str, PyData.depthAll (ms.map PyData.str) ≤ 1 := by
      intro ms
      induction ms with
      | nil => simp [PyData.depthAll]
      | cons n r ih =>
        simp only [List.map_cons, PyData.depthAll, PyData.depth]
        omega
    have := dp ns
    simp only [PyData.depth]
    omega
end K02
set_option Elab.async false
set_option linter.all false
set_option maxRecDepth 100000
set_option maxHeartbeats 4000000
namespace K02
open K34 PySem PySem.Spec PyProof.Rows L2 StX RevT
theorem int_show {n : Nat} (h : n ≤ 5) : (PyData.int (n : Int)).showable = true ∧ (PyData.int (n : Int)).shown.length ≤ sizeLine ∧ (PyData.int (n : Int)).depth ≤ 8 := by
  have D : ∀ n : Nat, n < 6 → ((PyData.int (n : Int)).showable && (decide ((PyData.int (n : Int)).shown.length ≤ 1000) && decide ((PyData.int (n : Int)).depth ≤ 8))) = true := by decide +kernel
  have z := D n (by omega)
  obtain ⟨z1, z⟩ := Bool.and_eq_true_iff.mp z
  obtain ⟨z2, z3⟩ := Bool.and_eq_true_iff.mp z
  have z2 := of_decide_eq_true z2
  exact ⟨z1, by rw [sizeLine_eq]; omega, of_decide_eq_true z3⟩
theorem op_neCK {X : Cx} {K : PySem.W.Frag} {f : Addr} {fd : FuncData} (h : X.K = K) (T : ColE X.prog X.w K X.mg X.base f fd) (hr : Room 2 X.A) : OpR X (compareOp .NotEq) (rEqC K not) := by
  subst h
  exact op_neC T hr
section
variable {P : Program} {w : World} {K : PySem.W.Frag} {mg : Str → Option Value} {base : Heap} {f pN aN pC aC fL fI fE : Addr} {fd fdN fdC fdL fdI fdE : FuncData}
theorem ok_titles (F : FnP K "_law_titles_right" sTitles f fd) (T : TxY K mg) (S : SchF P w K mg base pN aN pC aC fL fI fdN fdC fdL fdI) (CE : ColE P w K mg base fE fdE) : FnG P w K mg base 5 f fd ["_law_schema_here", "_law_made", "_law_plain"] (spTit K) := by
  refine okG F scTit (fun vs H Q E h => ?_) (fun cdv A outer s H vs Q E hga hr h => ?_)
  · obtain ⟨a, t, m, q, cs, cs2, ps, rfl, _⟩ := h
    rfl
  · obtain ⟨a, t, m, q, cs, cs2, ps, rfl, S1, M1, C2, P1, l5, nn, k⟩ := h
    have nd := scTit.nd
    have hu64 := hu64_of hr
    have hr2 := hr.mono (j := 2) (by decide)
    refine ⟨_, PSs.nox (pss_cons (ps_setLc (i := 3) (own := [("_law_title", 4), ("_law_sort", 5), ("_law_must", 6)]) (g := gTup K 3 (gCons (gName 4) (gCons (gName 5) (gCons (gName 6) gNil)))) (tt := tYes) rfl nd rfl rfl (sw_true rfl rfl rfl (by decide +kernel)) (pi_list (pv 2))
      (blkOk_by (N := NLT) (sc := defScope sTitles) (by decide +kernel)) (fun _ _ _ _ _ => pg_tup rfl (pgs_cons (pg_name (i := 4) nd rfl (Or.inl rfl)) (pgs_cons (pg_name (i := 5) nd rfl (Or.inl rfl)) (pgs_cons (pg_name (i := 6) nd rfl (Or.inl rfl)) pgs_nil)))) (fun _ _ _ _ _ => pts_nil) (fun _ _ _ _ _ => pv 4))
      (pss_cons (ps_if (PW.pt (pw_or (pt_cmpR op_ne (pe_callB (call_repr hga hu64) (by rfl) T.repr (by decide +kernel) (pa_cons (pe_prop (pv 0) T.cl S.pN S.oN hr S.bN .nil pass0 (by rfl)) pa_nil)) (pe_callB (call_repr hga hu64) (by rfl) T.repr (by decide +kernel) (pa_cons (pe_callTy call_tuple_of (by rfl) T.tuple (by decide +kernel) (pa_cons (pv 3) pa_nil)) pa_nil)) (nomark _))
          (pw_or1 (pt_not (pt_val (pe_callB call_isi (by rfl) T.C.isi (by decide +kernel) (pa_cons (pe_prop (pv 0) T.cl S.pC S.oC hr2 S.bC .nil pass0 (by rfl)) (pa_cons (pe_bltn (v := .ty "tuple") (by rfl) T.tuple (by decide +kernel) rfl) pa_nil)))))))) (pss_one (ps_ret pe_bl)) pss_nil)
      (pss_cons (ps_if (PW.pt (pw_or (pt_cmpR (op_neLc CE hr2) (pe_callTy call_list_of (by rfl) T.list (by decide +kernel) (pa_cons (pe_prop (pv 0) T.cl S.pC S.oC hr2 S.bC .nil pass0 (by rfl)) pa_nil)) (pv 1) (nomark _))
          (pw_or1 (pt_cmpR op_ne (pe_callB (call_repr hga hu64) (by rfl) T.repr (by decide +kernel) (pa_cons (pe_callB (call_lenO S.oL S.bL hr2 S.sL S.iL) (by rfl) T.C.len PySem.boot_len (pa_cons (pv 0) pa_nil)) pa_nil)) (pe_callB (call_repr hga hu64) (by rfl) T.repr (by decide +kernel) (pa_cons (pe_callB call_len_seq (by rfl) T.C.len PySem.boot_len (pa_cons (pv 2) pa_nil)) pa_nil)) (nomark _))))) (pss_one (ps_ret pe_bl)) pss_nil)
      (pss_one (ps_ret (pe_cmpR (op_eqD hu64) (pe_lc (own := [("_law_one", 7), ("_law_title", 4)]) (g := gTup K 2 (gCons (gName 7) (gCons (gName 4) gNil))) rfl nd (pi_zip (by rfl) T.zip (pa_cons (pv 1) (pa_cons (pv 3) pa_nil))) (blkOk_by (N := NLT) (sc := defScope sTitles) (by decide +kernel))
          (fun _ _ _ _ _ => pg_tup rfl (pgs_cons (pg_name (i := 7) nd rfl (Or.inl rfl)) (pgs_cons (pg_name (i := 4) nd rfl (Or.inl rfl)) pgs_nil))) (fun _ _ _ _ _ => pts_one (pt_cmpR (op_neCK (K := K) (f := fE) (fd := fdE) rfl CE hr2) (pe_item S.oI S.bI passL hr S.sI S.nI S.iI (pv 0) (pv 4)) (pv 7) (nomark _))) (fun _ _ _ _ _ => pv 4)) (pe_lst pa_nil) (nomark _))))))), ?_⟩
    refine ⟨_, rfl, q, rfl, ⟨_, SqL.of P1.1⟩, fun R hR => ?_⟩
    have hR : H R = none := hR
    refine lc_it (walk_list (K := K) (a := q) (xs := ps.map fun r => V.ref r.a)) (fun i H3 => H3 R = some (.lst ((ps.take i).map fun r => V.str r.n)) ∧ Same H H3) ⟨upd_same, same_new (Same.refl H) hR⟩ (fun i H3 _ y => SqL.of (y.2 _ _ P1.1)) ?_ ?_
    · rintro i x' H3 H4 hi ⟨y1, y2⟩ ⟨rfl, hx'⟩
      have hx' : (ps.map fun r => V.ref r.a)[i]? = some x' := hx'
      rw [List.getElem?_map] at hx'
      obtain ⟨r, hri, rfl⟩ := Option.map_eq_some_iff.mp hx'
      have hr := P1.2 r (List.mem_of_getElem? hri)
      refine ⟨r.a, _, rfl, SqT.of (y2 _ _ hr.1), rfl, _, _, rfl, _, _, rfl, _, _, rfl, rfl, rfl, ?_⟩
      unfold tYes
      dsimp only
      refine iteT ?_
      refine ⟨_, rfl, _, y1, ?_, ?_, fun b o e => ?_⟩
      · rw [List.length_map, List.length_take, sizeLine_eq]
        omega
      · rw [upd_same, List.take_add_one, hri, List.map_append]
        rfl
      · rw [upd_ne (ne_of_none e hR)]
        exact y2 b o e
    · rintro H3 ⟨y1, y2⟩
      rw [List.length_map, List.take_length] at y1
      have S3 := S1.same y2
      obtain ⟨dx, ha⟩ := id S3.1
      have nms : ((ps.map Pl.rw).map fun r => V.str r.n) = ps.map fun r => V.str r.n := by
        rw [List.map_map]
        rfl
      have vds : ps.map (fun r => V.str r.n) = (ps.map (·.n)).map V.str := by
        rw [List.map_map]
        rfl
      have nok : ∀ n ∈ ps.map (·.n), PyData.strOk n = true ∧ n.length ≤ 8 := fun n hn => by
        obtain ⟨r, hr, rfl⟩ := List.mem_map.mp hn
        exact ⟨word_ok (nm_word (P1.2 r hr).2.1), word_len (nm_word (P1.2 r hr).2.1)⟩
      obtain ⟨dN, thN, w1, w2, w3⟩ : ∃ d : PyData, (∀ (H' : Hp) (q : Addr), H' q = some (.tup ((ps.map (·.n)).map V.str)) → Th K H' (.ref q) d) ∧ d.showable = true ∧ d.shown.length ≤ sizeLine ∧ d.depth ≤ 8 :=
        ⟨.tuple ((ps.map (·.n)).map PyData.str), fun H' q e => .dp (.tup (SqT.of e) (dp_strs _)) (nd_strs _), strs_show nok (by rw [List.length_map]; exact l5)⟩
      refine ⟨_, rfl, a, dx, _, rfl, ha, a, t, cs, _, rfl, S3, fun q4 H4 f4 s4 => ?_⟩
      rw [nms, vds] at f4
      refine ⟨_, dN, rfl, thN _ _ f4, w1, w2, w3, ?_⟩
      refine ⟨_, rfl, R, _, rfl, .inl ⟨SqL.of (s4 _ _ y1), fun q5 n5 => ?_⟩⟩
      have s5 := same_new (o := .tup (ps.map fun r => V.str r.n)) (y2.trans s4) n5
      have f5 : (upd H4 q5 (.tup (ps.map fun r => V.str r.n))) q5 = some (.tup (ps.map fun r => V.str r.n)) := upd_same
      have g5 := up (o := .tup (ps.map fun r => V.str r.n)) (s4 _ _ y1) n5
      generalize upd H4 q5 (.tup (ps.map fun r => V.str r.n)) = H5 at s5 f5 g5 ⊢
      rw [vds] at f5
      refine ⟨_, dN, rfl, thN _ _ f5, w1, w2, w3, rfl, _, rfl, ?_⟩
      refine itF (by rw [decide_eq_true rfl]; rfl) ?_
      have S5 := S1.same s5
      obtain ⟨dx5, ha5⟩ := id S5.1
      refine ⟨_, rfl, a, dx5, _, rfl, ha5, a, t, cs, _, rfl, S5, _, .ty "tuple", _, _, true, rfl, .ty _, sqT_ty S5.2.1, kit_tup, _, rfl, ?_⟩
      refine iteF ?_
      clear nms ha S3 f4 s4 y2 f5 n5 w1 w2 w3
      -- columns as a list
      refine ⟨_, rfl, a, dx5, _, rfl, ha5, a, t, cs, _, rfl, S5, t, _, rfl, .inr S5.2.1, fun q6 n6 => ?_⟩
      have s6 := same_new (o := .lst (cs.map V.ref)) s5 n6
      have f6 : (upd H5 q6 (.lst (cs.map V.ref))) q6 = some (.lst (cs.map V.ref)) := upd_same
      have g6 := up (o := .lst (cs.map V.ref)) g5 n6
      generalize upd H5 q6 (.lst (cs.map V.ref)) = H6 at s6 f6 g6 ⊢
      have S6 := S1.same s6
      refine ⟨_, rfl, q6, m, cs, cs2, _, rfl, rfl, f6, s6 _ _ M1, S6.2.2.1, C2.same s6, _, rfl, ?_⟩
      refine iteF ?_
      obtain ⟨dx6, ha6⟩ := id S6.1
      have S6s : ∀ H', Same H6 H' → SchAt K H' a t cs (ps.map Pl.rw) := fun H' s' => S6.same s'
      obtain ⟨i1, i2, i3⟩ := int_show l5
      refine ⟨_, rfl, a, dx6, _, rfl, ha6, a, t, cs, _, rfl, S6, ps.length, by rw [List.length_map], by omega, ?_⟩
      refine ⟨_, .int (ps.length : Int), rfl, .dp (.int _) rfl, i1, i2, i3, ?_⟩
      refine ⟨_, rfl, q, _, rfl, .inl (SqL.of (P1.same s6).1), ?_⟩
      refine ⟨_, .int (ps.length : Int), rfl, by rw [List.length_map]; exact .dp (.int _) rfl, i1, i2, i3, rfl, _, rfl, ?_⟩
      refine itF (by rw [decide_eq_true rfl]; rfl) ?_
      -- the items
      have lc2 : cs2.length = ps.length := by rw [C2.1, List.length_map]
      refine ⟨_, rfl, _, rfl, m, R, cs2.map V.ref, ps.map fun r => V.str r.n, rfl, SqL.of (s6 _ _ M1), SqL.of g6, fun D hD => ?_⟩
      have hD : H6 D = none := hD
      refine lc_it (walk_zip (K := K) (a := m) (b := R) (xs := cs2.map V.ref) (ys := ps.map fun r => V.str r.n) (n := ps.length) (by rw [List.length_map, List.length_map]; omega)) (fun i H7 => H7 D = some (.lst []) ∧ Same H6 H7) ⟨upd_same, same_new (Same.refl H6) hD⟩ (fun i H7 _ y => ⟨SqL.of (y.2 _ _ (s6 _ _ M1)), SqL.of (y.2 _ _ g6)⟩) ?_ ?_
      · rintro i z H7 H8 hi ⟨y1, y2⟩ ⟨tt, x1, x2, rfl, nt, rfl, e1, e2⟩
        have e1 : (cs2.map V.ref)[i]? = some x1 := e1
        have e2 : (ps.map fun r => V.str r.n)[i]? = some x2 := e2
        rw [List.getElem?_map] at e1 e2
        obtain ⟨c, hcx, rfl⟩ := Option.map_eq_some_iff.mp e1
        obtain ⟨r, hri, rfl⟩ := Option.map_eq_some_iff.mp e2
        have s8 := same_new (o := .tup [.ref c, .str r.n]) y2 nt
        have t8 : (upd H7 tt (.tup [.ref c, .str r.n])) tt = some (.tup [.ref c, .str r.n]) := upd_same
        have y8 := up (o := .tup [.ref c, .str r.n]) y1 nt
        generalize upd H7 tt (.tup [.ref c, .str r.n]) = H8 at s8 t8 y8 ⊢
        have S8 := S6s H8 s8
        obtain ⟨dx8, ha8⟩ := id S8.1
        have hrw : (ps.map Pl.rw)[i]? = some r.rw := by rw [List.getElem?_map, hri]; rfl
        have rok := (P1.2 r (List.mem_of_getElem? hri)).2
        refine ⟨tt, _, rfl, SqT.of t8, rfl, _, _, rfl, _, _, rfl, rfl, rfl, ?_⟩
        refine ⟨_, rfl, _, rfl, a, dx8, _, rfl, ha8, a, t, cs, _, .str r.n, .str r.n, rfl, S8, ?_, .dp (.str _) rfl, shp_str (word_ok (nm_word rok.1)), fun j c' r' h1 h2 h3 _ => ?_, fun hno => ?_⟩
        · intro r' hr'
          obtain ⟨p, hp, rfl⟩ := List.mem_map.mp hr'
          exact word_ok (nm_word (P1.2 p hp).2.1)
        · rw [List.getElem?_map] at h2
          obtain ⟨p, hpj, rfl⟩ := Option.map_eq_some_iff.mp h2
          have hn : p.n = r.n := of_decide_eq_true h3
          have ej : j = i := by
            have l1 := (List.getElem?_eq_some_iff.mp hpj).1
            refine (List.getElem?_inj (l := ps.map (·.n)) (by rw [List.length_map]; exact l1) nn).mp ?_
            rw [List.getElem?_map, List.getElem?_map, hpj, hri, Option.map_some, Option.map_some, hn]
          subst ej
          rw [hri] at hpj
          cases hpj
          refine ⟨_, rfl, c', r.n, r.k, r.b, true, rfl, S8.2.2.1.2 _ c' r.rw h1 hrw, .inr ⟨c, r.n, r.k, r.b, rfl, (C2.same (s6.trans s8)).2 _ c r.rw hcx hrw, (decide_eq_true ⟨rfl, rfl, rfl⟩).symm⟩, _, rfl, ?_⟩
          refine iteF ?_
          exact ⟨y8, s8⟩
        · have z := hno r.rw (List.mem_of_getElem? hrw)
          have z2 : isStr r.n (.str r.n) = true := decide_eq_true rfl
          exact absurd (z.symm.trans z2) (by decide)
      · rintro H7 ⟨y1, y2⟩
        refine ⟨(by show 0 ≤ sizeLine; decide), fun z hz => ⟨.list [], .list [], .lst (SqL.of (up y1 hz)) .nil, .lst (SqL.of upd_same) .nil, rfl, rfl, ?_⟩⟩
        exact k _ (same_new (s6.trans y2) hz)
end
end K02
set_option Elab.async false
set_option linter.all false
set_option maxRecDepth 100000
set_option maxHeartbeats 4000000
/-! several except clauses, each with a name -/
namespace K02
open K34 PySem PySem.Spec PyProof.Rows L2
/-- one clause: its class, its name's slot, its suite -/
structure Cl where
  c : Value
  i : Nat
  ts : Addr → Value → Option Addr → TS
def wManyAs (K : PySem.W.Frag) (N : List Str) (Wout : WX) (D : Ends) : List Cl → WX
  | [] => Wout
  | q :: r => fun cls d σ H => ∃ b, PySem.W.exmOne K cls q.c = some b ∧ (b = true → ∀ a, H a = none → σ.length = N.length → q.ts a cls d { nx := fun σ' H' => D.nx (σ'.set q.i none) H', rt := D.rt, bk := fun σ' H' => D.bk (σ'.set q.i none) H', ct := fun σ' H' => D.ct (σ'.set q.i none) H' } (σ.set q.i (some (.ref a))) H) ∧
    (b = false → wManyAs K N Wout D r cls d σ H)
inductive HdsAs (X : Cx) : List ExceptHandler → List Cl → Prop
  | nil : HdsAs X [] []
  | cons {x n : Str} {q : Cl} {b₀ : Stmt} {suite : List Stmt} {np pos' : Pos} {hds : List ExceptHandler} {l : List Cl} (hc : Names X x q.c) (hi : X.N[q.i]? = some n) (hln : X.env.kindOf n = some .local)
      (hsu : ∀ (a : Addr) (oe : Obj) (cls : Value) (d : Option Addr) (pn : List (Addr × Obj)), Zc cls d oe → (∃ vs, oe.data = .fields vs) → PSs (X.suite a ((a, oe) :: pn)) (b₀ :: suite) (q.ts a cls d)) (r : HdsAs X hds l) :
      HdsAs X (.ExceptHandler (some (.Name x np)) (some n) (b₀ :: suite) pos' :: hds) (q :: l)
section
variable {X : Cx} {body : List Stmt} {h₀ : ExceptHandler} {hds : List ExceptHandler} {l : List Cl} {pos : Pos} {tb : WX → TS} {Wout : WX}
theorem ps_try_manyAs (hs : X.stack = X.env :: X.outer) (hf : X.env.frame = some X.env.locals) (hN : X.N.Nodup) (tk : Takes X Wout)
    (hb : ∀ (W : WX) (pn : List (Addr × Obj)) (xe : Value → Shared → Prop), Takes (X.tr pn xe) W → PassesOwn (model X.prog X.w) X.A X.env xe → PSs (X.tr pn xe) body (tb W))
    (hh : HdsAs X (h₀ :: hds) l) : PS X (.Try body (h₀ :: hds) [] [] pos) (fun D σ H => tb (wManyAs X.K X.N Wout D l) D σ H) := by
  refine ⟨fun pins s σ H D I h => ?_⟩
  have ok := I.ok
  have hfr : X.A.frames = some (X.env :: X.outer) := by rw [ok.frames, hs]
  refine wpAny_Try_except ?_
  refine wpAny_mono ((hb (wManyAs X.K X.N Wout D l) (X.pn ++ pins) (fun e s₁ => wpAny (model X.prog X.w) X.A (noteFrame e X.env) (fun _ s₂ => wpAny (model X.prog X.w) X.A (setFlight e none) (fun _ s₃ =>
    wpAny (model X.prog X.w) X.A (handleBy e X.env (h₀ :: hds)) (SP X pins D) X.xe s₃) X.xe s₂) X.xe s₁) (fun u s' xx => ?_) PassesOwn.looking).run [] s σ H D (I.toTry _) h) (fun f s1 hsp => ?_) (fun e s1 he => he)
  · obtain ⟨a, B, sI, pins', σ', H', cls, d, rfl, J', nb, up, sky, na, os, ag, w⟩ := xx
    have J : Inv X pins σ' H' sI := J'.ofTry ok
    have sky' : Sky B (X.env :: X.outer) a (Zc cls d) X.env.locals s'.heap := by rw [← hs]; exact sky
    show wpAny (model X.prog X.w) X.A (noteFrame (.ref a) X.env) _ _ _
    refine Sky.land Zc.steady hfr hf sky' fun h3 fl3 up3 => ?_
    have J3 : Inv X pins σ' H' { s' with heap := h3 } := J.landed nb fl3.1 (up.trans up3) os ag
    obtain ⟨oe3, vs3, he3, hz3, hd3⟩ := fl3.there
    have notFr : ∀ {h : Heap} {o : Obj} {vs : Array Value}, h.FunFrames B (X.env :: X.outer) → h.get? a = some o → o.data = .fields vs → a ∉ frs (X.env :: X.outer) := fun {h o vs} ff e dd hm => by
      obtain ⟨_, o', e', hnf⟩ := ff.mem hm
      rw [e] at e'; cases e'
      exact hnf _ dd
    have nfr := notFr fl3.2.2.1 he3 hd3
    have nL : a ≠ X.env.locals := fun z => nfr (List.mem_filterMap.mpr ⟨X.env, List.mem_cons_self, by rw [hf, z]⟩)
    have nF : a ∉ X.fs := fun hm => by
      obtain ⟨e, he, q⟩ := List.mem_filterMap.mp hm
      exact nfr (List.mem_filterMap.mpr ⟨e, List.mem_cons_of_mem _ he, q⟩)
    have S3 := J3.suite he3 hd3 na nL nF
    have go : ∀ {hds' : List ExceptHandler} {l' : List Cl}, HdsAs X hds' l' → wManyAs X.K X.N Wout D l' cls d σ' H' →
        wpAny (model X.prog X.w) X.A (handleBy (.ref a) X.env hds') (SP X pins D) X.xe { s' with heap := h3 } := by
      intro hds' l' hk
      induction hk with
      | nil =>
        intro w
        refine wpAny_handleBy_nil ?_
        obtain ⟨k1, k2, k3, oe, vs, T, oT, ts', he, hz, hd, h1, hr⟩ := id fl3
        unfold PySem.passOn
        refine wpAny_bind (wpAny_field he hd h1 ?_)
        rw [if_neg (show ¬ ((Value.ref T == Value.none) = true) from by simp)]
        have fin : wpAny (model X.prog X.w) X.A (setFlight (.ref a) X.env.frame) (fun _ s4 => wpAny (model X.prog X.w) X.A (throw (.ref a) : Sem Flow) (SP X pins D) X.xe s4) X.xe { s' with heap := h3 } := by
          rw [hf]
          refine HandSPX.setFlight_upZ fl3 fun h4 hh4 up4 => wpAny_throw (tk _ _ ?_)
          exact ⟨a, B, sI, pins, σ', H', cls, d, rfl, J, nb, (up.trans up3).trans up4, .inr (.inr (by rw [hs]; exact hh4)), na, os, ag, w⟩
        first
          | exact wpAny_bind (wpAny_pure (wpAny_bind fin))
          | exact wpAny_bind fin
      | @cons x n q b₀ suite np pos' hds2 l2 hc hi hln hsu r ih =>
        intro w
        obtain ⟨b, hb1, hyes, hno⟩ := w
        have hloc : Loc X.env.scope n := .inl hln
        refine wpAny_handleBy_cons (codeAny_handlers_test ?_) (by intro q; cases q)
        have LT : PySem.W.Looks (model X.prog X.w) h3 (typeOf (.ref a)) cls := fun A Q E s k q => wpAny_typeOf_ref (k _ _ he3) (by rw [hz3.1]; exact q)
        have LM := PySem.W.exm_one (M := model X.prog X.w) (J3.kIn) LT hb1
        have test : ∀ {Q : Value → Shared → Prop} {E : Value → Shared → Prop}, Q q.c { s' with heap := h3 } → wpAny (model X.prog X.w) (X.A.mark (some (.ref a))) (eval (.Name x np) X.env) Q E { s' with heap := h3 } := fun {Q E} qq => by
          obtain ⟨hg, hdbg, hm | ⟨hm, hv, hnn⟩⟩ := hc
          · exact ld_glob (X := X.suite a ((a, oe3) :: (X.pn ++ pins))) S3 hg hm qq hdbg
          · exact ld_blt (X := X.suite a ((a, oe3) :: (X.pn ++ pins))) S3 hg hm hv qq hnn hdbg
        refine test (LM.here ?_)
        cases b with
        | true =>
          refine codeAny_handlers_suite_as ?_
          refine HandSPX.lands_againZ fl3 fun h4 fl4 up4 => ?_
          have J4 : Inv X pins σ' H' { s' with heap := h4 } := J.landed nb fl4.1 ((up.trans up3).trans up4) os ag
          obtain ⟨oe4, vs4, he4, hz4, hd4⟩ := fl4.there
          have S4 := J4.suite he4 hd4 na nL nF
          refine store_ok (X := X.suite a ((a, oe4) :: (X.pn ++ pins))) (v := .ref a) S4 hN hi hloc rfl (fun s5 S5 => ?_) (.inr hln)
          refine wpAny_mono ((hsu a oe4 cls d (X.pn ++ pins) hz4 ⟨_, hd4⟩).run [] s5 _ H' _ S5 (hyes rfl a na J.len)) (fun f s6 hsp => ?_) (fun _ _ z => False.elim z)
          have end_ : ∀ {σ6 : L2.St} {H6 : Hp} {Q : Shared → Prop}, Inv (X.suite a ((a, oe4) :: (X.pn ++ pins))) [] σ6 H6 s6 → (∀ s7, Inv X pins (σ6.set q.i none) H6 s7 → Q s7) →
              wpAny (model X.prog X.w) X.A (do bindName X.env n .none; unbindBehindTheSuite X.env n pos') (fun _ s7 => Q s7) X.xe s6 := fun {σ6 H6 Q} S6 hq => gone_ok (S6.unsuite ok) hN hi hln hq
          cases f with
          | next =>
            obtain ⟨σ6, H6, S6, q6⟩ := hsp
            exact end_ S6 fun s7 J7 => ⟨_, _, J7, q6⟩
          | brk =>
            obtain ⟨σ6, H6, S6, q6⟩ := hsp
            exact end_ S6 fun s7 J7 => ⟨_, _, J7, q6⟩
          | cont =>
            obtain ⟨σ6, H6, S6, q6⟩ := hsp
            exact end_ S6 fun s7 J7 => ⟨_, _, J7, q6⟩
          | ret u =>
            obtain ⟨v6, σ6, H6, S6, r6, q6⟩ := hsp
            exact end_ S6 fun s7 J7 => ⟨_, _, _, J7, r6, q6⟩
        | false =>
          show wpAny _ X.A (handleBy (.ref a) X.env hds2) _ _ _
          exact ih (hno rfl)
    exact go hh w
  · cases f with
    | next =>
      obtain ⟨σ', H', J', q⟩ := hsp
      exact wpAny_execs_nil ⟨σ', H', J'.ofTry ok, q⟩
    | brk =>
      obtain ⟨σ', H', J', q⟩ := hsp
      exact ⟨σ', H', J'.ofTry ok, q⟩
    | cont =>
      obtain ⟨σ', H', J', q⟩ := hsp
      exact ⟨σ', H', J'.ofTry ok, q⟩
    | ret u =>
      obtain ⟨v, σ', H', J', r, q⟩ := hsp
      exact ⟨v, σ', H', J'.ofTry ok, r, q⟩
end
/-- isinstance(e, c) in such a suite, e's fields in its dict -/
def rIsED (K : PySem.W.Frag) (k : Kd) (a : Addr) (cls : Value) (d : Option Addr) : List V → Hp → VK → Prop := fun xs H Q => ∃ (C dd : Addr) (fs : List (Str × V)) (c : V) (cv : Value) (b : Bool), xs = [.ref a, c] ∧ cls = .ref C ∧ d = some dd ∧ H dd = some (.xd fs) ∧ EC K C k ∧ (∀ u, RelV c u → u = cv) ∧ PySem.W.kitOne K (.ref C) cv = some b ∧ Q (.bl b) H
theorem call_isED {X : Cx} {k : Kd} {a : Addr} {cls : Value} {d : Option Addr} {oe : Obj} {pn : List (Addr × Obj)} (hz : Zc cls d oe) (hf : ∃ vs, oe.data = .fields vs) : CallR (X.suite a ((a, oe) :: pn)) (.builtin "isinstance") (rIsED X.K k a cls d) := by
  intro pins s σ H xs us Q I r h
  obtain ⟨C, dd, fs, c, cv, b, rfl, rfl, rfl, ed, T, hcv, e, q⟩ := h
  cases r with
  | cons rx rr =>
    cases rr with
    | cons rt rr =>
      cases rr
      cases rx
      have ec := hcv _ rt
      subst ec
      obtain ⟨ha, _⟩ := I.pin (a, oe) (List.mem_append_left _ List.mem_cons_self)
      obtain ⟨vs, hd⟩ := hf
      have hx : ObjOk X.prog X.w H s.heap dd (.xd fs) := I.hok dd _ ed
      obtain ⟨mA, hns, _⟩ := hx
      obtain ⟨od, ho, _⟩ := lookIn_ns hns
      have J : PySem.W.InstAt s.heap a oe C (some od) := ⟨ha, hz.1, by unfold PySem.W.notCls; rw [hd] <;> rfl, by rw [hz.2]; exact ho⟩
      have hcl : (PySem.W.clsIn X.K C).isSome = true := by
        obtain ⟨cd, hc, _⟩ := PySem.W.any_some T.at_.hd
        rw [hc] <;> rfl
      exact PySem.W.kia_one (PySem.W.kitx_exc hcl T.at_.hg T.at_.hk T.at_.hs T.at_.ha T.at_.hn T.at_.ht T.at_.hm) I.kIn J e (fun z => nomatch z) fun tk => ⟨.bl b, H, I.kept (t' := tk) fun _ _ z => z, rfl, q⟩
/-- the same of an error without fields -/
def rIsEN (K : PySem.W.Frag) (a : Addr) (cls : Value) (d : Option Addr) : List V → Hp → VK → Prop := fun xs H Q => ∃ (C : Addr) (c : V) (cv : Value) (b : Bool), xs = [.ref a, c] ∧ cls = .ref C ∧ d = none ∧ ExcC K C ∧ (∀ u, RelV c u → u = cv) ∧ PySem.W.kitOne K (.ref C) cv = some b ∧ Q (.bl b) H
theorem call_isEN {X : Cx} {a : Addr} {cls : Value} {d : Option Addr} {oe : Obj} {pn : List (Addr × Obj)} (hz : Zc cls d oe) (hf : ∃ vs, oe.data = .fields vs) : CallR (X.suite a ((a, oe) :: pn)) (.builtin "isinstance") (rIsEN X.K a cls d) := by
  intro pins s σ H xs us Q I r h
  obtain ⟨C, c, cv, b, rfl, rfl, rfl, T, hcv, e, q⟩ := h
  exact call_isE T hz hf pins s σ H _ us Q I r ⟨c, cv, b, rfl, hcv, e, q⟩
end K02
set_option Elab.async false
set_option linter.all false
set_option maxRecDepth 100000
set_option maxHeartbeats 4000000
/-! a lambda as a value: its object is known from now on -/
namespace LamK
open PySem PySem.Spec PyProof.Rows L2 LamX
/-- a lambda without parameters: its name, its parameters' node, body, names, captured cells, code object -/
structure LF where
  qual : Str
  params : Arguments
  body : Expr
  scope : Scope
  cl : List (Str × Addr)
  c : Addr
/-- the lambda's object at f -/
def LamO (f : Addr) (F : LF) : HO := .ext fun h => ∃ pm ctv : Value, h.get? f = some (PySem.W.kla_obj "<lambda>" F.qual F.params F.body F.scope F.cl pm F.c ctv)
theorem lamO_at {P : Program} {w : World} {H : Hp} {h : Heap} {f : Addr} {F : LF} (ok : HOk P w H h) (e : H f = some (LamO f F)) : ∃ pm ctv : Value, h.get? f = some (PySem.W.kla_obj "<lambda>" F.qual F.params F.body F.scope F.cl pm F.c ctv) := (ok f _ e).1
section
variable {X : Cx} {pins : List (Addr × Obj)} {σ : L2.St} {H : Hp} {s : Shared}
theorem inv_lam {F : LF} {t : Nat} {pm ctv : Value} {h' : Heap} (I : Inv X pins σ H s) (k : ∀ b o, s.heap.get? b = some o → h'.get? b = some o) (sz : s.heap.objs.size ≤ h'.objs.size) :
    Inv X pins σ (upd H h'.objs.size (LamO h'.objs.size F)) { s with heap := h'.push (PySem.W.kla_obj "<lambda>" F.qual F.params F.body F.scope F.cl pm F.c ctv), toks := t } := by
  refine I.laid (a := h'.objs.size) (fun b u e => Heap.get?_push_of_some _ (k b u e)) sz ?_
  have e : (h'.push (PySem.W.kla_obj "<lambda>" F.qual F.params F.body F.scope F.cl pm F.c ctv)).get? h'.objs.size = some (PySem.W.kla_obj "<lambda>" F.qual F.params F.body F.scope F.cl pm F.c ctv) := Heap.get?_push_size _ rfl
  exact ⟨⟨pm, ctv, e⟩, ⟨_, e⟩, fun h1 h2 ⟨p, c, z⟩ st => ⟨p, c, st _ z⟩⟩
abbrev mkF (X : Cx) (params : Arguments) (body : Expr) (scope : Scope) (c : Addr) : LF := ⟨X.env.qual ++ "<lambda>", params, body, scope, cloFrom X.env.cells scope.names [], c⟩
theorem lam_keep {T : List (Addr × Str)} {c P : Addr} {params : Arguments} {body : Expr} {scope : Scope} {pos : Pos} {E : Value → Shared → Prop} {Q : Value → Shared → Prop} (I : Inv X pins σ H s) (TB : TabB X.base X.mg c P) (hcode : X.env.code = .ref c)
    (hm : (P, X.env.qual ++ "<lambda>") ∈ T) (hu : ∀ p ∈ T, p.1 = P → p.2 = X.env.qual ++ "<lambda>") (hT : Tabs T H) (hdef : defaultsOf params X.env = ([], [])) (hfree : ∀ y ∈ scope.names, y.2 = .free → ∃ c, X.env.cells.lookup y.1 = some c)
    (h : ∀ (f c' : Addr) (H1 : Hp) (s' : Shared), Inv X pins σ H1 s' → ExtN H H1 → Tabs T H1 → H f = none → H1 f = some (LamO f (mkF X params body scope c')) → H1 c' = some (CodeO c' (X.env.qual ++ "<lambda>")) → Q (.ref f) s') :
    wpAny (model X.prog X.w) X.A (eval (.Lambda params body scope pos) X.env) Q E s := by
  obtain ⟨ps, hP, ht, among⟩ := hT _ hm
  refine PySem.W.kla_eval hdef ?_
  have bP : s.heap.BuiltinsAt X.mg P := TB.bm.keeps I.bk
  have atP : s.heap.get? P = some { cls := .none, data := .fields ps } := I.hok P _ hP
  cases hc : codeAmong pos ps.toList with
  | some cv =>
    obtain ⟨c', rfl, known⟩ := among pos cv hc
    refine PySem.W.kla_makeFunctionHit (mg := X.mg) (c := c) (P := P) (ps := ps) (closure_ok hfree) I.ok.glob (I.mod.glob.keeps I.bk) hcode (TB.code.keeps I.bk) atP ht hc bP fun ctv h' tk kp sz => ?_
    have nF : H h'.objs.size = none := I.hok.fresh sz
    refine h h'.objs.size c' _ _ (inv_lam (F := mkF X params body scope c') I kp sz) (fun b o e _ => (upd_ne (ne_of_none e nF)).trans e) (hT.ext fun b o e => (upd_ne (ne_of_none e nF)).trans e) nF upd_same ((upd_ne (ne_of_none known nF)).trans known)
  | none =>
    refine PySem.W.kla_makeFunction (mg := X.mg) (c := c) (P := P) (ps := ps) (closure_ok hfree) I.ok.glob (I.mod.glob.keeps I.bk) hcode (TB.code.keeps I.bk) atP ht hc TB.gP bP fun c' ctv h' tk kp ge lt rec_ tab => ?_
    obtain ⟨c2, oc, vs, t, e2, hoc, hd, hv⟩ := rec_
    cases e2
    have nC : H c' = none := I.hok.fresh ge
    have I1 := inv_table (t' := tk) (more := #[rawInt pos.line, rawInt pos.col, .ref c']) (h' := h') I hP kp tab ge ⟨oc, vs, t, hoc, hd, hv⟩
    generalize eH : upd (upd H P (.tbl (ps ++ #[rawInt pos.line, rawInt pos.col, .ref c']))) c' (CodeO c' (X.env.qual ++ "<lambda>")) = H1 at I1
    have toC : H1 c' = some (CodeO c' (X.env.qual ++ "<lambda>")) := by rw [← eH]; exact upd_same
    have toP : H1 P = some (.tbl (ps ++ #[rawInt pos.line, rawInt pos.col, .ref c'])) := by rw [← eH, upd_ne (ne_of_none hP nC)]; exact upd_same
    have ext : ExtN H H1 := fun b o e n => by
      rw [← eH, upd_ne (ne_of_none e nC), upd_ne (fun z => n ps (Option.some.inj (e.symm.trans (by rw [z]; exact hP))))]
      exact e
    have off : ∀ {b o}, b ≠ P → H b = some o → H1 b = some o := fun {b o} n e => by
      rw [← eH, upd_ne (ne_of_none e nC), upd_ne n]
      exact e
    have eL : (ps ++ #[rawInt pos.line, rawInt pos.col, .ref c']).toList = ps.toList ++ [rawInt pos.line, rawInt pos.col, .ref c'] := by simp
    have T1 : Tabs T H1 := fun p hp => by
      by_cases e : p.1 = P
      · rw [hu p hp e, e]
        refine ⟨_, toP, by rw [eL]; exact PySem.TriplesOk_snoc _ _ _ _ ht, fun p' cv y => ?_⟩
        rw [eL] at y
        rcases among_app _ ht y with z | z
        · obtain ⟨c0, a1, a2⟩ := among p' cv z
          exact ⟨c0, a1, ext _ _ a2 codeO_ne⟩
        · exact ⟨c', z, toC⟩
      · obtain ⟨qs, a1, a2, a3⟩ := hT p hp
        refine ⟨qs, off e a1, a2, fun p' cv y => ?_⟩
        obtain ⟨c0, b1, b2⟩ := a3 p' cv y
        exact ⟨c0, b1, ext _ _ b2 codeO_ne⟩
    have nF : H1 h'.objs.size = none := I1.hok.fresh (Nat.le_refl _)
    refine h h'.objs.size c' _ _ (inv_lam (s := { s with heap := h', toks := tk }) (F := mkF X params body scope c') I1 (fun _ _ e => e) (Nat.le_refl _)) (fun b o e n => ?_) (T1.ext fun b o e => (upd_ne (ne_of_none e nF)).trans e) (I.hok.fresh (Nat.le_trans ge (Nat.le_of_lt lt))) upd_same ((upd_ne (ne_of_none toC nF)).trans toC)
    have z := ext b o e n
    exact (upd_ne (ne_of_none z nF)).trans z
/-- lambda: body, as a value -/
def tLamV (T : List (Addr × Str)) (mk : Addr → LF) : TE := fun _ H Q => Tabs T H ∧ ∀ (f c' : Addr) (H1 : Hp), ExtN H H1 → Tabs T H1 → H f = none → H1 f = some (LamO f (mk c')) → H1 c' = some (CodeO c' (mk c').qual) → Q (.ref f) H1
theorem pe_lamV {T : List (Addr × Str)} {c P : Addr} {params : Arguments} {body : Expr} {scope : Scope} {pos : Pos} (TB : TabB X.base X.mg c P) (hcode : X.env.code = .ref c) (hm : (P, X.env.qual ++ "<lambda>") ∈ T) (hu : ∀ p ∈ T, p.1 = P → p.2 = X.env.qual ++ "<lambda>")
    (L : LamS X.env.scope scope) (hdef : defaultsOf params X.env = ([], [])) : PE X (.Lambda params body scope pos) (tLamV T (mkF X params body scope)) := by
  refine ⟨fun pins s σ H Q I h => ?_⟩
  obtain ⟨hT, h⟩ := h
  exact lam_keep I TB hcode hm hu hT hdef (L.has I.ok) fun f c' H1 s' I1 e T1 n k1 k2 => ⟨.ref f, H1, I1, rfl, h f c' H1 e T1 n k1 k2⟩
end
end LamK
set_option Elab.async false
set_option linter.all false
set_option maxRecDepth 100000
set_option maxHeartbeats 4000000
/-! a list comprehension whose tests may lean on what is known of the def around it -/
namespace LamK
open PySem PySem.Spec PyProof.Rows L2
section
variable {X : Cx}
variable {elt tg iter : Expr} {ifs : List Expr} {scope : Scope} {own : List (PySem.Str × Nat)} {pos : Pos} {wi : TI} {g : TG} {tt : TT} {te : TE}
theorem pe_lcI {SV : L2.St → Prop} (hc : X.calm = true) (hN : X.N.Nodup) (hi : PI X tg iter wi) (ok : BlkOk X.N X.env.scope scope own)
    (hg : ∀ (s : Shared) (H : Hp) (C : Addr) (cl : List (PySem.Str × Addr)) (fp : List Addr), PG (X.blk s H scope (compEnvC scope cl C X.env) fp) tg g)
    (ht : ∀ (s : Shared) (H : Hp) (C : Addr) (cl : List (PySem.Str × Addr)) (fp : List Addr), (∃ pins σ, Inv X pins σ H s ∧ SV σ ∧ ∀ b ∈ fp, FpOk X pins H b) → PTs (X.blk s H scope (compEnvC scope cl C X.env) fp) ifs tt)
    (he : ∀ (s : Shared) (H : Hp) (C : Addr) (cl : List (PySem.Str × Addr)) (fp : List Addr), PE (X.blk s H scope (compEnvC scope cl C X.env) fp) elt te) (hs : ∀ x, foldedSetIterable iter X.env x = pure x := by intro _; rfl) :
    PE X (.ListComp elt [⟨tg, iter, ifs, 0⟩] scope pos) (fun σ H Q => SV σ ∧ tLc wi g tt te (own.map (·.2)) σ H Q) := by
  refine ⟨fun pins s σ H Q I hh => ?_⟩
  obtain ⟨hSV, h⟩ := hh
  rw [eval_ListComp]
  have fr : ∀ y ∈ scope.names, y.2 = .free → ∃ c, X.env.cells.lookup y.1 = some c := fun y hy e => (ok.free y hy e).elim (fun k => I.ok.has _ (.inl k)) fun k => I.ok.has _ (.inr k)
  refine wpAny_comprehension_free (use := none) rfl hs (closure_ok fr) ok.kind (fun y hy e => by rw [ok.uniq y hy, e]) (thn (hi.run pins s σ H _ I h) fun xv t1 hx => thn hx fun itv t2 h2 => ?_)
  obtain ⟨it, fp, tn, J, Ha, rfl, Ia, T, sa, fa, q⟩ := h2
  refine wpAny_newObj_type (newEnv_comp ?_) (by show 0 ≤ sizeLine; decide)
  generalize hD : t2.heap.objs.size = D
  have nD : Ha D = none := Ia.hok.fresh (Nat.le_of_eq hD)
  obtain ⟨W, ⟨m0, w0⟩, turn⟩ := q D nD
  generalize e3 : ({ t2 with heap := t2.heap.push { cls := .type "list", data := .seq ([] : List Value).toArray } } : Shared) = t3
  have hp3 : t3.heap = t2.heap.push { cls := .type "list", data := .seq ([] : List Value).toArray } := by rw [← e3]
  have Ib : Inv X pins σ (upd Ha D (.lst [])) t3 := by
    rw [← e3]
    refine Ia.laid (t' := t2.toks) (fun b o e => Heap.get?_push_of_some _ e) (Nat.le_of_eq hD) ?_
    subst hD
    exact ⟨Nat.zero_le _, [], 0, .nil, Heap.get?_push_size _ rfl⟩
  generalize eH : upd Ha D (.lst []) = Hb at Ib w0
  have fb : ∀ b ∈ fp, FpOk X pins Hb b ∧ b < t3.heap.objs.size := fun b hb => by
    obtain ⟨o, eo, _⟩ := T.obj _ _ sa b hb
    have lt := Heap.lt_size eo
    refine ⟨⟨?_, (fa b hb).2⟩, by rw [hp3, Heap.size_push]; exact Nat.lt_succ_of_lt lt⟩
    rw [← eH, upd_ne (by subst hD; exact Nat.ne_of_lt lt)]
    exact (fa b hb).1
  have sb : tn 0 t3.heap := T.keep _ _ _ sa fun b _ o e => by rw [hp3]; exact Heap.get?_push_of_some _ e
  have I4 := block_start Ib ok hN fb
  have pg := hg t3 Hb t3.heap.objs.size (cellsFrom (t3.heap.objs.size + 1) scope.names (cloFrom X.env.cells scope.names [])) fp
  have pt := ht t3 Hb t3.heap.objs.size (cellsFrom (t3.heap.objs.size + 1) scope.names (cloFrom X.env.cells scope.names [])) fp ⟨pins, σ, Ib, hSV, fun b hb => (fb b hb).1⟩
  have pe := he t3 Hb t3.heap.objs.size (cellsFrom (t3.heap.objs.size + 1) scope.names (cloFrom X.env.cells scope.names [])) fp
  show codeAny (model X.prog X.w) X.A (.compStart (.ListComp elt [⟨tg, iter, ifs, 0⟩] scope pos) 0 (.ref it) (.ref D) (compEnvC scope (cellsFrom (t3.heap.objs.size + 1) scope.names (cloFrom X.env.cells scope.names [])) t3.heap.objs.size X.env)) (compPost (model X.prog X.w) X.A X.xe none (EP X pins σ Q) (.ref D) t3.heap.objs.size) { t3 with heap := pushCells (t3.heap.push { cls := .type "dict", data := .dict #[] }) scope.names }
  generalize ec : compEnvC scope (cellsFrom (t3.heap.objs.size + 1) scope.names (cloFrom X.env.cells scope.names [])) t3.heap.objs.size X.env = ce at I4 pg pt pe ⊢
  have cl : ce.locals = t3.heap.objs.size := by rw [← ec]; rfl
  generalize e4 : ({ t3 with heap := pushCells (t3.heap.push { cls := .type "dict", data := .dict #[] }) scope.names } : Shared) = t4 at I4 ⊢
  have s4 : tn 0 t4.heap := T.keep _ _ _ sb fun b _ o e => by rw [← e4]; exact pushCells_keeps _ _ _ _ (Heap.get?_push_of_some _ e)
  have far : ∀ {σ' : L2.St} {H' : Hp} {s' : Shared}, Inv (X.blk t3 Hb scope ce fp) [] σ' H' s' → (∀ b ∈ fp, H' b = none) → ∀ b ∈ fp, FpOk (X.blk t3 Hb scope ce fp) [] H' b := fun {σ' H' s'} J' hn b hb =>
    ⟨hn b hb, (J'.ok.exf b hb).1, J'.ok.exfs b hb, .inl hb, fun x c e => (J'.ok.exf b hb).2 x c e, fun p hp => absurd (show p ∈ ([] : List (Addr × Obj)) ++ [] from hp) (by simp)⟩
  have turns : codeAny (model X.prog X.w) X.A (.compLoop (.ListComp elt [⟨tg, iter, ifs, 0⟩] scope pos) 0 (.ref it) (.ref D) ce) (compPost (model X.prog X.w) X.A X.xe none (EP X pins σ Q) (.ref D) t3.heap.objs.size) t4 := by
    refine compLoop_any (fun m z => ∃ i Hz, Inv (X.blk t3 Hb scope ce fp) [] (wipe σ (own.map (·.2))) Hz z ∧ tn i z.heap ∧ (∀ b ∈ fp, Hz b = none) ∧ W i m Hz) ?_ m0 ⟨0, Hb, I4, s4, fun b hb => (fb b hb).1.1, w0⟩
    rintro m z ⟨i, Hz, Iz, sz, nz, wz⟩
    rcases turn i m Hz wz with ⟨st, qq⟩ | ⟨go, Nx, hNx, step⟩
    · refine thnF (T.done (X.blk t3 Hb scope ce fp) rfl rfl rfl hc i [] z _ Hz (fun _ _ => False) Iz (far Iz nz) sz st) fun r z6 ⟨hr, I6⟩ => ?_
      subst hr
      have out : Inv X pins σ Hz z6 := Ib.call' (ch := fp) I6.os I6.base I6.hok I6.bare fun b hb => let u := (fb b hb).1.2; ⟨u.2.2.1, u.1, u.2.2.2.1, u.2.2.2.2⟩
      have nC : Hz t3.heap.objs.size = none := by
        have y : Hz ce.locals = none := I6.free
        rwa [cl] at y
      obtain ⟨mm, hn, _⟩ := I6.loc
      have hn : z6.heap.Ns ce.locals mm := hn
      rw [cl] at hn
      refine ⟨mm, hn, fun h'' sk => ?_⟩
      obtain ⟨y0, y1, y2, y3, y4, y5⟩ := Ib.fpOk (Nat.le_refl _) nC
      exact ⟨.ref D, Hz, out.turned (t' := z6.toks) (fun b o hb e => (sk.2 b hb).trans e) y0 y1 y3 y4 y5, rfl, qq⟩
    · refine thnF (T.item (X.blk t3 Hb scope ce fp) rfl rfl rfl hc i [] z _ Hz (fun _ _ => False) Iz (far Iz nz) sz go) fun r z6 ⟨u, hr, h6⟩ => ?_
      subst hr
      refine thnF h6 fun _ z7 ⟨x, H7, I7, r7, y7, s7, n7⟩ => ?_
      refine thnF (pg.run _ z7 _ H7 x u _ (I7.pinned (far I7 n7) (T.obj _ _ s7)) r7 (step x H7 y7)) fun _ z8 ⟨σ8, H8, I8, hw8, q8⟩ => ?_
      refine thnF (pt.run _ z8 σ8 H8 _ I8 q8) fun b z9 ⟨H9, I9, q9⟩ => ?_
      have back : ∀ {s' : Shared} {H' : Hp}, Inv (X.blk t3 Hb scope ce fp) ([] ++ pinsAt fp z7.heap) σ8 H' s' → Nx H' → ∃ m', m' < m ∧ ∃ i' Hz', Inv (X.blk t3 Hb scope ce fp) [] (wipe σ (own.map (·.2))) Hz' s' ∧ tn i' s'.heap ∧ (∀ b ∈ fp, Hz' b = none) ∧ W i' m' Hz' := fun {s' H'} J' nx => by
        obtain ⟨m', hm, w'⟩ := hNx H' nx
        have pin : ∀ b ∈ fp, ∀ o, z7.heap.get? b = some o → s'.heap.get? b = some o ∧ H' b = none := fun b hb o e =>
          let y := J'.pin (b, o) (List.mem_append_right _ (List.mem_append_right _ (mem_pinsAt hb e)))
          ⟨y.1, y.2.1⟩
        refine ⟨m', hm, i + 1, H', (J'.unpinned (pins := [])).weak (by rw [← hw8, wipe_length]) (fun j v e => ?_), T.keep _ _ _ s7 fun b hb o e => (pin b hb o e).1, fun b hb => ?_, w'⟩
        · rw [← hw8] at e
          exact (wipe_some e).1
        · obtain ⟨o, e, _⟩ := T.obj _ _ s7 b hb
          exact (pin b hb o e).2
      cases b with
      | false =>
        rw [if_neg Bool.false_ne_true] at q9 ⊢
        exact back I9 q9
      | true =>
        rw [if_pos rfl] at q9 ⊢
        refine thnF (pe.run _ z9 σ8 H9 _ I9 q9) fun v z10 ⟨y, H10, I10, r10, acc, hD10, hz10, nx⟩ => ?_
        exact app_ok (X := X.blk t3 Hb scope ce fp) I10 hD10 hz10 r10 fun z11 I11 => back I11 nx
  exact codeAny_compStart_list turns (T.self X.A 0 _ _ _ s4 turns)
end
end LamK
set_option Elab.async false
set_option linter.all false
set_option maxRecDepth 100000
set_option maxHeartbeats 4000000
/-! a known lambda, called by a def that is called within a comprehension -/
namespace LamK
open PySem PySem.Spec PyProof.Rows L2 LamX
section
variable {X : Cx} {pins : List (Addr × Obj)} {σ : L2.St} {H HZ : Hp} {s s1 : Shared} {fp : List Addr}
/-- the lambda's frame, entered at s1: what the def around it had at s, its cells among it, still stands -/
theorem lam_in {A : Around} {outer : List Env} {E : XK} {scope : Scope} {f c' : Addr} {hh : Heap} {tk : Nat} (I : Inv X pins σ H s) (L : LamS X.env.scope scope) (e0 : Env0 X.prog X.w X.K X.mg X.base A outer s1 HZ) (hd : A.handled = none)
    (un : Un (frs X.stack) fp H HZ s.heap s1.heap) (far : ∀ b ∈ fp, FpOk X pins H b) (hns : hh.Ns s1.heap.objs.size fun y => ([] : List (Str × Value)).reverse.lookup y) (kp : ∀ b o, s1.heap.get? b = some o → hh.get? b = some o) :
    Inv (lamCx X A outer s1 HZ E scope f c') [] σ HZ { s1 with heap := hh, toks := tk } := by
  have fr := L.has I.ok
  have cm : ∀ {y c}, (cloFrom X.env.cells scope.names []).lookup y = some c → X.env.cells.lookup y = some c := fun {y c} e => by
    rcases cloFrom_mem (PySem.mem_of_lookup e) with z | ⟨h1, h2⟩
    · cases z
    · obtain ⟨c1, e1⟩ := fr _ h1 rfl
      have e1 : X.env.cells.lookup y = some c1 := e1
      obtain rfl : c = c1 := by rw [h2, e1]; rfl
      exact e1
  have look : ∀ {y}, scope.names.lookup y = some .free → ∃ c, (cloFrom X.env.cells scope.names []).lookup y = some c := fun {y} e => mem_lookup (cloFrom_has (cells := X.env.cells) (acc := []) (PySem.mem_of_lookup e))
  have nfp : ∀ {y c}, X.env.cells.lookup y = some c → c ∉ fp := fun {y c} e z => (far c z).2.2.2.2.1 y c e rfl
  have cellK : ∀ {y : Str} {c : Addr} {v : Option Value}, X.env.cells.lookup y = some c → s.heap.IsCell c v → hh.IsCell c v := fun {y c v} e ⟨o, ho, hd⟩ => by
    obtain ⟨sl, q⟩ := un.any ho (I.freeC y c e) (nfp e)
    exact ⟨_, kp _ _ q, hd⟩
  have no : ∀ b : Addr, b ∉ (lamCx X A outer s1 HZ E scope f c').ex := fun b z => absurd (show b ∈ ([] : List Addr) from z) (by simp)
  have ok : (lamCx X A outer s1 HZ E scope f c').Ok := by
    refine ⟨e0.mod, L.kind, rfl, rfl, Nat.le_refl _, fun y z c e1 e2 => I.ok.inj y z c (cm e1) (cm e2), fun y hy => ?_, fun y c z _ => ?_, fun _ => hd, Around.frames_deeper e0.frames, .inr ⟨rfl, rfl⟩, fun b z => absurd z (no b), e0.bs, e0.bsz, fun b _ _ => no b,
      fun b z => absurd z (no b), e0.funs, e0.frf⟩
    · have hy : scope.names.lookup y = some .cell ∨ scope.names.lookup y = some .free := hy
      rcases hy with e | e
      · exact absurd rfl (L.own _ (PySem.mem_of_lookup e)).2
      · exact look e
    · have z : false = true := z
      cases z
  refine ⟨ok, rfl, e0.bare, Un.kept kp, ⟨_, hns, fun i y v e1 e2 e3 => ?_⟩, fun y c e => ?_, e0.hok.fresh (Nat.le_refl _), fun y c e => ?_, fun q hq => absurd (show q ∈ ([] : List (Addr × Obj)) ++ [] from hq) (by simp), e0.hok.kept kp, I.len⟩
  · have e3 : Vis scope y := e3
    rcases e3 with k | k | k
    · exact absurd rfl (L.own _ (PySem.mem_of_lookup k)).1
    · exact absurd rfl (L.own _ (PySem.mem_of_lookup k)).2
    · obtain ⟨m, hn, hl⟩ := I.loc
      have vis : Vis X.env.scope y := (L.free _ (PySem.mem_of_lookup k) rfl).elim (fun z => .inr (.inl z)) (fun z => .inr (.inr z))
      obtain ⟨w', r, q⟩ := hl i y v e1 e2 vis
      obtain ⟨c2, h2⟩ := look k
      have c1 := cm h2
      refine ⟨w', r, .inr ⟨.inr k, c2, h2, ?_⟩⟩
      rcases q with ⟨k', _⟩ | ⟨_, c3, e', z⟩
      · have k' : X.env.scope.names.lookup y = some .local := k'
        rcases L.free _ (PySem.mem_of_lookup k) rfl with k2 | k2 <;> (have k2 : X.env.scope.names.lookup y = _ := k2; rw [k2] at k'; cases k')
      · obtain rfl : c2 = c3 := Option.some.inj (c1.symm.trans e')
        exact cellK c1 z
  · obtain ⟨w', z⟩ := I.cell y c (cm e)
    exact ⟨w', cellK (cm e) z⟩
  · obtain ⟨v, o, ho, hd⟩ := I.cell y c (cm e)
    exact un.free c o ho (I.freeC y c (cm e)) (nfp (cm e))
/-- what is known of a lambda's body, at the slots of the def around it -/
structure LamP (X : Cx) (k : Nat) (F : LF) (t : XK → TE) : Prop where
  sc : LamS X.env.scope F.scope
  q : F.qual = X.env.qual ++ "<lambda>"
  cl : F.cl = cloFrom X.env.cells F.scope.names []
  bind : ∀ (q : Str) (cl : List (Str × Addr)) (pm cv ctv : Value), bindArgs (PySem.W.kla_fn "<lambda>" q F.params F.body F.scope cl pm cv ctv) ⟨[], []⟩ = pure []
  body : ∀ (A : Around) (outer : List Env) (s : Shared) (H : Hp) (E : XK) (f c' : Addr), Room k (A.deeper (lamEnv X F.scope s.heap.objs.size f c')) → PE (lamCx X A outer s H E F.scope f c') F.body (t E)
theorem pe_actB {sB : Scope} {ce : Env} {pinsB : List (Addr × Obj)} {σB : L2.St} {Ht : Hp} {st : Shared} {Eg : XK} {Ng : List Str} {qg : Str} {sg : Scope} {g f : Addr} {F : LF} {cdg : Value} {k i : Nat} {a : Str} {pn : List (Addr × Obj)} {xe : Value → Shared → Prop} {W : WX} {E : XK} {t : XK → TE} {p1 p2 : Pos}
    (I : Inv X pins σ H s) (far : ∀ b ∈ fp, FpOk X pins H b) (IB : Inv (X.blk s H sB ce fp) pinsB σB Ht st) (LP : LamP X k F t)
    (tk : Takes ((cxOf C8.CX0 X.prog X.w X.K X.mg X.base Ng qg sg g cdg X.A X.stack st Ht Eg).tr pn xe) W) (hW : ∀ cls d σ' H', E cls d H' → W cls d σ' H') (hr : Room (k + 1) (X.A.deeper (envOfC qg sg st.heap.objs.size g cdg)))
    (hN : Ng[i]? = some a) (hv : Vis sg a) (hd : (a == ("__debug__" : Str)) = false := by decide) (hcd : (a == ("__classdict__" : Str)) = false := by decide) :
    PE ((cxOf C8.CX0 X.prog X.w X.K X.mg X.base Ng qg sg g cdg X.A X.stack st Ht Eg).tr pn xe) (.Call (.Name a p1) [] [] p2)
      (fun σZ HZ Q => σZ[i]? = some (some (.ref f)) ∧ HZ F.c = some (CodeO F.c F.qual) ∧ HZ f = some (LamO f F) ∧ t E σ HZ Q) := by
  refine ⟨fun pinsZ sZ σZ HZ Q IZ h => ?_⟩
  obtain ⟨hs, hc, hf, ht⟩ := h
  refine wpAny_Call_Name_kw (thn ((pe_var (pos := p1) (i := i) hN hv hd hcd).run pinsZ sZ σZ HZ (fun v H1 => v = .ref f ∧ H1 = HZ) IZ ⟨.ref f, hs, rfl, rfl⟩) fun u s1 ⟨v, H1, I1, r1, q1⟩ => ?_)
  obtain ⟨ev, eH⟩ := q1
  subst ev
  rw [eH] at I1
  obtain rfl : u = Value.ref f := r1
  obtain ⟨pm, ctv, of1⟩ := lamO_at I1.hok hf
  refine PySem.W.callWith_F0 ⟨_, _, _, _, of1⟩ ?_
  have u1 : Un (frs X.stack) fp H Ht s.heap st.heap := IB.base
  have u2 : Un (frs X.stack) [] Ht HZ st.heap s1.heap := I1.base
  have un : Un (frs X.stack) fp H HZ s.heap s1.heap := u1.trans (u2.mono (fun b z => z) (fun b z => absurd z (by simp)))
  obtain ⟨⟨oc, vs, t0, hoc, hdc, hvc⟩, _, _⟩ := I1.hok F.c _ hc
  have rc : codeAny (model X.prog X.w) (X.A.deeper (envOfC qg sg st.heap.objs.size g cdg)) (.call (.ref f) ⟨[], []⟩) (CR (L2.CX X.prog X.w) (envOfC qg sg st.heap.objs.size g cdg :: X.stack) X.prog X.w HZ s1 Q E) s1 := by
    refine PySem.W.kla_callFunE hr.depth of1 rfl LP.sc.co LP.sc.gen rfl ⟨F.c, oc, vs, t0, rfl, hoc, hdc, hvc⟩ ?_
    rw [LP.bind]
    refine wpAny_pure (wpAny_newFunctionEnv (fun y hy => (LP.sc.own y hy).2) (fun y hy => absurd hy (by simp)) (fun hh hns hsb => ⟨I1.nolimit.fresh _ hsb, ?_⟩) LP.sc.kind)
    rw [LP.q, LP.cl]
    show codeAny _ _ (.expr F.body (lamEnv X F.scope s1.heap.objs.size f F.c)) _ _
    have kp : ∀ b o, s1.heap.get? b = some o → hh.get? b = some o := fun b o e => hsb.extBut b o (Nat.ne_of_lt (Heap.lt_size e)) (Heap.get?_push_of_some _ e)
    have J := lam_in (E := E) (f := f) (c' := F.c) (tk := s1.toks + ([] : List (Str × Value)).length) I LP.sc I1.env0 hr.hd un far hns kp
    refine PySem.W.kla_codeExpr (wpAny_mono ((LP.body _ _ s1 HZ E f F.c (hr.deeper _)).run [] _ _ HZ Q J ht) (fun v s' hq => ?_) fun e s' hq => hq)
    obtain ⟨w', H', J', rv, q⟩ := hq
    exact ⟨w', H', J'.os, J'.bare, J'.base, J'.hok, rv, q⟩
  have hx : Passes (L2.CX X.prog X.w) ((cxOf C8.CX0 X.prog X.w X.K X.mg X.base Ng qg sg g cdg X.A X.stack st Ht Eg).tr pn xe) E := passes_call tk hW
  refine wpAny_call (codeAny_mono rc fun r s' hq => ?_)
  cases r with
  | error e => exact hx pinsZ σZ HZ s1 e s' I1 hq
  | ok fl =>
    cases fl with
    | ret u => exact I1.after hq
    | next => exact False.elim hq
    | brk => exact False.elim hq
    | cont => exact False.elim hq
/-- x(e) within the comprehension, e a known lambda of the def around -/
def tCallK (X : Cx) (k : Nat) (q : Str) (σ0 : L2.St) (TT : (XK → Hp → VK → Prop) → Hp → VK → Prop) (te : TE) : TE := fun σ H Q => te σ H fun v H1 => ∃ (f : Addr) (F : LF) (t : XK → TE), v = .ref f ∧ H1 f = some (LamO f F) ∧ H1 F.c = some (CodeO F.c F.qual) ∧ F.qual = q ∧ LamP X k F t ∧
  TT (fun E H' Q' => H' f = some (LamO f F) ∧ t E σ0 H' Q') H1 Q
theorem pe_callK {sB : Scope} {ce : Env} {TT : (XK → Hp → VK → Prop) → Hp → VK → Prop} {x a q : Str} {g : Addr} {k : Nat} {pg : Arguments} {bg : List Stmt} {sg : Scope} {dV kV doc pm cdv ct oc : Value} {an od : Option Addr} {osl : Array (Option Value)} {Ng : List Str} {e : Expr} {te : TE} {p pos : Pos}
    (I : Inv X pins σ H s) (far : ∀ b ∈ fp, FpOk X pins H b) (hg : Gl (X.blk s H sB ce fp) x) (hm : X.mg x = some (.ref g)) (hk : PySem.W.keepIn X.K (.ref g) = true)
    (lk : X.K.lookup g = some ⟨oc, od, .func (PySem.W.fnOf x x pg bg sg dV kV doc pm an cdv ct), osl⟩) (hcg : PySem.W.codeIn X.K cdv x = true) (hb : L2.Binds X.K (PySem.W.fnOf x x pg bg sg dV kV doc pm an cdv ct) [a] []) (Sg : FnScope Ng [a] sg) (hNg : Ng[0]? = some a) (hva : Vis sg a)
    (hG : GivesTo (X.blk s H sB ce fp) Ng x sg g cdv bg a q TT) (hr : Room (k + 2) X.A) (ha : PE (X.blk s H sB ce fp) e te) (he : starEach [e] ce = (false, eval e ce) :: starEach [] ce := by rfl)
    (hdb : (x == ("__debug__" : Str)) = false := by decide) (hd : (a == ("__debug__" : Str)) = false := by decide) (hcd : (a == ("__classdict__" : Str)) = false := by decide) : PE (X.blk s H sB ce fp) (.Call (.Name x p) [e] [] pos) (tCallK X k q σ TT te) := by
  refine ⟨fun pB sS σB Hb Q IB h => ?_⟩
  refine wpAny_Call_Name_kw (ld_glob IB hg hm ?_ hdb)
  refine PySem.W.callWith_K (h₀ := X.base) IB.ok.mod.kin hk ?_ he (by rfl)
  rw [he]
  refine Calls.spliced_cons (thn (ha.run pB sS σB Hb _ IB h) fun u s1 ⟨v, H1, I1, r1, f, F, t, ev, hf, hc, hq, LP, ht⟩ => Calls.spliced_nil ⟨I1.kIn, ?_⟩)
  subst ev
  obtain rfl : u = Value.ref f := r1
  have rc : codeAny (model X.prog X.w) X.A (.call (.ref g) ⟨[.ref f], []⟩) (CR C8.CX0 X.stack X.prog X.w H1 s1 Q C8.E0) s1 := by
    refine run_ofS (N := Ng) (ps := [a]) (us := [.ref f]) (vs := [.ref f]) lk hcg Sg hr I1.env0 (hb s1 [.ref f] I1.kIn rfl) (.cons rfl .nil) rfl fun hr' => ?_
    obtain ⟨t', ht', hq'⟩ := hG f F.c s1 H1 Q (fun E H' Q' => H' f = some (LamO f F) ∧ t E σ H' Q') (fun W pn xe E p1 p2 tk hW => by
      have z := pe_actB (i := 0) (p1 := p1) (p2 := p2) I far I1 LP tk hW hr' hNg hva hd hcd (f := f)
      rw [hq] at z
      exact z) (by rw [hq] at hc; exact hc) ht
    exact ⟨t', ht'.nox, hq'⟩
  refine wpAny_call (codeAny_mono rc fun r s2 hq => ?_)
  cases r with
  | error e => exact (show False from hq).elim
  | ok fl =>
    cases fl with
    | ret u => exact I1.after hq
    | next => exact False.elim hq
    | brk => exact False.elim hq
    | cont => exact False.elim hq
end
end LamK
set_option Elab.async false
set_option linter.all false
set_option maxRecDepth 100000
set_option maxHeartbeats 4000000
namespace K02
open K34 PySem PySem.Spec PyProof.Rows L2 LamX LamK
theorem call_reprK {X : Cx} {K : PySem.W.Frag} (h : X.K = K) (hg : X.A.guards = some []) (hu : X.A.units + 64 < cLine) : CallR X (.builtin "repr") (rRepr K) := by
  subst h
  exact call_repr hg hu
theorem call_reprS {X : Cx} {a : Addr} {pn : List (Addr × Obj)} (hg : X.A.guards = some []) (hu : X.A.units + 64 < cLine) : CallR (X.suite a pn) (.builtin "repr") (rRepr X.K) := call_reprK rfl hg hu
structure MetT (K : PySem.W.Frag) (mg : Str → Option Value) : Prop where
  gS : mg "InvalidSchema" = some (.ref (He.ga K "InvalidSchema"))
  gU : mg "UnknownColumn" = some (.ref (He.ga K "UnknownColumn"))
  cS : EC K (He.ga K "InvalidSchema") .ve
  cU : EC K (He.ga K "UnknownColumn") .ke
  nU : PySem.W.findIn K (.ref (He.ga K "UnknownColumn")) "value" = some none
  ne : He.ga K "InvalidSchema" ≠ He.ga K "UnknownColumn"
  isi : mg "isinstance" = none
  repr : mg "repr" = none
  ve : mg "ValueError" = none
  ke : mg "KeyError" = none
theorem xf_of {K : PySem.W.Frag} {C : Addr} {k : Kd} (T : EC K C k) : XfC K C := ⟨T.at_.hg, T.at_.hk, T.at_.hs, T.at_.hd⟩
def tsMetS (K : PySem.W.Frag) : Addr → Value → Option Addr → TS := fun a cls d => tRet (tTup (tCons (tC (.str "schema")) (tCons (tCB (rIsEN K a cls d) (tCons (tVar 1) (tCons (tC (.ty "ValueError")) tNil))) tNil)))
def tsMetU (K : PySem.W.Frag) : Addr → Value → Option Addr → TS := fun a cls d => tRet (tTup (tCons (tC (.str "unknown")) (tCons (tCB (rRepr K) (tCons (tXf a cls d (He.ga K "UnknownColumn") "value" (tVar 1)) tNil)) (tCons (tCB (rIsED K .ke a cls d) (tCons (tVar 1) (tCons (tC (.ty "KeyError")) tNil))) tNil))))
def OkS (d : PyData) : Prop := d.showable = true ∧ d.shown.length ≤ sizeLine ∧ d.depth ≤ 8
/-- what the lambda's raise leaves for the clauses -/
def MetW (K : PySem.W.Frag) (Q : VK) : XK := fun cls d H => (cls = .ref (He.ga K "InvalidSchema") ∧ d = none ∧ ∀ q, H q = none → Q (.ref q) (upd H q (.tup [.str "schema", .bl true]))) ∨
  ∃ (dd : Addr) (v : V) (dt : PyData), cls = .ref (He.ga K "UnknownColumn") ∧ d = some dd ∧ H dd = some (.xd [(("value" : Str), v)]) ∧ Th K H v dt ∧ OkS dt ∧ ∀ q, H q = none → Q (.ref q) (upd H q (.tup [.str "unknown", .str dt.shown, .bl true]))
def TTmet (K : PySem.W.Frag) : (XK → Hp → VK → Prop) → Hp → VK → Prop := fun tl H Q => tl (MetW K Q) H (fun _ H' => Q .non H')
theorem scMet : FnScope ["_law_call", "e"] ["_law_call"] (defScope sMet) := ⟨rfl, rfl, rfl, by decide +kernel, rfl, by decide +kernel, by decide +kernel⟩
theorem rd_suiteU {K : PySem.W.Frag} (T : EC K (He.ga K "UnknownColumn") .ke) {a dd : Addr} {v : V} {dt : PyData} {H : Hp} {σ : L2.St} {Q : VK} {D : Ends} (hD : D.rt = Q) (hl : σ.length = 2) (hx : H dd = some (.xd [(("value" : Str), v)])) (t : Th K H v dt) (ok : OkS dt)
    (q : ∀ q, H q = none → Q (.ref q) (upd H q (.tup [.str "unknown", .str dt.shown, .bl true]))) : tsMetU K a (.ref (He.ga K "UnknownColumn")) (some dd) D (σ.set 1 (some (.ref a))) H := by
  have s1 : (σ.set 1 (some (V.ref a)))[1]? = some (some (V.ref a)) := by
    rw [List.getElem?_set_self (by omega)]
  obtain ⟨h1, h2, h3⟩ := ok
  refine ⟨_, s1, rfl, rfl, dd, _, v, rfl, hx, rfl, v, dt, rfl, t, h1, h2, h3, ?_⟩
  refine ⟨_, s1, _, dd, _, _, _, _, rfl, rfl, rfl, hx, T, fun u z => z, kit_blt T "KeyError" (by decide +kernel), (by show 3 ≤ sizeLine; decide), fun q' hq' => ?_⟩
  have e : Kd.ke.bm.contains (Value.type "KeyError") = true := by decide +kernel
  rw [e, hD]
  exact q q' hq'
theorem rd_suiteS {K : PySem.W.Frag} (T : EC K (He.ga K "InvalidSchema") .ve) {a : Addr} {H : Hp} {σ : L2.St} {Q : VK} {D : Ends} (hD : D.rt = Q) (hl : σ.length = 2)
    (q : ∀ q, H q = none → Q (.ref q) (upd H q (.tup [.str "schema", .bl true]))) : tsMetS K a (.ref (He.ga K "InvalidSchema")) none D (σ.set 1 (some (.ref a))) H := by
  have s1 : (σ.set 1 (some (V.ref a)))[1]? = some (some (V.ref a)) := by
    rw [List.getElem?_set_self (by omega)]
  refine ⟨_, s1, _, _, _, _, rfl, rfl, rfl, T.at_, fun u z => z, kit_blt T "ValueError" (by decide +kernel), (by show 2 ≤ sizeLine; decide), fun q' hq' => ?_⟩
  have e : Kd.ve.bm.contains (Value.type "ValueError") = true := by decide +kernel
  rw [e, hD]
  exact q q' hq'
section
variable {P : Program} {w : World} {K : PySem.W.Frag} {mg : Str → Option Value} {base : Heap} {A : Around} {stack : List Env} {g : Addr} {cdg : Value} {q : Str}
theorem met_core (T : MetT K mg) (hga : A.guards = some []) (hr : Room 3 A) {f c' : Addr} {s : Shared} {H : Hp} {Q : VK} {tl : XK → Hp → VK → Prop}
    (act : ∀ (W : WX) (pn : List (Addr × Obj)) (xe : Value → Shared → Prop) (E : XK) (p1 p2 : Pos), Takes ((cxOf C8.CX0 P w K mg base ["_law_call", "e"] "_law_met" (defScope sMet) g cdg A stack s H C8.E0).tr pn xe) W → (∀ cls d σ' H', E cls d H' → W cls d σ' H') →
      PE ((cxOf C8.CX0 P w K mg base ["_law_call", "e"] "_law_met" (defScope sMet) g cdg A stack s H C8.E0).tr pn xe) (.Call (.Name "_law_call" p1) [] [] p2) (fun σZ HZ Q => σZ[0]? = some (some (.ref f)) ∧ HZ c' = some (CodeO c' q) ∧ tl E HZ Q))
    (hc : H c' = some (CodeO c' q)) (h : TTmet K tl H Q) :
    ∃ t, PSs (cxOf C8.CX0 P w K mg base ["_law_call", "e"] "_law_met" (defScope sMet) g cdg A stack s H C8.E0).nox (defBody sMet) t ∧ t { nx := fun _ H' => Q .non H', rt := Q } (L2.start ["_law_call", "e"] [.ref f]) H := by
  have hr1 := hr.deeper (envOfC "_law_met" (defScope sMet) s.heap.objs.size g cdg)
  have hu := hu64_of hr1
  have ex : ∀ {C C' : Addr} {k k' : Kd}, EC K C k → EC K C' k' → PySem.W.exmOne K (.ref C) (.ref C') = some (decide (C = C')) := fun {C C' k k'} TC TC' => by
    refine PySem.W.exm_ref TC'.at_.hs TC'.at_.hd TC'.ty ?_
    obtain ⟨cd, hc, hm⟩ := TC.cd
    show (PySem.W.clsIn K C).bind _ = _
    rw [hc, Option.bind_some, hm, if_neg (by simp), List.contains_cons, bm_ref, Bool.or_false]
    refine congrArg some ?_
    by_cases z : C = C'
    · rw [decide_eq_true z, z]
      exact beq_self_eq_true _
    · rw [decide_eq_false z]
      exact beq_eq_false_iff_ne.mpr fun y => z (Value.ref.inj y).symm
  refine ⟨_, pss_cons (ps_try_manyAs (X := (cxOf C8.CX0 P w K mg base ["_law_call", "e"] "_law_met" (defScope sMet) g cdg A stack s H C8.E0).nox)
      (l := [⟨.ref (He.ga K "InvalidSchema"), 1, tsMetS K⟩, ⟨.ref (He.ga K "UnknownColumn"), 1, tsMetU K⟩])
      (tb := fun W D σ H => ∃ Ech : XK, (∀ cls d σ' H', Ech cls d H' → W cls d σ' H') ∧ σ[0]? = some (some (.ref f)) ∧ H c' = some (CodeO c' q) ∧ tl Ech H (fun _ H' => D.nx σ H'))
      rfl rfl scMet.nd L2.takes0 (fun W pn xe tk _ => ?_)
      (.cons ⟨rfl, by decide, .inl T.gS⟩ rfl rfl (fun a oe cls d pn hz hf => pss_one (ps_ret (pe_tup (pa_cons pe_str (pa_cons (pe_callB (call_isEN hz hf) (by rfl) T.isi (by decide +kernel) (pa_cons (pv 1) (pa_cons (pe_bltn (v := .ty "ValueError") (by rfl) T.ve (by decide +kernel) rfl) pa_nil))) pa_nil)))))
        (.cons ⟨rfl, by decide, .inl T.gU⟩ rfl rfl (fun a oe cls d pn hz hf => pss_one (ps_ret (pe_tup (pa_cons pe_str (pa_cons (pe_callB (call_reprS (by exact hga) (by exact hu)) (by rfl) T.repr (by decide +kernel) (pa_cons (pe_xf (xf_of T.cU) T.nU hz hf (pv 1)) pa_nil)) (pa_cons (pe_callB (call_isED hz hf) (by rfl) T.isi (by decide +kernel) (pa_cons (pv 1) (pa_cons (pe_bltn (v := .ty "KeyError") (by rfl) T.ke (by decide +kernel) rfl) pa_nil))) pa_nil)))))) .nil)))
    (pss_one (ps_ret pe_non)), ?_⟩
  · refine ⟨fun pins s' σ H' D I h' => ?_⟩
    obtain ⟨Ech, hW, h1, h2, h3⟩ := h'
    exact (pss_one (ps_expr (act W pn xe Ech _ _ tk hW))).run pins s' σ H' D I ⟨h1, h2, h3⟩
  · refine ⟨MetW K Q, ?_, rfl, hc, h⟩
    rintro cls d σ' H' (⟨rfl, rfl, fin⟩ | ⟨dd, v, dt, rfl, rfl, hx, th, ok, fin⟩)
    · refine ⟨true, ?_, fun _ a ha hl => ?_, fun z => by cases z⟩
      · have e := ex T.cS T.cS
        rw [decide_eq_true rfl] at e
        exact e
      · exact rd_suiteS T.cS rfl hl fin
    · refine ⟨false, ?_, (fun z => by cases z), fun _ => ⟨true, ?_, fun _ a ha hl => ?_, fun z => by cases z⟩⟩
      · have e := ex T.cU T.cS
        rw [decide_eq_false (fun z => T.ne z.symm)] at e
        exact e
      · have e := ex T.cU T.cU
        rw [decide_eq_true rfl] at e
        exact e
      · exact rd_suiteU T.cU rfl hl hx th ok fin
end
theorem met_gives {X : Cx} {K : PySem.W.Frag} {g : Addr} {cdg : Value} {q : Str} (hK : X.K = K) (T : MetT K X.mg) (hga : X.A.guards = some []) (hr : Room 3 X.A) : GivesTo X ["_law_call", "e"] "_law_met" (defScope sMet) g cdg (defBody sMet) "_law_call" q (TTmet K) := by
  subst hK
  exact fun f c' s H Q tl act hc h => met_core T hga hr act hc h
end K02
set_option Elab.async false
set_option linter.all false
set_option maxRecDepth 100000
set_option maxHeartbeats 4000000
/-! the drawn odd value -/
namespace K02
open K34 PySem PySem.Spec PyProof.Rows L2
theorem quote_of (x : Str) : reprQuote x = 34 ∨ reprQuote x = 39 := by
  unfold reprQuote
  split
  · first | exact .inl rfl | exact .inr rfl
  · first | exact .inl rfl | exact .inr rfl
theorem char_ok {q c : Nat} (hq : q = 34 ∨ q = 39) (hc : lowN c = true) : ∀ z ∈ Builtin.Str.reprChar q c, z < 1114112 := by
  have D : ∀ c : Nat, c < 123 → 97 ≤ c → (Builtin.Str.reprChar 34 c).all (fun z => decide (z < 1114112)) = true ∧ (Builtin.Str.reprChar 39 c).all (fun z => decide (z < 1114112)) = true := by decide +kernel
  unfold lowN at hc
  obtain ⟨h1, h2⟩ := Bool.and_eq_true_iff.mp hc
  have h1 := of_decide_eq_true h1
  have h2 := of_decide_eq_true h2
  have z := D c (by omega) (by omega)
  intro z' hz
  rcases hq with rfl | rfl
  · exact of_decide_eq_true (List.all_eq_true.mp z.1 z' hz)
  · exact of_decide_eq_true (List.all_eq_true.mp z.2 z' hz)
theorem fold_ok {q : Nat} (hq : q = 34 ∨ q = 39) : ∀ (l : List Nat) (out : Array Nat), (∀ c ∈ l, lowN c = true) → (∀ z ∈ out.toList, z < 1114112) → ∀ z ∈ (l.foldl (fun out c => out ++ (Builtin.Str.reprChar q c).toArray) out).toList, z < 1114112
  | [], out, _, h => h
  | c :: r, out, hl, h => fold_ok hq r _ (fun x hx => hl x (List.mem_cons_of_mem _ hx)) fun z hz => by
    rw [Array.toList_append] at hz
    rcases List.mem_append.mp hz with y | y
    · exact h z y
    · exact char_ok hq (hl c List.mem_cons_self) z y
theorem repr_ok {x : Str} (h : lowS x) : PyData.strOk (reprText x) = true := by
  unfold PyData.strOk reprText
  refine Array.all_eq_true_iff_forall_mem.mpr fun c hc => decide_eq_true ?_
  have hc := Array.mem_push.mp hc
  have hq := quote_of x
  have q0 : reprQuote x < 1114112 := by omega
  rcases hc with hc | hc
  · have hc := Array.mem_toList_iff.mpr hc
    rw [← Array.foldl_toList] at hc
    refine fold_ok hq _ _ h (fun z hz => ?_) c hc
    have : z = reprQuote x := by simpa using hz
    omega
  · omega
theorem strOk_app {x y : Str} (hx : PyData.strOk x = true) (hy : PyData.strOk y = true) : PyData.strOk (x ++ y) = true := by
  unfold PyData.strOk at *
  rw [Array.all_eq_true_iff_forall_mem] at *
  intro c hc
  have hc : c ∈ x.cps ++ y.cps := hc
  rcases Array.mem_append.mp hc with z | z
  · exact hx c z
  · exact hy c z
theorem shown_one (n : Str) : (PyData.tuple [.str n]).shown = ("(" : Str) ++ reprText n ++ (",)" : Str) := by
  rw [PyData.shown_tuple, PyData.shownAll_cons, PyData.shown_str]
  have j : ((", " : Str)).join (reprText n :: PyData.shownAll []) = reprText n := by
    have e : PyData.shownAll [] = [] := by simp [PyData.shownAll]
    rw [e]
    unfold Str.join
    simp
  rw [j]
  rfl
/-- what is asked of the odd value -/
structure OOk (d : PyData) : Prop where
  s : OkS d
  u : PyData.strOk d.shown = true
  h : shp d = true
theorem OOk.any {d : PyData} (h : aOk d = true) : OOk d := by
  obtain ⟨h1, _⟩ := Bool.and_eq_true_iff.mp h
  obtain ⟨h1, hs⟩ := Bool.and_eq_true_iff.mp h1
  obtain ⟨h1, _⟩ := Bool.and_eq_true_iff.mp h1
  obtain ⟨h1, hu⟩ := Bool.and_eq_true_iff.mp h1
  obtain ⟨a, b⟩ := Bool.and_eq_true_iff.mp h1
  obtain ⟨b1, b2⟩ := Bool.and_eq_true_iff.mp b
  obtain ⟨c1, _⟩ := Bool.and_eq_true_iff.mp b2
  have b1 := of_decide_eq_true b1
  exact ⟨⟨a, by rw [sizeLine_eq]; omega, of_decide_eq_true c1⟩, hu, hs⟩
theorem OOk.one {n : Str} (h : wordS n = true) : OOk (.tuple [.str n]) := by
  have l8 := word_len h
  have hs := word_ok h
  have low : lowS n := by
    unfold wordS at h
    exact fun c hc => List.all_eq_true.mp (Bool.and_eq_true_iff.mp (Bool.and_eq_true_iff.mp h).2).2 c hc
  have lay : PyData.canLay0 (.tuple [.str n]) = true := by
    show (PyData.strOk n && true) = true
    rw [hs]
    rfl
  have dep : (PyData.tuple [.str n]).depth ≤ 8 := by simp [PyData.depth, PyData.depthAll]
  refine ⟨⟨rfl, PyData.shown_fits (B := 13) (by decide) (by decide) (PyData.leavesShort_of_canLay0 13 _ lay rfl) ?_, dep⟩, ?_, ?_⟩
  · have e1 : n.cps.size ≤ 8 := l8
    simp only [PyData.weight, PyData.weightAll]
    have : (2 : Nat) ^ 20 = 1048576 := by decide
    omega
  · rw [shown_one]
    exact strOk_app (strOk_app (by decide +kernel) (repr_ok low)) (by decide +kernel)
  · show (false || (PyData.canLay0 (.tuple [.str n]) && decide ((PyData.tuple [.str n]).depth ≤ 64))) = true
    rw [lay, decide_eq_true (by omega)]
    rfl
end K02
set_option Elab.async false
set_option linter.all false
set_option maxRecDepth 100000
set_option maxHeartbeats 4000000
/-! the law's def: its names, its blocks, what is known of a turn -/
namespace K02
open K34 PySem PySem.Spec PyProof.Rows L2 StX RevT
def NL : List Str := ["_law_script", "_law_pen_here", "_law_turn", "_law_plain", "_law_made", "_law_schema_here", "_law_again", "_law_row", "_law_thing", "_law_odd", "_law_others", "_law_other", "_law_one", "_law_calls", "_law_wide", "_law_title", "_law_sort", "_law_must", "_law_call"]
theorem scLaw : FnScope NL ["_law_script"] (defScope sLaw) := ⟨rfl, rfl, rfl, by decide +kernel, rfl, by decide +kernel, by decide +kernel⟩
def forB : Stmt → List Stmt
  | .For _ _ b _ _ => b
  | _ => []
def nth (b : List Stmt) (i : Nat) : Stmt := b.getD i (.Pass ⟨0, 0, 0, 0⟩)
abbrev bTurn : List Stmt := forB (nth (defBody sLaw) 1)
abbrev LX (P : Program) (w : World) (K : PySem.W.Frag) (mg : Str → Option Value) (base : Heap) (f : Addr) (cdv : Value) (A : Around) (outer : List Env) (s : Shared) (H : Hp) (E : XK) : Cx := (cxOf CX0 P w K mg base NL "law" (defScope sLaw) f cdv A outer s H E).nox
theorem PSs.imp {X : Cx} {b : List Stmt} {t u : TS} (h : PSs X b t) (i : ∀ D σ H, u D σ H → t D σ H) : PSs X b u := ⟨fun pins s σ H D I z => h.run pins s σ H D I (i D σ H z)⟩
/-- what is known within a turn -/
structure TF (K : PySem.W.Frag) (H : Hp) (q m a T : Addr) (cs cs2 : List Addr) (ps : List Pl) : Prop where
  P : PlAt H q ps
  l1 : 1 ≤ ps.length
  l5 : ps.length ≤ 5
  nn : (ps.map (·.n)).Nodup
  n5 : ∀ r ∈ ps, r.n.length ≤ 5
  M : H m = some (.lst (cs2.map V.ref))
  C : CsAt K H cs2 (ps.map Pl.rw)
  S : SchAt K H a T cs (ps.map Pl.rw)
section
variable {K : PySem.W.Frag} {H H' : Hp} {q m a T p c : Addr} {cs cs2 : List Addr} {ps : List Pl} {t l : Int}
theorem TF.same (h : TF K H q m a T cs cs2 ps) (s : Same H H') : TF K H' q m a T cs cs2 ps := ⟨h.P.same s, h.l1, h.l5, h.nn, h.n5, s _ _ h.M, h.C.same s, h.S.same s⟩
theorem ColAt.but {n k : Str} {b : Bool} (c' : ColAt K H a n k b) (hp : H p = some (.dK (penK c t l))) (s : But p H H') : ColAt K H' a n k b := by
  obtain ⟨dx, h⟩ := c'
  exact ⟨dx, s _ _ (ne_of h hp (by intro z; cases z)) h⟩
theorem CsAt.but {rs : List Rw} (h : CsAt K H cs rs) (hp : H p = some (.dK (penK c t l))) (s : But p H H') : CsAt K H' cs rs := ⟨h.1, fun i c r h1 h2 => (h.2 i c r h1 h2).but hp s⟩
theorem SchAt.but {rs : List Rw} (h : SchAt K H a T cs rs) (hp : H p = some (.dK (penK c t l))) (s : But p H H') : SchAt K H' a T cs rs := by
  obtain ⟨⟨dx, h1⟩, h2, h3, h4⟩ := h
  exact ⟨⟨dx, s _ _ (ne_of h1 hp (by intro z; cases z)) h1⟩, sqT_but hp s h2, h3.but hp s, h4⟩
theorem TF.but (h : TF K H q m a T cs cs2 ps) (hp : H p = some (.dK (penK c t l))) (s : But p H H') : TF K H' q m a T cs cs2 ps := ⟨h.P.but hp s, h.l1, h.l5, h.nn, h.n5, s _ _ (ne_of h.M hp (by intro z; cases z)) h.M, h.C.but hp s, h.S.but hp s⟩
end
def SL (a p : Addr) (v2 v3 v4 v5 v6 v7 v8 v9 v10 v11 v12 v13 v14 v15 v16 v17 v18 : Option V) : L2.St := [some (.ref a), some (.ref p), v2, v3, v4, v5, v6, v7, v8, v9, v10, v11, v12, v13, v14, v15, v16, v17, v18]
theorem bool_show (b : Bool) : (PyData.bool b).showable = true ∧ (PyData.bool b).shown.length ≤ sizeLine ∧ (PyData.bool b).depth ≤ 8 := by cases b <;> decide +kernel
theorem kw_isrow {K : PySem.W.Frag} {f : Addr} {fd : FuncData} (F : FunD K "is_row" "Schema.is_row" (defArgs sSRow) (defBody sSRow) (defScope sSRow) [] [] f fd) (s' : Shared) (a : Addr) (u : Value) : BindsTo s' fd ⟨[.ref a], [(("value" : Str), u)]⟩ [(("self" : Str), .ref a), (("value" : Str), u)] := by
  obtain ⟨oc, od, dV, kV, doc, pm, an, cdv, ct, osl, rfl, lk, hcd, hD, hK⟩ := F.ex
  rcases hD with ⟨_, rfl⟩ | ⟨e, _⟩
  · exact .of_eq rfl
  · exact absurd rfl e
/-- a def of the law: where it stands, its promise, how it is called -/
structure Fn1 (P : Program) (w : World) (K : PySem.W.Frag) (mg : Str → Option Value) (base : Heap) (k : Nat) (x : Str) (ps : List Str) (sp : Sp) where
  a : Addr
  fd : FuncData
  ok : FnOk P w K mg base CX0 k a fd ps sp
  g : mg x = some (.ref a)
  k : PySem.W.keepIn K (.ref a) = true
  b : Binds K fd ps []
section
variable {P : Program} {w : World} {K : PySem.W.Frag} {mg : Str → Option Value} {base : Heap} {f fR : Addr} {fdR : FuncData} {cdv : Value} {A : Around} {outer : List Env} {s : Shared} {H0 : Hp} {E : XK}
/-- the loop over rows -/
def tAgain (K : PySem.W.Frag) : TS := fun D σ H => ∃ (a0 p c q m a T : Addr) (cs cs2 : List Addr) (ns : List Int) (t l : Int) (ps : List Pl) (v2 v6 v7 v8 v9 v10 v11 v12 v13 v14 v15 v16 v17 v18 : Option V),
  σ = SL a0 p v2 (some (.ref q)) (some (.ref m)) (some (.ref a)) v6 v7 v8 v9 v10 v11 v12 v13 v14 v15 v16 v17 v18 ∧ TF K H q m a T cs cs2 ps ∧ PenAt H p c ns t l ∧ t + 300 < 1000000000000 ∧
  ∀ (v6 v7 v8 : Option V) (t' l' : Int) (H' : Hp), But p H H' → PenAt H' p c ns t' l' → t' ≤ t + 208 → D.nx (SL a0 p v2 (some (.ref q)) (some (.ref m)) (some (.ref a)) v6 v7 v8 v9 v10 v11 v12 v13 v14 v15 v16 v17 v18) H'
theorem blkAgain (hr : Room 6 (LX P w K mg base f cdv A outer s H0 E).A) (hga : (LX P w K mg base f cdv A outer s H0 E).A.guards = some []) (T : TxY K mg) (TR : mg "range" = none)
    (GW : Fn1 P w K mg base 4 "_law_some_row" ["_law_pen_here", "_law_plain"] (spRow K)) (GB : Fn1 P w K mg base 4 "_law_bent_row" ["_law_pen_here", "_law_row"] (spBent K)) (GL : Fn1 P w K mg base 4 "_law_is_row" ["_law_plain", "_law_thing"] (spLRow K))
    (GR : FnOk P w K mg base CX0 3 fR fdR ["self", "value"] (spSRow K)) (FR : FunD K "is_row" "Schema.is_row" (defArgs sSRow) (defBody sSRow) (defScope sSRow) [] [] fR fdR) (MR : Meth K (He.ga K "Schema") "is_row" fR) :
    PS (LX P w K mg base f cdv A outer s H0 E) (nth bTurn 3) (tAgain K) := by
  have nd : NL.Nodup := scLaw.nd
  have hu64 := hu64_of hr
  have hr4 : Room 4 (LX P w K mg base f cdv A outer s H0 E).A := hr.mono (by decide)
  have hr3 : Room 3 (LX P w K mg base f cdv A outer s H0 E).A := hr.mono (by decide)
  have base : PS (LX P w K mg base f cdv A outer s H0 E) (nth bTurn 3) _ :=
    ps_for PassesOwn.never rfl (pi_range1 rfl TR (pa_cons pe_int pa_nil)) (pg_name (i := 6) nd rfl (Or.inl rfl))
      (pss_cons (ps_set (i := 7) nd rfl (Or.inl rfl) (pe_call GW.ok hr4 rfl GW.g GW.k GW.b .nil pass0 (pa_cons (pv 1) (pa_cons (pv 3) pa_nil))))
      (pss_cons (ps_set (i := 8) nd rfl (Or.inl rfl) (pe_ifExp (pt_cmpR op_lt (pv 6) pe_int (nomark _)) (pv 7) (pe_call GB.ok hr4 rfl GB.g GB.k GB.b .nil pass0 (pa_cons (pv 1) (pa_cons (pv 7) pa_nil)))))
      (pss_one (ps_if (pt_cmpR op_ne (pe_callB (call_repr hga hu64) (by rfl) T.repr (by decide +kernel) (pa_cons (pe_methK (pv 5) T.cl MR GR hr3 (kw_isrow FR) (pk_cons (pv 8) pk_nil)) pa_nil)) (pe_callB (call_repr hga hu64) (by rfl) T.repr (by decide +kernel) (pa_cons (pe_call GL.ok hr4 rfl GL.g GL.k GL.b .nil pass0 (pa_cons (pv 3) (pa_cons (pv 8) pa_nil))) pa_nil)) (nomark _))
        (pss_one (ps_ret pe_bl)) pss_nil))))
  refine ⟨fun pins s' σ H D I h => base.run pins s' σ H D I ?_⟩
  clear base
  obtain ⟨a0, p, c, q, m, a, T', cs, cs2, ns, t, l, ps, v2, v6, v7, v8, v9, v10, v11, v12, v13, v14, v15, v16, v17, v18, rfl, F0, D0, ht, fin⟩ := h
  refine ⟨8, rfl, by decide, by decide, for_range (lo := 0) (n := 8) (fun i σ H' => ∃ (u6 u7 u8 : Option V) (t' l' : Int), σ = SL a0 p v2 (some (.ref q)) (some (.ref m)) (some (.ref a)) u6 u7 u8 v9 v10 v11 v12 v13 v14 v15 v16 v17 v18 ∧ But p H H' ∧ PenAt H' p c ns t' l' ∧ t' ≤ t + 26 * (i : Int))
    ⟨_, _, _, t, l, rfl, But.refl p H, D0, by omega⟩ ?_ ?_⟩
  · rintro i σ H1 hi ⟨u6, u7, u8, t1, l1, rfl, b1, D1, ht1⟩
    have F1 := F0.but D0.d b1
    refine ⟨_, rfl, _, rfl, p, c, q, ns, t1, l1, ps, rfl, D1, by omega, F1.P, F1.l5, fun r ds t2 l2 H2 hrow ld h2 D2 b2 => ?_⟩
    have b2 := b1.trans b2
    have rest : ∀ (v : V) (t3 l3 : Int) (H3 : Hp), Itm K H3 v → t3 ≤ t1 + 26 → PenAt H3 p c ns t3 l3 → But p H H3 → tIfS (tTest (tOp rNe (tCB (rRepr K) (tCons (tMethK (He.ga K "Schema") "is_row" (spSRow K) (tVar 5) (tCons (tVar 8) tNil)) tNil)) (tCB (rRepr K) (tCons (tCall (spLRow K) [] E0 (tCons (tVar 3) (tCons (tVar 8) tNil))) tNil)))) (tRet (tC (.bl false))) tNext
        { D with nx := fun σ H' => ∃ (u6 u7 u8 : Option V) (t' l' : Int), σ = SL a0 p v2 (some (.ref q)) (some (.ref m)) (some (.ref a)) u6 u7 u8 v9 v10 v11 v12 v13 v14 v15 v16 v17 v18 ∧ But p H H' ∧ PenAt H' p c ns t' l' ∧ t' ≤ t + 26 * ((i + 1 : Nat) : Int), bk := D.nx, ct := fun σ H' => ∃ (u6 u7 u8 : Option V) (t' l' : Int), σ = SL a0 p v2 (some (.ref q)) (some (.ref m)) (some (.ref a)) u6 u7 u8 v9 v10 v11 v12 v13 v14 v15 v16 v17 v18 ∧ But p H H' ∧ PenAt H' p c ns t' l' ∧ t' ≤ t + 26 * ((i + 1 : Nat) : Int) }
        (SL a0 p v2 (some (.ref q)) (some (.ref m)) (some (.ref a)) (some (.int (0 + (i : Int)))) (some (.ref r)) (some v) v9 v10 v11 v12 v13 v14 v15 v16 v17 v18) H3 := by
      intro v t3 l3 H3 iv h3 D3 b3
      have F3 := F0.but D0.d b3
      obtain ⟨o, tv⟩ := iv.thg
      obtain ⟨⟨dx, ha⟩, _⟩ := id F3.S
      refine ⟨_, rfl, a, dx, _, rfl, ha, rfl, _, rfl, rfl, a, T', cs, _, v, o, rfl, F3.S, tv H3 (Same.refl H3), fun H4 s4 => ?_⟩
      obtain ⟨z1, z2, z3⟩ := bool_show (rowOk (ps.map Pl.rw) o)
      refine ⟨_, .bool (rowOk (ps.map Pl.rw) o), rfl, .dp (.bl _) rfl, z1, z2, z3, ?_⟩
      refine ⟨_, rfl, _, rfl, q, ps, v, o, rfl, (F3.same s4).P, F3.l5, tv H4 s4, fun H5 s5 => ?_⟩
      refine ⟨_, .bool (rowOk (ps.map Pl.rw) o), rfl, .dp (.bl _) rfl, z1, z2, z3, rfl, _, rfl, ?_⟩
      refine itF (by rw [decide_eq_true rfl]; rfl) ?_
      exact ⟨_, _, _, t3, l3, rfl, b3.trans ((But.of s4).trans (But.of s5)), (D3.same s4).same s5, by push_cast; omega⟩
    refine ⟨_, rfl, _, _, rfl, rfl, _, rfl, ?_⟩
    refine ite2 (fun _ => ?_) (fun _ => ?_)
    · refine ⟨_, rfl, ?_⟩
      refine rest (.ref r) t2 l2 H2 ?_ (by omega) D2 b2
      obtain ⟨xs, h1, h2', h3'⟩ := hrow
      refine .inl ⟨r, xs, rfl, h1, fun x hx => ?_⟩
      obtain ⟨j, hj, e⟩ := List.mem_iff_getElem.mp hx
      exact ⟨_, (h3' j x _ (by rw [List.getElem?_eq_getElem hj, e]) (List.getElem?_eq_getElem (by omega))).th⟩
    · refine ⟨_, rfl, _, rfl, p, c, r, ns, t2, l2, ds, rfl, D2, by omega, hrow, by rw [ld]; exact F1.l1, by rw [ld]; exact F1.l5, fun v t3 l3 H3 iv h3 D3 b3 => ?_⟩
      exact rest v t3 l3 H3 iv (by omega) D3 (b2.trans b3)
  · rintro σ H1 ⟨u6, u7, u8, t1, l1, rfl, b1, D1, ht1⟩
    exact fin _ _ _ t1 l1 H1 b1 D1 (by omega)
end
end K02
set_option Elab.async false
set_option linter.all false
set_option maxRecDepth 100000
set_option maxHeartbeats 4000000
/-! the law's odd value and the column that is not there -/
namespace K02
open K34 PySem PySem.Spec PyProof.Rows L2 StX RevT LamX
theorem tabs_but {T : List (Addr × Str)} {H H' : Hp} {p : Addr} {kvs : List (Key × V)} (t : Tabs T H) (hp : H p = some (.dK kvs)) (b : But p H H') : Tabs T H' := fun z hz => by
  obtain ⟨ps, h1, h2, h3⟩ := t z hz
  refine ⟨ps, b _ _ (ne_of h1 hp (by intro y; cases y)) h1, h2, fun pos cv hc => ?_⟩
  obtain ⟨c, e1, e2⟩ := h3 pos cv hc
  exact ⟨c, e1, b _ _ (ne_of e2 hp (by intro y; cases y)) e2⟩
theorem tabs_same {T : List (Addr × Str)} {H H' : Hp} (t : Tabs T H) (s : Same H H') : Tabs T H' := fun z hz => by
  obtain ⟨ps, h1, h2, h3⟩ := t z hz
  refine ⟨ps, s _ _ h1, h2, fun pos cv hc => ?_⟩
  obtain ⟨c, e1, e2⟩ := h3 pos cv hc
  exact ⟨c, e1, s _ _ e2⟩
theorem dp_ext {K : PySem.W.Frag} {H H' : Hp} (e : ExtN H H') : ∀ (d : PyData) (v : V), Dp K H v d → Dp K H' v d := by
  have sT : ∀ {a : Addr} {xs : List V}, SqT K H a xs → SqT K H' a xs := fun {a xs} h => by
    rcases h with (h | ⟨o, h⟩) | h
    · exact .inl (.inl (e _ _ h (fun _ z => by cases z)))
    · exact .inl (.inr ⟨o, e _ _ h (fun _ z => by cases z)⟩)
    · exact .inr h
  have sL : ∀ {a : Addr} {xs : List V}, SqL K H a xs → SqL K H' a xs := fun {a xs} h => by
    rcases h with (h | ⟨o, h⟩) | h
    · exact .inl (.inl (e _ _ h (fun _ z => by cases z)))
    · exact .inl (.inr ⟨o, e _ _ h (fun _ z => by cases z)⟩)
    · exact .inr h
  intro d v h
  exact Dp.rec (motive_1 := fun v d _ => Dp K H' v d) (motive_2 := fun vs ds _ => DpAll K H' vs ds) .non .bl .int .str (fun h1 _ ih => .lst (sL h1) ih) (fun h1 _ ih => .tup (sT h1) ih) .nil (fun _ _ i1 i2 => .cons i1 i2) h
theorem th_ext {K : PySem.W.Frag} {H H' : Hp} {v : V} {d : PyData} (e : ExtN H H') (h : Th K H v d) : Th K H' v d := by
  cases h with
  | dp h n => exact .dp (dp_ext e _ _ h) n
  | @d0 a h => exact .d0 (e a _ h (fun _ z => by cases z))
  | @d1 a h => exact .d1 (e a _ h (fun _ z => by cases z))
theorem pen_ext {H H' : Hp} {p c : Addr} {ns : List Int} {t l : Int} (D : PenAt H p c ns t l) (e : ExtN H H') : PenAt H' p c ns t l := ⟨e _ _ D.d (fun _ z => by cases z), e _ _ D.c (fun _ z => by cases z), D.ht, D.hl, D.hn⟩
theorem sqT_ext {K : PySem.W.Frag} {H H' : Hp} {a : Addr} {xs : List V} (e : ExtN H H') (h : SqT K H a xs) : SqT K H' a xs := by
  rcases h with (h | ⟨o, h⟩) | h
  · exact .inl (.inl (e _ _ h (fun _ z => by cases z)))
  · exact .inl (.inr ⟨o, e _ _ h (fun _ z => by cases z)⟩)
  · exact .inr h
theorem cs_ext {K : PySem.W.Frag} {H H' : Hp} {cs : List Addr} {rs : List Rw} (e : ExtN H H') (h : CsAt K H cs rs) : CsAt K H' cs rs := ⟨h.1, fun i c r h1 h2 => by
  obtain ⟨dx, z⟩ := h.2 i c r h1 h2
  exact ⟨dx, e _ _ z (fun _ z => by cases z)⟩⟩
theorem TF.ext {K : PySem.W.Frag} {H H' : Hp} {q m a T : Addr} {cs cs2 : List Addr} {ps : List Pl} (h : TF K H q m a T cs cs2 ps) (e : ExtN H H') : TF K H' q m a T cs cs2 ps := by
  obtain ⟨⟨P1, P2⟩, l1, l5, nn, n5, M, C, ⟨⟨dx, S1⟩, S2, S3, S4⟩⟩ := h
  exact ⟨⟨e _ _ P1 (fun _ z => by cases z), fun r hr => ⟨e _ _ (P2 r hr).1 (fun _ z => by cases z), (P2 r hr).2⟩⟩, l1, l5, nn, n5, e _ _ M (fun _ z => by cases z), cs_ext e C, ⟨⟨dx, e _ _ S1 (fun _ z => by cases z)⟩, sqT_ext e S2, cs_ext e S3, S4⟩⟩
/-- x in a list of texts, x any value -/
def rInSL (K : PySem.W.Frag) : R2 := fun x y H Q => ∃ (p : Addr) (ss : List Str) (d : PyData), y = .ref p ∧ SqL K H p (ss.map V.str) ∧ Th K H x d ∧ Q (.bl (isIn d ss)) H
theorem op_inSL {X : Cx} (hu : X.A.in1.units < cLine) : OpR X (compareOp .In) (rInSL X.K) := by
  intro pins s σ H x y v u Q I rx ry h
  obtain ⟨p, ss, d, rfl, hq, t, q⟩ := h
  cases ry
  obtain ⟨its, r, pl, hz⟩ := I.list hq
  refine SeqAt.in_listAt (eqS d) (PlainL.isList pl) (fun w hw => ?_) ⟨.bl _, H, I, rfl, ?_⟩
  · obtain ⟨z, k, rfl⟩ := all_str r w (by simpa using hw)
    exact th_eqAt I t rx _ hu z k
  · rw [show its.toArray.any (eqS d) = its.any (eqS d) by simp, any_eqS d r]
    exact q
/-- the odd value -/
def OddAt (K : PySem.W.Frag) (H : Hp) (v : V) (d : PyData) : Prop := Th K H v d ∧ OOk d
def tOdd (K : PySem.W.Frag) : TS := fun D σ H => ∃ (a0 p c q m a T : Addr) (cs cs2 : List Addr) (ns : List Int) (t l : Int) (ps : List Pl) (v2 v6 v7 v8 v9 v10 v11 v12 v13 v14 v15 v16 v17 v18 : Option V),
  σ = SL a0 p v2 (some (.ref q)) (some (.ref m)) (some (.ref a)) v6 v7 v8 v9 v10 v11 v12 v13 v14 v15 v16 v17 v18 ∧ TF K H q m a T cs cs2 ps ∧ PenAt H p c ns t l ∧ t + 300 < 1000000000000 ∧
  ∀ (v : V) (d : PyData) (t' l' : Int) (H' : Hp), OddAt K H' v d → But p H H' → PenAt H' p c ns t' l' → t' ≤ t + 2 → D.nx (SL a0 p v2 (some (.ref q)) (some (.ref m)) (some (.ref a)) v6 v7 v8 (some v) v10 v11 v12 v13 v14 v15 v16 v17 v18) H'
def tOut (K : PySem.W.Frag) : TS := fun D σ H => ∃ (a0 p q m a T : Addr) (cs cs2 : List Addr) (ps : List Pl) (v : V) (d : PyData) (v2 v6 v7 v8 v10 v11 v12 v13 v14 v15 v16 v17 v18 : Option V),
  σ = SL a0 p v2 (some (.ref q)) (some (.ref m)) (some (.ref a)) v6 v7 v8 (some v) v10 v11 v12 v13 v14 v15 v16 v17 v18 ∧ TF K H q m a T cs cs2 ps ∧ OddAt K H v d ∧
  ∀ (v : V) (d : PyData) (H' : Hp), OddAt K H' v d → (∀ r ∈ ps, isStr r.n d = false) → Same H H' → D.nx (SL a0 p v2 (some (.ref q)) (some (.ref m)) (some (.ref a)) v6 v7 v8 (some v) v10 v11 v12 v13 v14 v15 v16 v17 v18) H'
section
variable {P : Program} {w : World} {K : PySem.W.Frag} {mg : Str → Option Value} {base : Heap} {f pN aN pC aC fL fI : Addr} {fdN fdC fdL fdI : FuncData} {cdv : Value} {A : Around} {outer : List Env} {s : Shared} {H0 : Hp} {E : XK}
theorem blkOdd (hr : Room 6 (LX P w K mg base f cdv A outer s H0 E).A) (GP : Fn1 P w K mg base 2 "_law_pick" ["_law_pen_here", "_law_options"] (spPick K)) (GA : Fn1 P w K mg base 3 "_law_any_value" ["_law_pen_here"] (spAny K)) :
    PS (LX P w K mg base f cdv A outer s H0 E) (nth bTurn 4) (tOdd K) := by
  have nd : NL.Nodup := scLaw.nd
  have hr3 : Room 3 (LX P w K mg base f cdv A outer s H0 E).A := hr.mono (by decide)
  have hr2 : Room 2 (LX P w K mg base f cdv A outer s H0 E).A := hr.mono (by decide)
  have base : PS (LX P w K mg base f cdv A outer s H0 E) (nth bTurn 4) _ :=
    ps_set (i := 9) nd rfl (Or.inr rfl) (pe_call GP.ok hr2 rfl GP.g GP.k GP.b .nil pass0 (pa_cons (pv 1) (pa_cons (pe_lst (pa_cons (pe_call GA.ok hr3 rfl GA.g GA.k GA.b .nil pass0 (pa_cons (pv 1) pa_nil)) (pa_cons pe_int (pa_cons pe_str (pa_cons (pe_tup (pa_cons (pe_ix ix_tup (pe_ix ix_list (pv 3) pe_int (fun _ _ => rfl)) pe_int (fun _ _ => rfl)) pa_nil)) pa_nil))))) pa_nil)))
  refine ⟨fun pins s' σ H D I h => base.run pins s' σ H D I ?_⟩
  clear base
  obtain ⟨a0, p, c, q, m, a, T', cs, cs2, ns, t, l, ps, v2, v6, v7, v8, v9, v10, v11, v12, v13, v14, v15, v16, v17, v18, rfl, F0, D0, ht, fin⟩ := h
  refine ⟨_, rfl, _, rfl, p, c, ns, t, l, rfl, D0, by omega, fun va da t1 l1 H1 tha oka h1 D1 b1 => ?_⟩
  have F1 := F0.but D0.d b1
  obtain ⟨r0, ps', rfl⟩ : ∃ r0 ps', ps = r0 :: ps' := by
    cases ps with
    | nil => exact absurd F0.l1 (by decide)
    | cons x y => exact ⟨x, y, rfl⟩
  have r0at := F1.P.2 r0 List.mem_cons_self
  refine ⟨_, rfl, q, _, 0, .ref r0.a, rfl, rfl, SqL.of F1.P.1, atI_nat (j := 0) rfl, r0.a, _, 0, _, rfl, rfl, SqT.of r0at.1, atI_nat (j := 0) rfl, (by show 1 ≤ sizeLine; decide), fun q3 n3 => ?_⟩
  have s3 := same_new (o := .tup [.str r0.n]) (Same.refl H1) n3
  have f3 : (upd H1 q3 (.tup [.str r0.n])) q3 = some (.tup [.str r0.n]) := upd_same
  generalize upd H1 q3 (.tup [.str r0.n]) = H2 at s3 f3 ⊢
  refine ⟨(by show 4 ≤ sizeLine; decide), fun q4 n4 => ?_⟩
  refine ⟨p, c, q4, ns, t1, l1, _, rfl, pen_new (D1.same s3) n4, by omega, SqL.of upd_same, by simp, (by show 4 < 1000000; decide), fun x t' l' H' hx h' D' b' => ?_⟩
  have bX : But p H2 H' := (But.of (same_new (Same.refl H2) n4)).trans b'
  have D2 := D1.same s3
  have go : ∃ d, OddAt K H' x d := by
    simp only [List.mem_cons, List.not_mem_nil, or_false] at hx
    rcases hx with rfl | rfl | rfl | rfl
    · exact ⟨da, th_but D2.d bX (tha.same s3), OOk.any oka⟩
    · exact ⟨.int 0, .dp (.int 0) rfl, OOk.any (by decide +kernel)⟩
    · exact ⟨.str "zzzzzzzz", .dp (.str _) rfl, OOk.any (by decide +kernel)⟩
    · exact ⟨.tuple [.str r0.n], .dp (.tup (SqT.of (bX _ _ (ne_of f3 D2.d (by intro z; cases z)) f3)) (.cons (.str _) .nil)) rfl, OOk.one (nm_word r0at.2.1)⟩
  obtain ⟨d, hd⟩ := go
  exact fin x d t' l' H' hd ((b1.trans (But.of s3)).trans bX) D' (by omega)
theorem blkOut (hr : Room 6 (LX P w K mg base f cdv A outer s H0 E).A) (T : TxY K mg) (S : SchF P w K mg base pN aN pC aC fL fI fdN fdC fdL fdI) : PS (LX P w K mg base f cdv A outer s H0 E) (nth bTurn 5) (tOut K) := by
  have nd : NL.Nodup := scLaw.nd
  have hr4 : Room 4 (LX P w K mg base f cdv A outer s H0 E).A := hr.mono (by decide)
  have hu := hu_of hr4
  have base : PS (LX P w K mg base f cdv A outer s H0 E) (nth bTurn 5) _ :=
    ps_set (i := 9) nd rfl (Or.inr rfl) (pe_ifExp (pt_cmpR (op_inSL hu) (pv 9) (pe_callTy call_list_of (by rfl) T.list (by decide +kernel) (pa_cons (pe_prop (pv 5) T.cl S.pN S.oN hr4 S.bN .nil pass0 (by rfl)) pa_nil)) (by rfl)) pe_str (pv 9))
  refine ⟨fun pins s' σ H D I h => base.run pins s' σ H D I ?_⟩
  clear base
  obtain ⟨a0, p, q, m, a, T', cs, cs2, ps, v, d, v2, v6, v7, v8, v10, v11, v12, v13, v14, v15, v16, v17, v18, rfl, F0, ⟨tv, ov⟩, fin⟩ := h
  obtain ⟨⟨dx, ha⟩, _⟩ := id F0.S
  refine ⟨_, rfl, _, rfl, a, dx, _, rfl, ha, a, T', cs, _, rfl, F0.S, fun q1 H1 f1 s1 => ?_⟩
  refine ⟨q1, _, rfl, .inr (SqT.of f1), fun q2 n2 => ?_⟩
  have s2 := same_new (o := .lst ((ps.map Pl.rw).map fun r => V.str r.n)) s1 n2
  have f2 : (upd H1 q2 (.lst ((ps.map Pl.rw).map fun r => V.str r.n))) q2 = some (.lst ((ps.map Pl.rw).map fun r => V.str r.n)) := upd_same
  generalize upd H1 q2 (.lst ((ps.map Pl.rw).map fun r => V.str r.n)) = H2 at s2 f2 ⊢
  have ev : ((ps.map Pl.rw).map fun r => V.str r.n) = (ps.map (·.n)).map V.str := by
    rw [List.map_map, List.map_map]
    rfl
  rw [ev] at f2
  refine ⟨q2, ps.map (·.n), d, rfl, SqL.of f2, tv.same s2, _, rfl, ?_⟩
  cases hin : isIn d (ps.map (·.n)) with
  | true =>
    refine iteT ?_
    refine fin _ (.str "zzzzzzzz") H2 ⟨.dp (.str _) rfl, OOk.any (by decide +kernel)⟩ (fun r hr => ?_) s2
    have l5 := F0.n5 r hr
    show decide (r.n = "zzzzzzzz") = false
    refine decide_eq_false fun e => ?_
    rw [e] at l5
    exact absurd l5 (by decide +kernel)
  | false =>
    refine iteF ?_
    refine ⟨_, rfl, ?_⟩
    refine fin v d H2 ⟨tv.same s2, ov⟩ (fun r hr => ?_) s2
    cases d with
    | str x =>
      have z : (ps.map (·.n)).contains x = false := hin
      show decide (r.n = x) = false
      refine decide_eq_false fun e => ?_
      have m : x ∈ ps.map (·.n) := List.mem_map.mpr ⟨r, hr, e⟩
      rw [List.contains_iff_mem.mpr m] at z
      cases z
    | _ => rfl
end
end K02
set_option Elab.async false
set_option linter.all false
set_option maxRecDepth 100000
set_option maxHeartbeats 4000000
/-! the column that is not there -/
namespace K02
open K34 PySem PySem.Spec PyProof.Rows L2 StX RevT LamX
def qL : Str := "law.<locals>.<lambda>"
/-- the def _law_met, its code, how it is called -/
structure MetF (K : PySem.W.Frag) (mg : Str → Option Value) where
  a : Addr
  dV : Value
  kV : Value
  doc : Value
  pm : Value
  cd : Value
  ct : Value
  oc : Value
  an : Option Addr
  od : Option Addr
  osl : Array (Option Value)
  lk : K.lookup a = some ⟨oc, od, .func (PySem.W.fnOf "_law_met" "_law_met" (defArgs sMet) (defBody sMet) (defScope sMet) dV kV doc pm an cd ct), osl⟩
  hc : PySem.W.codeIn K cd "_law_met" = true
  b : Binds K (PySem.W.fnOf "_law_met" "_law_met" (defArgs sMet) (defBody sMet) (defScope sMet) dV kV doc pm an cd ct) ["_law_call"] []
  g : mg "_law_met" = some (.ref a)
  k : PySem.W.keepIn K (.ref a) = true
theorem shaped_unk {d : PyData} (h : PyData.strOk d.shown = true) : SeqAt.shaped (.tuple [.str "unknown", .str d.shown, .bool true]) = true := by
  have e1 : PyData.canLay0 (.tuple [.str "unknown", .str d.shown, .bool true]) = true := by
    show (PyData.strOk "unknown" && (PyData.strOk d.shown && true)) = true
    rw [h]
    decide +kernel
  have e2 : (PyData.tuple [.str "unknown", .str d.shown, .bool true]).depth ≤ 64 := by
    simp [PyData.depth, PyData.depthAll]
  show (PyData.canLay0 (.tuple [.str "unknown", .str d.shown, .bool true]) && decide ((PyData.tuple [.str "unknown", .str d.shown, .bool true]).depth ≤ 64)) = true
  rw [e1, decide_eq_true e2]
  rfl
theorem eqv_unk (n : Str) : PyData.eqv (.tuple [.str "unknown", .str n, .bool true]) (.tuple [.str "unknown", .str n, .bool true]) = true := by
  simp [PyData.eqv, PyData.eqvAll]
theorem th_unk {K : PySem.W.Frag} {H : Hp} {a : Addr} {n k : Str} {b : Bool} (h : H a = some (.tup [.str n, .str k, .bl b])) : Dp K H (.ref a) (.tuple [.str n, .str k, .bool b]) :=
  .tup (SqT.of h) (.cons (.str _) (.cons (.str _) (.cons (.bl _) .nil)))
def tUnk (K : PySem.W.Frag) (T : List (Addr × Str)) : TS := fun D σ H => ∃ (a0 p q m a T' : Addr) (cs cs2 : List Addr) (ps : List Pl) (v : V) (d : PyData) (v2 v6 v7 v8 v10 v11 v12 v13 v14 v15 v16 v17 v18 : Option V),
  σ = SL a0 p v2 (some (.ref q)) (some (.ref m)) (some (.ref a)) v6 v7 v8 (some v) v10 v11 v12 v13 v14 v15 v16 v17 v18 ∧ TF K H q m a T' cs cs2 ps ∧ OddAt K H v d ∧ (∀ r ∈ ps, isStr r.n d = false) ∧ Tabs T H ∧
  ∀ (H' : Hp), ExtN H H' → Tabs T H' → D.nx (SL a0 p v2 (some (.ref q)) (some (.ref m)) (some (.ref a)) v6 v7 v8 (some v) v10 v11 v12 v13 v14 v15 v16 v17 v18) H'
section
variable {P : Program} {w : World} {K : PySem.W.Frag} {mg : Str → Option Value} {base : Heap} {f pN aN pC aC fL fI : Addr} {fdN fdC fdL fdI : FuncData} {cdv : Value} {A : Around} {outer : List Env} {s : Shared} {H0 : Hp} {E : XK} {c PT : Addr}
theorem blkUnk (hr : Room 6 (LX P w K mg base f cdv A outer s H0 E).A) (hga : (LX P w K mg base f cdv A outer s H0 E).A.guards = some []) (T : TxY K mg) (S : SchF P w K mg base pN aN pC aC fL fI fdN fdC fdL fdI) (TM : MetT K mg) (M : MetF K mg)
    (TB : TabB base mg c PT) (hcd : cdv = .ref c) : PS (LX P w K mg base f cdv A outer s H0 E) (nth bTurn 6) (tUnk K [(PT, qL)]) := by
  have nd : NL.Nodup := scLaw.nd
  have hu64 := hu64_of hr
  have hr3 : Room 3 (LX P w K mg base f cdv A outer s H0 E).A := hr.mono (by decide)
  have base : PS (LX P w K mg base f cdv A outer s H0 E) (nth bTurn 6) _ :=
    ps_if (pt_cmpR (op_neD hu64) (pe_lamcall (T := [(PT, qL)]) (TT := TTmet K) (by rfl) M.g M.k M.lk M.hc M.b scMet (by rfl) (.inl rfl) (met_gives rfl TM hga hr3) TB hcd (List.mem_singleton.mpr (by rfl)) (fun q hq _ => by rw [List.mem_singleton.mp hq]; rfl) hr (lamS_by (sc := defScope sLaw) (by decide +kernel)) (by rfl) (fun _ _ _ _ _ => by rfl)
        (fun A outer s H E f c' hr' => pe_item S.oI S.bI (passes_call (takes_of rfl rfl rfl rfl) (fun _ _ _ _ h => h)) hr' S.sI S.nI S.iI (pv 5) (pv 9)))
      (pe_tup (pa_cons pe_str (pa_cons (pe_callB (call_repr hga hu64) (by rfl) T.repr (by decide +kernel) (pa_cons (pv 9) pa_nil)) (pa_cons pe_bl pa_nil)))) (nomark _)) (pss_one (ps_ret pe_bl)) pss_nil
  refine ⟨fun pins s' σ H D I h => base.run pins s' σ H D I ?_⟩
  clear base
  obtain ⟨a0, p, q, m, a, T', cs, cs2, ps, v, d, v2, v6, v7, v8, v10, v11, v12, v13, v14, v15, v16, v17, v18, rfl, F0, ⟨tv, ov⟩, hno, hT, fin⟩ := h
  refine ⟨hT, fun H1 e1 T1 => ?_⟩
  have F1 := F0.ext e1
  obtain ⟨⟨dx, ha⟩, _⟩ := id F1.S
  refine ⟨_, rfl, _, rfl, a, dx, _, rfl, ha, a, T', cs, _, v, d, rfl, F1.S, fun r hr => ?_, th_ext e1 tv, ov.h, fun j c' r' h1 h2 h3 _ => ?_, fun _ => ?_⟩
  · obtain ⟨x, hx, rfl⟩ := List.mem_map.mp hr
    exact word_ok (nm_word (F1.P.2 x hx).2.1)
  · rw [List.getElem?_map] at h2
    obtain ⟨x, hx, rfl⟩ := Option.map_eq_some_iff.mp h2
    have z := hno x (List.mem_of_getElem? hx)
    exact absurd (z.symm.trans h3) (by decide)
  · intro dd H2 hd s2 hx
    refine .inr ⟨dd, v, d, rfl, rfl, hx, (th_ext e1 tv).same s2, ov.s, fun q' nq => ?_⟩
    have s3 := same_new (o := .tup [.str "unknown", .str d.shown, .bl true]) s2 nq
    have f3 : (upd H2 q' (.tup [.str "unknown", .str d.shown, .bl true])) q' = some (.tup [.str "unknown", .str d.shown, .bl true]) := upd_same
    generalize upd H2 q' (.tup [.str "unknown", .str d.shown, .bl true]) = H3 at s3 f3 ⊢
    refine ⟨_, rfl, v, d, rfl, (th_ext e1 tv).same s3, ov.s.1, ov.s.2.1, ov.s.2.2, (by show 3 ≤ sizeLine; decide), fun q4 n4 => ?_⟩
    have s4 := same_new (o := .tup [.str "unknown", .str d.shown, .bl true]) s3 n4
    have f4 : (upd H3 q4 (.tup [.str "unknown", .str d.shown, .bl true])) q4 = some (.tup [.str "unknown", .str d.shown, .bl true]) := upd_same
    have f3 := up (o := .tup [.str "unknown", .str d.shown, .bl true]) f3 n4
    generalize upd H3 q4 (.tup [.str "unknown", .str d.shown, .bl true]) = H4 at s4 f3 f4 ⊢
    refine ⟨_, _, th_unk f3, th_unk f4, shaped_unk ov.u, shaped_unk ov.u, _, rfl, ?_⟩
    refine itF (by rw [eqv_unk]; rfl) ?_
    exact fin H4 (e1.trans (ExtN.of s4)) (tabs_same T1 s4)
end
end K02
set_option Elab.async false
set_option linter.all false
set_option maxRecDepth 100000
set_option maxHeartbeats 4000000
/-! the other lists of columns -/
namespace K02
open K34 PySem PySem.Spec PyProof.Rows L2 StX RevT LamX
/-- lists of plain columns with unlike names -/
def OthAt (H : Hp) (os : List Addr) : Prop := ∀ o ∈ os, ∃ px : List Pl, PlAt H o px ∧ (px.map (·.n)).Nodup ∧ px.length ≤ 6
theorem OthAt.same {H H' : Hp} {os : List Addr} (h : OthAt H os) (s : Same H H') : OthAt H' os := fun o ho => by
  obtain ⟨px, h1, h2⟩ := h o ho
  exact ⟨px, h1.same s, h2⟩
theorem cut_init {xs : List V} {x : V} : cutV (xs ++ [x]) none (some (-1)) = xs := by
  unfold cutV
  have e1 : HT.sIx (xs ++ [x]).length (xs ++ [x]).length (some (-1)) = xs.length := by
    unfold HT.sIx
    simp only [List.length_append, List.length_singleton]
    rw [if_pos (by decide)]
    omega
  rw [e1, HT.sIx_none, List.drop_zero, Nat.sub_zero, List.take_left]
theorem snoc_of {ps : List Pl} (h : 1 ≤ ps.length) : ∃ pi pl, ps = pi ++ [pl] := by
  cases h' : ps.getLast? with
  | none =>
    rw [List.getLast?_eq_none_iff] at h'
    subst h'
    exact absurd h (by decide)
  | some x => 
    obtain ⟨l, e⟩ := List.getLast?_eq_some_iff.mp h'
    exact ⟨l, x, e⟩
def tOth (K : PySem.W.Frag) : TS := fun D σ H => ∃ (a0 p q m a T : Addr) (cs cs2 : List Addr) (ps : List Pl) (v2 v6 v7 v8 v9 v10 v11 v12 v13 v14 v15 v16 v17 v18 : Option V),
  σ = SL a0 p v2 (some (.ref q)) (some (.ref m)) (some (.ref a)) v6 v7 v8 v9 v10 v11 v12 v13 v14 v15 v16 v17 v18 ∧ TF K H q m a T cs cs2 ps ∧
  ∀ (L : Addr) (os : List Addr) (H' : Hp), H' L = some (.lst (os.map V.ref)) → H L = none → (∀ o ∈ os, o ≠ L) → os.length ≤ 10 → OthAt H' os → Same H H' → D.nx (SL a0 p v2 (some (.ref q)) (some (.ref m)) (some (.ref a)) v6 v7 v8 v9 (some (.ref L)) v11 v12 v13 v14 v15 v16 v17 v18) H'
/-- from a heap H0 on; the list L is not there in H0 -/
def tOth2 (K : PySem.W.Frag) : TS := fun D σ H => ∃ (a0 p q m a T L : Addr) (H0 : Hp) (os : List Addr) (cs cs2 : List Addr) (ps : List Pl) (v2 v6 v7 v8 v9 v11 v12 v13 v14 v15 v16 v17 v18 : Option V),
  σ = SL a0 p v2 (some (.ref q)) (some (.ref m)) (some (.ref a)) v6 v7 v8 v9 (some (.ref L)) v11 v12 v13 v14 v15 v16 v17 v18 ∧ TF K H0 q m a T cs cs2 ps ∧ H0 L = none ∧ Same H0 H ∧ H L = some (.lst (os.map V.ref)) ∧ os.length ≤ 10 ∧ OthAt H os ∧ (∀ o ∈ os, o ≠ L) ∧
  ∀ (os : List Addr) (H' : Hp), H' L = some (.lst (os.map V.ref)) → os.length ≤ 11 → OthAt H' os → Same H0 H' → D.nx (SL a0 p v2 (some (.ref q)) (some (.ref m)) (some (.ref a)) v6 v7 v8 v9 (some (.ref L)) v11 v12 v13 v14 v15 v16 v17 v18) H'
section
variable {P : Program} {w : World} {K : PySem.W.Frag} {mg : Str → Option Value} {base : Heap} {f : Addr} {cdv : Value} {A : Around} {outer : List Env} {s : Shared} {H0 : Hp} {E : XK}
theorem blkOth (hr : Room 6 (LX P w K mg base f cdv A outer s H0 E).A) : PS (LX P w K mg base f cdv A outer s H0 E) (nth bTurn 7) (tOth K) := by
  have nd : NL.Nodup := scLaw.nd
  have base : PS (LX P w K mg base f cdv A outer s H0 E) (nth bTurn 7) _ :=
    ps_set (i := 10) nd rfl (Or.inl rfl) (pe_lst (pa_cons (pv 3) (pa_cons (pe_revL (pv 3)) (pa_cons (pe_slice sl_list (pv 3) po_none (po_some (pe_un un_neg pe_int))) (pa_cons (pe_op op_cat (pv 3) (pe_lst (pa_cons (pe_tup (pa_cons pe_str (pa_cons pe_str (pa_cons pe_bl pa_nil)))) pa_nil))) pa_nil)))))
  refine ⟨fun pins s' σ H D I h => base.run pins s' σ H D I ?_⟩
  clear base
  obtain ⟨a0, p, q, m, a, T', cs, cs2, ps, v2, v6, v7, v8, v9, v10, v11, v12, v13, v14, v15, v16, v17, v18, rfl, F0, fin⟩ := h
  have P0 := F0.P
  have l5 := F0.l5
  have nn := F0.nn
  have n5 := F0.n5
  obtain ⟨pi, pl, eps⟩ := snoc_of F0.l1
  refine ⟨_, rfl, _, rfl, q, _, rfl, SqL.of P0.1, fun q1 n1 => ?_⟩
  have s1 := same_new (o := .lst (ps.map fun r => V.ref r.a).reverse) (Same.refl H) n1
  have f1 : (upd H q1 (.lst (ps.map fun r => V.ref r.a).reverse)) q1 = some (.lst (ps.map fun r => V.ref r.a).reverse) := upd_same
  generalize upd H q1 (.lst (ps.map fun r => V.ref r.a).reverse) = H1 at s1 f1 ⊢
  refine ⟨_, rfl, 1, rfl, -1, rfl, q, _, rfl, SqL.of (P0.same s1).1, fun q2 n2 => ?_⟩
  have ec : cutV (ps.map fun r => V.ref r.a) none (some (-1)) = pi.map fun r => V.ref r.a := by
    rw [eps, List.map_append]
    exact cut_init
  rw [ec]
  have s2 := same_new (o := .lst (pi.map fun r => V.ref r.a)) s1 n2
  have f2 : (upd H1 q2 (.lst (pi.map fun r => V.ref r.a))) q2 = some (.lst (pi.map fun r => V.ref r.a)) := upd_same
  have f1 := up (o := .lst (pi.map fun r => V.ref r.a)) f1 n2
  generalize upd H1 q2 (.lst (pi.map fun r => V.ref r.a)) = H2 at s2 f1 f2 ⊢
  refine ⟨_, rfl, (by show 3 ≤ sizeLine; decide), fun q3 n3 => ?_⟩
  have s3 := same_new (o := .tup [.str "zzzzzzzz", .str "word", .bl true]) s2 n3
  have f3 : (upd H2 q3 (.tup [.str "zzzzzzzz", .str "word", .bl true])) q3 = some (.tup [.str "zzzzzzzz", .str "word", .bl true]) := upd_same
  have f1 := up (o := .tup [.str "zzzzzzzz", .str "word", .bl true]) f1 n3
  have f2 := up (o := .tup [.str "zzzzzzzz", .str "word", .bl true]) f2 n3
  generalize upd H2 q3 (.tup [.str "zzzzzzzz", .str "word", .bl true]) = H3 at s3 f1 f2 f3 ⊢
  refine ⟨(by show 1 ≤ sizeLine; decide), fun q4 n4 => ?_⟩
  have s4 := same_new (o := .lst [.ref q3]) s3 n4
  have f4 : (upd H3 q4 (.lst [.ref q3])) q4 = some (.lst [.ref q3]) := upd_same
  have f1 := up (o := .lst [.ref q3]) f1 n4
  have f2 := up (o := .lst [.ref q3]) f2 n4
  have f3 := up (o := .lst [.ref q3]) f3 n4
  generalize upd H3 q4 (.lst [.ref q3]) = H4 at s4 f1 f2 f3 f4 ⊢
  refine ⟨q, q4, _, _, rfl, rfl, (P0.same s4).1, f4, ?_, fun q5 n5' => ?_⟩
  · rw [List.length_map, sizeLine_eq]
    show _ + 1 ≤ _
    omega
  have s5 := same_new (o := .lst ((ps.map fun r => V.ref r.a) ++ [.ref q3])) s4 n5'
  have f5 : (upd H4 q5 (.lst ((ps.map fun r => V.ref r.a) ++ [.ref q3]))) q5 = some (.lst ((ps.map fun r => V.ref r.a) ++ [.ref q3])) := upd_same
  have f1 := up (o := .lst ((ps.map fun r => V.ref r.a) ++ [.ref q3])) f1 n5'
  have f2 := up (o := .lst ((ps.map fun r => V.ref r.a) ++ [.ref q3])) f2 n5'
  have f3 := up (o := .lst ((ps.map fun r => V.ref r.a) ++ [.ref q3])) f3 n5'
  generalize upd H4 q5 (.lst ((ps.map fun r => V.ref r.a) ++ [.ref q3])) = H5 at s5 f1 f2 f3 f5 ⊢
  refine ⟨(by show 4 ≤ sizeLine; decide), fun L nL => ?_⟩
  have sL := same_new (o := .lst [.ref q, .ref q1, .ref q2, .ref q5]) s5 nL
  have hL0 : H L = none := by
    cases e : H L with
    | none => rfl
    | some o => rw [s5 _ _ e] at nL; cases nL
  have nes : ∀ o ∈ [q, q1, q2, q5], o ≠ L := fun o ho => by
    simp only [List.mem_cons, List.not_mem_nil, or_false] at ho
    rcases ho with rfl | rfl | rfl | rfl
    · exact ne_of_none (P0.same s5).1 nL
    · exact ne_of_none f1 nL
    · exact ne_of_none f2 nL
    · exact ne_of_none f5 nL
  have f1 := up (o := .lst [.ref q, .ref q1, .ref q2, .ref q5]) f1 nL
  have f2 := up (o := .lst [.ref q, .ref q1, .ref q2, .ref q5]) f2 nL
  have f3 := up (o := .lst [.ref q, .ref q1, .ref q2, .ref q5]) f3 nL
  have f5 := up (o := .lst [.ref q, .ref q1, .ref q2, .ref q5]) f5 nL
  refine fin L [q, q1, q2, q5] _ upd_same hL0 nes (by show 4 ≤ 10; decide) ?_ sL
  have PL := P0.same sL
  generalize upd H5 L (.lst [.ref q, .ref q1, .ref q2, .ref q5]) = H6 at sL f1 f2 f3 f5 PL ⊢
  intro o ho
  simp only [List.mem_cons, List.not_mem_nil, or_false] at ho
  rcases ho with rfl | rfl | rfl | rfl
  · exact ⟨ps, PL, nn, by omega⟩
  · refine ⟨ps.reverse, ⟨by rw [f1, List.map_reverse], fun r hr => PL.2 r (List.mem_reverse.mp hr)⟩, ?_, by rw [List.length_reverse]; omega⟩
    rw [List.map_reverse]
    unfold List.Nodup
    rw [List.pairwise_reverse]
    exact List.Pairwise.imp (fun h e => h e.symm) nn
  · refine ⟨pi, ⟨f2, fun r hr => PL.2 r (by rw [eps]; exact List.mem_append_left _ hr)⟩, ?_, by rw [eps, List.length_append] at l5; omega⟩
    rw [eps, List.map_append] at nn
    exact (List.nodup_append.mp nn).1
  · refine ⟨ps ++ [⟨q3, "zzzzzzzz", "word", true⟩], ⟨by rw [f5, List.map_append]; rfl, fun r hr => ?_⟩, ?_, by rw [List.length_append]; show _ + 1 ≤ 6; omega⟩
    · rcases List.mem_append.mp hr with z | z
      · exact PL.2 r z
      · rw [List.mem_singleton.mp z]
        exact ⟨f3, (by decide +kernel : isNm (.str "zzzzzzzz") = true), .inr rfl⟩
    · rw [List.map_append]
      refine List.nodup_append.mpr ⟨nn, by simp, fun x hx y hy e => ?_⟩
      subst e
      have : x = "zzzzzzzz" := by simpa using hy
      subst this
      obtain ⟨r, hr, e⟩ := List.mem_map.mp hx
      have := n5 r hr
      rw [e] at this
      exact absurd this (by decide +kernel)
end
end K02
set_option Elab.async false
set_option linter.all false
set_option maxRecDepth 100000
set_option maxHeartbeats 4000000
namespace K02
open K34 PySem PySem.Spec PyProof.Rows L2 StX RevT LamX
section
variable {P : Program} {w : World} {K : PySem.W.Frag} {mg : Str → Option Value} {base : Heap} {f : Addr} {cdv : Value} {A : Around} {outer : List Env} {s : Shared} {H0 : Hp} {E : XK}
theorem blkOth2 (hr : Room 6 (LX P w K mg base f cdv A outer s H0 E).A) : PS (LX P w K mg base f cdv A outer s H0 E) (nth bTurn 8) (tOth2 K) := by
  have nd : NL.Nodup := scLaw.nd
  have base : PS (LX P w K mg base f cdv A outer s H0 E) (nth bTurn 8) _ :=
    ps_expr (pe_bm PySem.F.plainAttrs_list PySem.F.slot_list_append PySem.F.type_list_append mt_append (pv 10) (pa_cons (pe_op op_cat (pe_slice sl_list (pv 3) po_none (po_some (pe_un un_neg pe_int))) (pe_lst (pa_cons (pe_tup (pa_cons (pe_ix ix_tup (pe_ix ix_list (pv 3) (pe_un un_neg pe_int) (fun _ _ => rfl)) pe_int (fun _ _ => rfl)) (pa_cons (pe_ix ix_tup (pe_ix ix_list (pv 3) (pe_un un_neg pe_int) (fun _ _ => rfl)) pe_int (fun _ _ => rfl)) (pa_cons (pe_not (pe_ix ix_tup (pe_ix ix_list (pv 3) (pe_un un_neg pe_int) (fun _ _ => rfl)) pe_int (fun _ _ => rfl))) pa_nil)))) pa_nil))) pa_nil))
  refine ⟨fun pins s' σ H D I h => base.run pins s' σ H D I ?_⟩
  clear base
  obtain ⟨a0, p, q, m, a, T', L, HB, os, cs, cs2, ps, v2, v6, v7, v8, v9, v11, v12, v13, v14, v15, v16, v17, v18, rfl, F0, hL0, sB, hL, lo, ho, hne, fin⟩ := h
  have P0 := F0.P.same sB
  have l5 := F0.l5
  have nn := F0.nn
  obtain ⟨pi, pl, eps⟩ := snoc_of F0.l1
  have hpl := P0.2 pl (by rw [eps]; exact List.mem_append_right _ (List.mem_singleton.mpr rfl))
  have ixl : atI (ps.map fun r => V.ref r.a) (-1) = some (.ref pl.a) := by
    rw [eps, List.map_append]
    exact atI_last _ _
  refine ⟨_, rfl, .inl ⟨rfl, _, SqL.of hL⟩, _, rfl, 1, rfl, -1, rfl, q, _, rfl, SqL.of P0.1, fun q2 n2 => ?_⟩
  have ec : cutV (ps.map fun r => V.ref r.a) none (some (-1)) = pi.map fun r => V.ref r.a := by
    rw [eps, List.map_append]
    exact cut_init
  rw [ec]
  have s2 := same_new (o := .lst (pi.map fun r => V.ref r.a)) (Same.refl H) n2
  have f2 : (upd H q2 (.lst (pi.map fun r => V.ref r.a))) q2 = some (.lst (pi.map fun r => V.ref r.a)) := upd_same
  generalize upd H q2 (.lst (pi.map fun r => V.ref r.a)) = H2 at s2 f2 ⊢
  have P2 := P0.same s2
  have hp2 := s2 _ _ hpl.1
  refine ⟨_, rfl, 1, rfl, q, _, -1, .ref pl.a, rfl, rfl, SqL.of P2.1, ixl, pl.a, _, 0, _, rfl, rfl, SqT.of hp2, rfl, ?_⟩
  refine ⟨_, rfl, 1, rfl, q, _, -1, .ref pl.a, rfl, rfl, SqL.of P2.1, ixl, pl.a, _, 1, _, rfl, rfl, SqT.of hp2, rfl, ?_⟩
  refine ⟨_, rfl, 1, rfl, q, _, -1, .ref pl.a, rfl, rfl, SqL.of P2.1, ixl, pl.a, _, 2, _, rfl, rfl, SqT.of hp2, rfl, _, rfl, ?_⟩
  refine ⟨(by show 3 ≤ sizeLine; decide), fun q3 n3 => ?_⟩
  have s3 := same_new (o := .tup [.str pl.n, .str pl.k, .bl (!pl.b)]) s2 n3
  have f3 : (upd H2 q3 (.tup [.str pl.n, .str pl.k, .bl (!pl.b)])) q3 = some (.tup [.str pl.n, .str pl.k, .bl (!pl.b)]) := upd_same
  have f2 := up (o := .tup [.str pl.n, .str pl.k, .bl (!pl.b)]) f2 n3
  generalize upd H2 q3 (.tup [.str pl.n, .str pl.k, .bl (!pl.b)]) = H3 at s3 f2 f3 ⊢
  refine ⟨(by show 1 ≤ sizeLine; decide), fun q4 n4 => ?_⟩
  have s4 := same_new (o := .lst [.ref q3]) s3 n4
  have f4 : (upd H3 q4 (.lst [.ref q3])) q4 = some (.lst [.ref q3]) := upd_same
  have f2 := up (o := .lst [.ref q3]) f2 n4
  have f3 := up (o := .lst [.ref q3]) f3 n4
  generalize upd H3 q4 (.lst [.ref q3]) = H4 at s4 f2 f3 f4 ⊢
  have lpi : pi.length + 1 = ps.length := by rw [eps, List.length_append]; rfl
  refine ⟨q2, q4, _, _, rfl, rfl, f2, f4, ?_, fun q5 n5' => ?_⟩
  · rw [List.length_map, sizeLine_eq]
    show _ + 1 ≤ _
    omega
  have s5 := same_new (o := .lst ((pi.map fun r => V.ref r.a) ++ [.ref q3])) s4 n5'
  have f5 : (upd H4 q5 (.lst ((pi.map fun r => V.ref r.a) ++ [.ref q3]))) q5 = some (.lst ((pi.map fun r => V.ref r.a) ++ [.ref q3])) := upd_same
  have f3 := up (o := .lst ((pi.map fun r => V.ref r.a) ++ [.ref q3])) f3 n5'
  have f2' : q5 ≠ L := (ne_of_none (s4 _ _ hL) n5').symm
  generalize upd H4 q5 (.lst ((pi.map fun r => V.ref r.a) ++ [.ref q3])) = H5 at s5 f3 f5 ⊢
  refine ⟨L, _, _, rfl, rfl, s5 _ _ hL, by rw [List.length_map, sizeLine_eq]; omega, ?_⟩
  have sX : ∀ c o, c ≠ L → H5 c = some o → (upd H5 L (.lst (os.map V.ref ++ [.ref q5]))) c = some o := fun c o n e => by rw [upd_ne n]; exact e
  have hX : (upd H5 L (.lst (os.map V.ref ++ [.ref q5]))) L = some (.lst ((os ++ [q5]).map V.ref)) := by
    rw [upd_same, List.map_append]
    rfl
  generalize upd H5 L (.lst (os.map V.ref ++ [.ref q5])) = H6 at sX hX ⊢
  have keepPl : ∀ (o : Addr) (px : List Pl), o ≠ L → PlAt H5 o px → PlAt H6 o px := fun o px n h => ⟨sX _ _ n h.1, fun r hr => ⟨sX _ _ (ne_of (h.2 r hr).1 (s5 _ _ hL) (by intro z; cases z)) (h.2 r hr).1, (h.2 r hr).2⟩⟩
  refine fin (os ++ [q5]) H6 hX (by rw [List.length_append]; show _ + 1 ≤ 11; omega) (fun o hmem => ?_) fun c o e => sX c o (ne_of_none e hL0) (s5 _ _ (sB _ _ e))
  rcases List.mem_append.mp hmem with z | z
  · obtain ⟨px, h1, h2⟩ := ho o z
    exact ⟨px, keepPl o px (hne o z) (h1.same s5), h2⟩
  · rw [List.mem_singleton.mp z]
    refine ⟨pi ++ [⟨q3, pl.n, pl.k, !pl.b⟩], keepPl q5 _ f2' ⟨by rw [f5, List.map_append]; rfl, fun r hr => ?_⟩, ?_, by rw [List.length_append]; show _ + 1 ≤ 6; omega⟩
    · rcases List.mem_append.mp hr with z | z
      · exact (P0.same s5).2 r (by rw [eps]; exact List.mem_append_left _ z)
      · rw [List.mem_singleton.mp z]
        exact ⟨f3, hpl.2⟩
    · rw [eps] at nn
      rw [List.map_append] at nn ⊢
      exact nn
end
end K02
set_option Elab.async false
set_option linter.all false
set_option maxRecDepth 100000
set_option maxHeartbeats 4000000
namespace K02
open K34 PySem PySem.Spec PyProof.Rows L2 StX RevT LamX
def Pl.dat (r : Pl) : PyData := .tuple [.str r.n, .str r.k, .bool r.b]
theorem dp_rows {K : PySem.W.Frag} {H : Hp} : ∀ rs : List Pl, (∀ r ∈ rs, r.at_ H ∧ r.ok) → DpAll K H (rs.map fun r => V.ref r.a) (rs.map Pl.dat)
  | [], _ => .nil
  | r :: l, h => .cons (th_unk (h r List.mem_cons_self).1) (dp_rows l fun z hz => h z (List.mem_cons_of_mem _ hz))
theorem shaped_rows {rs : List Pl} (h : ∀ r ∈ rs, r.ok) : SeqAt.shaped (.list (rs.map Pl.dat)) = true := by
  have e1 : ∀ rs : List Pl, (∀ r ∈ rs, r.ok) → PyData.canLayAll0 (rs.map Pl.dat) = true := by
    intro rs
    induction rs with
    | nil => intro _; rfl
    | cons r l ih =>
      intro h
      have z := h r List.mem_cons_self
      show ((PyData.strOk r.n && (PyData.strOk r.k && true)) && PyData.canLayAll0 (l.map Pl.dat)) = true
      rw [ih fun x hx => h x (List.mem_cons_of_mem _ hx), word_ok (nm_word z.1), kd_ok z.2]
      rfl
  have e2 : ∀ rs : List Pl, PyData.depthAll (rs.map Pl.dat) ≤ 2 := by
    intro rs
    induction rs with
    | nil => simp [PyData.depthAll]
    | cons r l ih =>
      rw [List.map_cons]
      unfold Pl.dat at ih ⊢
      simp only [PyData.depthAll, PyData.depth]
      omega
  have e3 : (PyData.list (rs.map Pl.dat)).depth ≤ 64 := by
    have := e2 rs
    simp only [PyData.depth]
    omega
  show (PyData.canLayAll0 (rs.map Pl.dat) && decide ((PyData.list (rs.map Pl.dat)).depth ≤ 64)) = true
  rw [e1 rs h, decide_eq_true e3]
  rfl
theorem eqv_rows : ∀ xs ys : List Pl, PyData.eqvAll (xs.map Pl.dat) (ys.map Pl.dat) = decide (ys.map Pl.rw = xs.map Pl.rw) := by
  intro xs
  induction xs with
  | nil =>
    intro ys
    cases ys with
    | nil => rw [decide_eq_true rfl]; rfl
    | cons y l => rw [decide_eq_false (by simp)]; rfl
  | cons x r ih =>
    intro ys
    cases ys with
    | nil => rw [decide_eq_false (by simp)]; rfl
    | cons y l =>
      have e : PyData.eqv x.dat y.dat = decide (y.rw = x.rw) := by
        have e0 : PyData.eqv x.dat y.dat = decide (x.n = y.n ∧ x.k = y.k ∧ x.b = y.b) := by
          unfold Pl.dat
          rw [Bool.eq_iff_iff]
          simp [PyData.eqv, PyData.eqvAll]
        rw [e0]
        refine decide_eq_decide.mpr ⟨fun ⟨a, b, c⟩ => by unfold Pl.rw; rw [a, b, c], fun h => ?_⟩
        unfold Pl.rw at h
        injection h with a b c
        exact ⟨a.symm, b.symm, c.symm⟩
      show (PyData.eqv x.dat y.dat && PyData.eqvAll (r.map Pl.dat) (l.map Pl.dat)) = _
      rw [e, ih l, Bool.eq_iff_iff]
      simp
/-- the loop over the other lists -/
def tLook (K : PySem.W.Frag) : TS := fun D σ H => ∃ (a0 p q m a T L : Addr) (os cs cs2 : List Addr) (ps : List Pl) (v2 v6 v7 v8 v9 v11 v12 v13 v14 v15 v16 v17 v18 : Option V),
  σ = SL a0 p v2 (some (.ref q)) (some (.ref m)) (some (.ref a)) v6 v7 v8 v9 (some (.ref L)) v11 v12 v13 v14 v15 v16 v17 v18 ∧ TF K H q m a T cs cs2 ps ∧ H L = some (.lst (os.map V.ref)) ∧ os.length ≤ 11 ∧ OthAt H os ∧
  ∀ (v11 : Option V) (H' : Hp), Same H H' → D.nx (SL a0 p v2 (some (.ref q)) (some (.ref m)) (some (.ref a)) v6 v7 v8 v9 (some (.ref L)) v11 v12 v13 v14 v15 v16 v17 v18) H'
/-- own == and != of schemas -/
structure SchQ (P : Program) (w : World) (K : PySem.W.Frag) (mg : Str → Option Value) (base : Heap) (fQ : Addr) (fdQ : FuncData) : Prop where
  o : FnOk P w K mg base CX0 3 fQ fdQ ["self", "other"] (spSEq K)
  b : Binds K fdQ ["self", "other"] []
  s : PySem.W.findIn K (.ref (He.ga K "Schema")) "__eq__" = some (some (.ref fQ))
  i : PySem.W.isFn K (.ref fQ) = true
  n : PySem.W.findIn K (.ref (He.ga K "Schema")) "__ne__" = some (some (.builtin "object.__ne__"))
  d : He.ga K "Column" ≠ He.ga K "Schema"
section
variable {P : Program} {w : World} {K : PySem.W.Frag} {mg : Str → Option Value} {base : Heap} {f fQ : Addr} {fdQ : FuncData} {cdv : Value} {A : Around} {outer : List Env} {s : Shared} {H0 : Hp} {E : XK}
theorem blkLook (hr : Room 6 (LX P w K mg base f cdv A outer s H0 E).A) (T : TxY K mg) (Q' : SchQ P w K mg base fQ fdQ) (GS : Fn1 P w K mg base 6 "_law_schema" ["_law_plain"] (spLSch K)) : PS (LX P w K mg base f cdv A outer s H0 E) (nth bTurn 9) (tLook K) := by
  have nd : NL.Nodup := scLaw.nd
  have hu64 := hu64_of hr
  have hr3 : Room 3 (LX P w K mg base f cdv A outer s H0 E).A := hr.mono (by decide)
  have base : PS (LX P w K mg base f cdv A outer s H0 E) (nth bTurn 9) _ :=
    ps_for PassesOwn.never rfl (pi_list (pv 10)) (pg_name (i := 11) nd rfl (Or.inl rfl)) (pss_one (ps_if (PW.pt (pw_and (pt_chain op_lt op_lt pe_int (pe_callB call_len_seq (by rfl) T.C.len PySem.boot_len (pa_cons (pv 11) pa_nil)) pe_int)
      (pw_and1 (pt_cmpR op_ne (pe_cmpR (op_eqO Q'.o Q'.b hr3 Q'.s Q'.i) (pv 5) (pe_call GS.ok hr rfl GS.g GS.k GS.b .nil pass0 (pa_cons (pv 11) pa_nil)) (nomark _)) (pe_cmpR (op_eqD hu64) (pv 11) (pv 3) (nomark _)) (nomark _))))) (pss_one (ps_ret pe_bl)) pss_nil))
  refine ⟨fun pins s' σ H D I h => base.run pins s' σ H D I ?_⟩
  clear base
  obtain ⟨a0, p, q, m, a, T', L, os, cs, cs2, ps, v2, v6, v7, v8, v9, v11, v12, v13, v14, v15, v16, v17, v18, rfl, F0, hL, lo, ho, fin⟩ := h
  refine ⟨_, rfl, L, rfl, ⟨_, SqL.of hL⟩, for_list (K := K) (a := L) (xs := os.map V.ref) (fun i σ H' => ∃ v11 : Option V, σ = SL a0 p v2 (some (.ref q)) (some (.ref m)) (some (.ref a)) v6 v7 v8 v9 (some (.ref L)) v11 v12 v13 v14 v15 v16 v17 v18 ∧ Same H H') ⟨_, rfl, Same.refl H⟩ (fun i σ H' _ ⟨_, _, s⟩ => SqL.of (s _ _ hL)) ?_ (fun σ H' ⟨v11, e, s'⟩ => by subst e; exact fin v11 H' s')⟩
  rintro i x σ H1 hx ⟨u11, rfl, s1⟩
  rw [List.getElem?_map] at hx
  obtain ⟨o, hox, rfl⟩ := Option.map_eq_some_iff.mp hx
  obtain ⟨px, hp, hnd, l6⟩ := ho o (List.mem_of_getElem? hox)
  have hp1 := hp.same s1
  have F1 := F0.same s1
  have done : ∀ H', Same H1 H' → ∃ v11 : Option V, SL a0 p v2 (some (.ref q)) (some (.ref m)) (some (.ref a)) v6 v7 v8 v9 (some (.ref L)) (some (.ref o)) v12 v13 v14 v15 v16 v17 v18 = SL a0 p v2 (some (.ref q)) (some (.ref m)) (some (.ref a)) v6 v7 v8 v9 (some (.ref L)) v11 v12 v13 v14 v15 v16 v17 v18 ∧ Same H H' := fun H' s' => ⟨_, rfl, s1.trans s'⟩
  refine ⟨_, rfl, o, _, rfl, .inl (SqL.of hp1.1), _, _, rfl, rfl, _, rfl, ?_⟩
  refine ite2 (fun h1 => ?_) (fun h1 => ?_)
  · have h1 := of_decide_eq_true h1
    rw [List.length_map] at h1
    refine ⟨_, _, rfl, rfl, _, rfl, ?_⟩
    refine ite2 (fun h2 => ?_) (fun h2 => ?_)
    · have h2 := of_decide_eq_true h2
      rw [List.length_map] at h2
      refine ⟨_, rfl, _, rfl, o, px, rfl, hp1, by omega, by omega, hnd, fun a2 T2 c2 H2 s2 S2 => ?_⟩
      have F2 := F1.same s2
      obtain ⟨⟨dx, ha⟩, _⟩ := id F2.S
      refine ⟨a, dx, _, _, rfl, ha, T.toSchI.ty S2, by unfold PySem.W.notFirst; rw [beq_self_eq_true, Bool.true_or], a, T', cs, _, .ref a2, rfl, F2.S, .inr ⟨a2, T2, c2, _, rfl, S2, _, rfl, ?_⟩⟩
      have hp2 := hp1.same s2
      refine ⟨_, rfl, _, rfl, .list (px.map Pl.dat), .list (ps.map Pl.dat), .lst (SqL.of hp2.1) (dp_rows px hp2.2), .lst (SqL.of F2.P.1) (dp_rows ps F2.P.2), shaped_rows fun r hr => (hp2.2 r hr).2, shaped_rows fun r hr => (F2.P.2 r hr).2, rfl, _, rfl, ?_⟩
      have ee : PyData.eqv (.list (px.map Pl.dat)) (.list (ps.map Pl.dat)) = decide (ps.map Pl.rw = px.map Pl.rw) := by
        rw [← eqv_rows px ps]
        simp [PyData.eqv]
      refine itF (by rw [ee]; simp) ?_
      exact done H2 s2
    · refine iteF ?_
      exact done H1 (Same.refl H1)
  · refine ⟨_, rfl, ?_⟩
    refine iteF ?_
    exact done H1 (Same.refl H1)
end
end K02
set_option Elab.async false
set_option linter.all false
set_option maxRecDepth 100000
set_option maxHeartbeats 4000000
namespace K02
open K34 PySem PySem.Spec PyProof.Rows L2 StX RevT LamX
def tSelf (K : PySem.W.Frag) : TS := fun D σ H => ∃ (a0 p q m a T : Addr) (cs cs2 : List Addr) (ps : List Pl) (v2 v6 v7 v8 v9 v10 v11 v12 v13 v14 v15 v16 v17 v18 : Option V),
  σ = SL a0 p v2 (some (.ref q)) (some (.ref m)) (some (.ref a)) v6 v7 v8 v9 v10 v11 v12 v13 v14 v15 v16 v17 v18 ∧ TF K H q m a T cs cs2 ps ∧ D.nx σ H
/-- the first column, named -/
def tFirst (K : PySem.W.Frag) : TS := fun D σ H => ∃ (a0 p q m a T : Addr) (cs cs2 : List Addr) (ps : List Pl) (v2 v6 v7 v8 v9 v10 v11 v12 v13 v14 v15 v16 v17 v18 : Option V),
  σ = SL a0 p v2 (some (.ref q)) (some (.ref m)) (some (.ref a)) v6 v7 v8 v9 v10 v11 v12 v13 v14 v15 v16 v17 v18 ∧ TF K H q m a T cs cs2 ps ∧
  ∀ (c0 : Addr) (r : Rw), cs2[0]? = some c0 → ColAt K H c0 r.n r.k r.b → D.nx (SL a0 p v2 (some (.ref q)) (some (.ref m)) (some (.ref a)) v6 v7 v8 v9 v10 v11 (some (.ref c0)) v13 v14 v15 v16 v17 v18) H
theorem TF.first {K : PySem.W.Frag} {H : Hp} {q m a T : Addr} {cs cs2 : List Addr} {ps : List Pl} (h : TF K H q m a T cs cs2 ps) : ∃ (c0 : Addr) (r : Rw), cs2[0]? = some c0 ∧ ColAt K H c0 r.n r.k r.b := by
  have l := h.C.1
  have l1 := h.l1
  rw [List.length_map] at l
  have z : 0 < cs2.length := by omega
  have z2 : 0 < (ps.map Pl.rw).length := by rw [List.length_map]; omega
  exact ⟨cs2[0], (ps.map Pl.rw)[0], List.getElem?_eq_getElem z, h.C.2 0 _ _ (List.getElem?_eq_getElem z) (List.getElem?_eq_getElem z2)⟩
section
variable {P : Program} {w : World} {K : PySem.W.Frag} {mg : Str → Option Value} {base : Heap} {f fQ pN aN pC aC fL fI : Addr} {fdQ fdN fdC fdL fdI : FuncData} {cdv : Value} {A : Around} {outer : List Env} {s : Shared} {H0 : Hp} {E : XK}
theorem kit_col (T : TxY K mg) (Q' : SchQ P w K mg base fQ fdQ) : PySem.W.kitOne K (.ref (He.ga K "Column")) (.ref (He.ga K "Schema")) = some false := by
  unfold PySem.W.kitOne
  rw [if_neg (by intro z; exact Q'.d (Value.ref.inj (beq_iff_eq.mp z)))]
  show (if ((PySem.W.clsIn K (He.ga K "Schema")).isSome && PySem.W.typeIn K (.ref (He.ga K "Schema")) == some (.type "type")) = true then PySem.W.subIn K (.ref (He.ga K "Column")) (.ref (He.ga K "Schema")) else none) = some false
  rw [if_pos (by rw [T.cC, T.tC]; rfl)]
  exact T.ne
theorem blkSelf (hr : Room 6 (LX P w K mg base f cdv A outer s H0 E).A) (T : TxY K mg) (S : SchF P w K mg base pN aN pC aC fL fI fdN fdC fdL fdI) (Q' : SchQ P w K mg base fQ fdQ) : PS (LX P w K mg base f cdv A outer s H0 E) (nth bTurn 10) (tSelf K) := by
  have nd : NL.Nodup := scLaw.nd
  have hr4 : Room 4 (LX P w K mg base f cdv A outer s H0 E).A := hr.mono (by decide)
  have hr3 : Room 3 (LX P w K mg base f cdv A outer s H0 E).A := hr.mono (by decide)
  have hr2 : Room 2 (LX P w K mg base f cdv A outer s H0 E).A := hr.mono (by decide)
  have base : PS (LX P w K mg base f cdv A outer s H0 E) (nth bTurn 10) _ :=
    ps_if (PW.pt (pw_or (pt_cmpR (op_eqO Q'.o Q'.b hr3 Q'.s Q'.i) (pv 5) (pv 3) (nomark _)) (pw_or (pt_cmpR (op_eqO Q'.o Q'.b hr3 Q'.s Q'.i) (pv 5) (pe_prop (pv 5) T.cl S.pC S.oC hr2 S.bC .nil pass0 (by rfl)) (nomark _))
      (pw_or1 (pt_not (pt_cmpR (op_neO Q'.o Q'.b hr4 Q'.s Q'.i Q'.n T.hm) (pv 5) (pe_ix ix_list (pv 4) pe_int (fun _ _ => rfl)) (nomark _))))))) (pss_one (ps_ret pe_bl)) pss_nil
  refine ⟨fun pins s' σ H D I h => base.run pins s' σ H D I ?_⟩
  clear base
  obtain ⟨a0, p, q, m, a, T', cs, cs2, ps, v2, v6, v7, v8, v9, v10, v11, v12, v13, v14, v15, v16, v17, v18, rfl, F0, fin⟩ := h
  obtain ⟨⟨dx, ha⟩, _⟩ := id F0.S
  obtain ⟨c0, r0, e0, col⟩ := F0.first
  have nf : ∀ d : PyData, PySem.W.notFirst K (He.ga K "Schema") (.type (tyName d)) = true := fun d => by
    unfold PySem.W.notFirst
    rw [sub_ref d, Bool.or_eq_true]
    exact .inr rfl
  refine ⟨_, rfl, _, rfl, a, dx, _, .type (tyName (.list [])), rfl, ha, .base (.lst F0.P.1), nf (.list []), a, T', cs, _, .ref q, rfl, F0.S, .inl ⟨.type (tyName (.list [])), .base (.lst F0.P.1), T.other (.list []), false, rfl, _, rfl, ?_⟩⟩
  refine iteF ?_
  refine ⟨_, rfl, _, rfl, a, dx, _, rfl, ha, a, T', cs, _, rfl, F0.S, a, dx, _, .type (tyName (.tuple [])), rfl, ha, sqT_ty F0.S.2.1, nf (.tuple []), a, T', cs, _, .ref T', rfl, F0.S, .inl ⟨.type (tyName (.tuple [])), sqT_ty F0.S.2.1, T.other (.tuple []), false, rfl, _, rfl, ?_⟩⟩
  refine iteF ?_
  refine ⟨_, rfl, _, rfl, m, _, 0, .ref c0, rfl, rfl, SqL.of F0.M, atI_nat (j := 0) (by rw [List.getElem?_map, e0]; rfl), a, dx, _, .ref (He.ga K "Column"), rfl, ha, T.C.col col, ?_, a, T', cs, _, .ref c0, rfl, F0.S, .inl ⟨.ref (He.ga K "Column"), T.C.col col, kit_col T Q', false, rfl, _, rfl, ?_⟩⟩
  · unfold PySem.W.notFirst
    rw [Bool.or_eq_true]
    exact .inr (by show (PySem.W.mroIn K (He.ga K "Column") (.ref (He.ga K "Schema")) == some false) = true; rw [T.ne]; rfl)
  refine iteF ?_
  exact fin
theorem blkFirst (hr : Room 6 (LX P w K mg base f cdv A outer s H0 E).A) : PS (LX P w K mg base f cdv A outer s H0 E) (nth bTurn 11) (tFirst K) := by
  have nd : NL.Nodup := scLaw.nd
  have base : PS (LX P w K mg base f cdv A outer s H0 E) (nth bTurn 11) _ := ps_set (i := 12) nd rfl (Or.inr rfl) (pe_ix ix_list (pv 4) pe_int (fun _ _ => rfl))
  refine ⟨fun pins s' σ H D I h => base.run pins s' σ H D I ?_⟩
  clear base
  obtain ⟨a0, p, q, m, a, T', cs, cs2, ps, v2, v6, v7, v8, v9, v10, v11, v12, v13, v14, v15, v16, v17, v18, rfl, F0, fin⟩ := h
  obtain ⟨c0, r0, e0, col⟩ := F0.first
  exact ⟨_, rfl, m, _, 0, .ref c0, rfl, rfl, SqL.of F0.M, atI_nat (j := 0) (by rw [List.getElem?_map, e0]; rfl), fin c0 r0 e0 col⟩
end
end K02
set_option Elab.async false
set_option linter.all false
set_option maxRecDepth 100000
set_option maxHeartbeats 4000000
/-! the list of calls that are refused -/
namespace K02
open K34 PySem PySem.Spec PyProof.Rows L2 StX RevT LamX LamK
theorem pe_make0R {X : Cx} {CX : CXT} {k : Nat} {f C : Addr} {sp : Sp} {E : XK} {x : Str} {p pos : Pos} (M : Mk X.K C f) (F : FnR X.prog X.w X.K X.mg X.base CX k f sp) (hr : Room (k + 1) X.A) (hg : Gl X x) (hm : X.mg x = some (.ref C)) (hx : Passes CX X E) (hdb : (x == ("__debug__" : Str)) = false := by decide) :
    PE X (.Call (.Name x p) [] [] pos) (tMakeR C sp E tNil) :=
  ⟨fun pins s σ H Q I h => wpAny_Call_Name_kw (ld_glob I hg hm (PySem.W.callWith_K0 I.kIn M.kp (run_makeR M F hr hx I .nil h)) hdb)⟩
/-- what the lambdas look at -/
def FcAt (K : PySem.W.Frag) (σ : L2.St) (H : Hp) : Prop := ∃ (c0 m W w0 w1 w2 w3 w4 w5 : Addr) (r : Rw) (v : V) (d : PyData) (l : List V),
  σ[12]? = some (some (.ref c0)) ∧ ColAt K H c0 r.n r.k r.b ∧ σ[9]? = some (some v) ∧ Th K H v d ∧ σ[4]? = some (some (.ref m)) ∧ H m = some (.lst l) ∧ σ[14]? = some (some (.ref W)) ∧ H W = some (.lst [.ref w0, .ref w1, .ref w2, .ref w3, .ref w4, .ref w5]) ∧ ColAt K H w0 "aa" "number" false ∧ ColAt K H w1 "ab" "number" false
/-- the lambda raises InvalidSchema -/
def Good (K : PySem.W.Frag) (t : XK → TE) : Prop := ∀ (σ : L2.St) (H : Hp) (Q : VK), FcAt K σ H → (∀ (q : Addr) (H' : Hp), Same H H' → H' q = some (.tup [.str "schema", .bl true]) → Q (.ref q) H') → t (MetW K Q) σ H (fun _ H' => Q .non H')
def LmAt (X : Cx) (K : PySem.W.Frag) (q : Str) (H : Hp) (f : Addr) : Prop := ∃ (F : LF) (t : XK → TE), H f = some (LamO f F) ∧ H F.c = some (CodeO F.c F.qual) ∧ F.qual = q ∧ LamP X 5 F t ∧ Good K t
theorem LmAt.keep {X : Cx} {K : PySem.W.Frag} {q : Str} {H H' : Hp} {f L : Addr} {l : List V} (h : LmAt X K q H f) (hL : H L = some (.lst l)) (k : ∀ b o, b ≠ L → (∀ ps, o ≠ HO.tbl ps) → H b = some o → H' b = some o) : LmAt X K q H' f := by
  obtain ⟨F, t, h1, h2, h3⟩ := h
  exact ⟨F, t, k _ _ (ne_of h1 hL (by intro z; cases z)) (fun _ z => by cases z) h1, k _ _ (ne_of h2 hL (by intro z; cases z)) (fun _ z => by cases z) h2, h3⟩
theorem tabs_updL {T : List (Addr × Str)} {H : Hp} {L : Addr} {l l' : List V} (t : Tabs T H) (hL : H L = some (.lst l)) : Tabs T (upd H L (.lst l')) := fun z hz => by
  obtain ⟨ps, h1, h2, h3⟩ := t z hz
  refine ⟨ps, by rw [upd_ne (ne_of h1 hL (by intro y; cases y))]; exact h1, h2, fun pos cv hc => ?_⟩
  obtain ⟨c, e1, e2⟩ := h3 pos cv hc
  exact ⟨c, e1, by rw [upd_ne (ne_of e2 hL (by intro y; cases y))]; exact e2⟩
structure CallSt (X : Cx) (K : PySem.W.Frag) (q : Str) (T : List (Addr × Str)) (HB H : Hp) (L : Addr) (fs : List Addr) : Prop where
  n : HB L = none
  e : ExtN HB H
  t : Tabs T H
  l : H L = some (.lst (fs.map V.ref))
  k : fs.length ≤ 10
  a : ∀ f ∈ fs, LmAt X K q H f
def Kept (L : Addr) (H H' : Hp) : Prop := ∀ b o, b ≠ L → (∀ ps, o ≠ HO.tbl ps) → H b = some o → H' b = some o
def tApp (X : Cx) (K : PySem.W.Frag) (q : Str) (T : List (Addr × Str)) : TS := fun D σ H => ∃ (HB : Hp) (L : Addr) (fs : List Addr), σ[13]? = some (some (.ref L)) ∧ CallSt X K q T HB H L fs ∧ fs.length ≤ 9 ∧ ∀ (fs' : List Addr) (H' : Hp), fs'.length = fs.length + 1 → CallSt X K q T HB H' L fs' → Kept L H H' → D.nx σ H'
theorem rd_app {X : Cx} {K : PySem.W.Frag} {q : Str} {T : List (Addr × Str)} {mk : Addr → LF} {t : XK → TE} (hq : ∀ c, (mk c).qual = q) (hc : ∀ c, (mk c).c = c) (lp : ∀ c, LamP X 5 (mk c) t) (g : Good K t) {D : Ends} {σ : L2.St} {H : Hp} (h : tApp X K q T D σ H) :
    tDrop (tBM K "list" rAppend (tVar 13) (tCons (tLamV T mk) tNil)) D σ H := by
  obtain ⟨HB, L, fs, h13, C, l9, fin⟩ := h
  refine ⟨_, h13, .inl ⟨rfl, _, SqL.of C.l⟩, C.t, fun f c' H1 e1 T1 n1 k1 k2 => ?_⟩
  have hL1 := e1 _ _ C.l (fun _ z => by cases z)
  refine ⟨L, _, _, rfl, rfl, hL1, by rw [List.length_map, sizeLine_eq]; omega, ?_⟩
  have kp : Kept L H (upd H1 L (.lst (fs.map V.ref ++ [.ref f]))) := fun b o n nt e => by
    rw [upd_ne n]
    exact e1 _ _ e nt
  have hL2 : (upd H1 L (.lst (fs.map V.ref ++ [.ref f]))) L = some (.lst ((fs ++ [f]).map V.ref)) := by
    rw [upd_same, List.map_append]
    rfl
  refine fin (fs ++ [f]) _ (by rw [List.length_append]; rfl) ⟨C.n, fun b o e nt => kp b o (ne_of_none e C.n) nt (C.e _ _ e nt), tabs_updL T1 hL1, hL2, by rw [List.length_append]; show _ + 1 ≤ 10; omega, fun f' hf' => ?_⟩ kp
  rcases List.mem_append.mp hf' with z | z
  · exact (C.a f' z).keep C.l kp
  · rw [List.mem_singleton.mp z]
    refine ⟨mk c', t, ?_, ?_, hq c', lp c', g⟩
    · rw [upd_ne (ne_of k1 hL1 (by intro z; cases z))]
      exact k1
    · rw [hc, upd_ne (ne_of k2 hL1 (by intro z; cases z))]
      exact k2
theorem rd_appF {X : Cx} {K K' : PySem.W.Frag} {q : Str} {T : List (Addr × Str)} {params : Arguments} {body : Expr} {scope : Scope} {t : XK → TE} {D : Ends} {σ : L2.St} {H : Hp} (hq : X.env.qual ++ "<lambda>" = q) (sc : LamS X.env.scope scope)
    (bind : ∀ (q : Str) (cl : List (Str × Addr)) (pm cv ctv : Value), bindArgs (PySem.W.kla_fn "<lambda>" q params body scope cl pm cv ctv) ⟨[], []⟩ = pure [])
    (bd : ∀ (A : Around) (outer : List Env) (s : Shared) (H : Hp) (E : XK) (f c' : Addr), Room 5 (A.deeper (lamEnv X scope s.heap.objs.size f c')) → PE (lamCx X A outer s H E scope f c') body (t E)) (g : Good K t) (h : tApp X K q T D σ H) :
    tDrop (tBM K' "list" rAppend (tVar 13) (tCons (tLamV T (mkF X params body scope)) tNil)) D σ H := by
  have z := rd_app (mk := mkF X params body scope) (t := t) (fun _ => hq) (fun _ => rfl) (fun c => ⟨sc, rfl, rfl, bind, bd⟩) g h
  obtain ⟨x, h1, h2, h3⟩ := z
  obtain ⟨HB, L, fs, h13, C, l9, fin⟩ := h
  rw [h13] at h1
  cases h1
  exact ⟨_, h13, .inl ⟨rfl, _, SqL.of C.l⟩, h3⟩
theorem lmAt_F {X : Cx} {K : PySem.W.Frag} {q : Str} {params : Arguments} {body : Expr} {scope : Scope} {t : XK → TE} {H : Hp} {f c : Addr} (h1 : H f = some (LamO f (mkF X params body scope c))) (h2 : H c = some (CodeO c (mkF X params body scope c).qual)) (hq : X.env.qual ++ "<lambda>" = q) (sc : LamS X.env.scope scope)
    (bind : ∀ (q : Str) (cl : List (Str × Addr)) (pm cv ctv : Value), bindArgs (PySem.W.kla_fn "<lambda>" q params body scope cl pm cv ctv) ⟨[], []⟩ = pure [])
    (bd : ∀ (A : Around) (outer : List Env) (s : Shared) (H : Hp) (E : XK) (f c' : Addr), Room 5 (A.deeper (lamEnv X scope s.heap.objs.size f c')) → PE (lamCx X A outer s H E scope f c') body (t E)) (g : Good K t) : LmAt X K q H f :=
  ⟨mkF X params body scope c, t, h1, h2, hq, ⟨sc, rfl, rfl, bind, bd⟩, g⟩
section
variable {K : PySem.W.Frag}
theorem met_no {H : Hp} {Q : VK} (hQ : ∀ (q : Addr) (H' : Hp), Same H H' → H' q = some (.tup [.str "schema", .bl true]) → Q (.ref q) H') : ∀ H', Same H H' → MetW K Q (.ref (He.ga K "InvalidSchema")) none H' := fun H' s' =>
  .inl ⟨rfl, rfl, fun q nq => hQ q _ (same_new s' nq) upd_same⟩
def t0 (K : PySem.W.Frag) : XK → TE := fun E => tMakeR (He.ga K "Schema") (spSchR K) E tNil
theorem good0 : Good K (t0 K) := fun σ H Q _ hQ => fun x dx h1 h2 ne => rd_schNo (xs := []) (by decide) (.inl ⟨by decide, rfl⟩) h1 h2 ne (met_no hQ)
def t1 (K : PySem.W.Frag) : XK → TE := fun E => tMakeR (He.ga K "Schema") (spSchR K) E (tCons (tVar 12) (tCons (tVar 12) tNil))
theorem good1 : Good K (t1 K) := fun σ H Q ⟨c0, m, W, w0, w1, w2, w3, w4, w5, r, v, d, l, h12, hc, _⟩ hQ => ⟨_, h12, _, h12, fun x dx h1 h2 ne => rd_schNo (xs := [.ref c0, .ref c0]) (by show 2 ≤ 6; decide) (.inr (.inr ⟨[c0, c0], [r, r], rfl, ⟨rfl, fun i c r' e1 e2 => by
  match i, e1, e2 with
  | 0, e1, e2 => cases e1; cases e2; exact hc
  | 1, e1, e2 => cases e1; cases e2; exact hc
  | i + 2, e1, e2 => cases e1⟩, by show 1 ≤ 2; decide, by show 2 ≤ 5; decide, (decide_eq_false (by simp)).symm⟩)) h1 h2 ne (met_no hQ)⟩
def t2 (K : PySem.W.Frag) : XK → TE := fun E => tMakeR (He.ga K "Schema") (spSchR K) E (tCons (tVar 12) (tCons (tVar 9) tNil))
theorem good2 : Good K (t2 K) := fun σ H Q ⟨c0, m, W, w0, w1, w2, w3, w4, w5, r, v, d, l, h12, hc, h9, hv, _⟩ hQ => ⟨_, h12, _, h9, fun x dx h1 h2 ne => rd_schNo (xs := [.ref c0, v]) (by show 2 ≤ 6; decide) (.inr (.inl ⟨[true, false], rfl, (fun i y b e1 e2 => by
  match i, e1, e2 with
  | 0, e1, e2 => cases e1; cases e2; exact .col (r := r) hc
  | 1, e1, e2 => cases e1; cases e2; exact .th hv
  | i + 2, e1, e2 => cases e1), rfl, rfl⟩)) h1 h2 ne (met_no hQ)⟩
def t3 (K : PySem.W.Frag) : XK → TE := fun E => tMakeR (He.ga K "Schema") (spSchR K) E (tCons (tVar 4) tNil)
theorem good3 : Good K (t3 K) := fun σ H Q ⟨c0, m, W, w0, w1, w2, w3, w4, w5, r, v, d, l, h12, hc, h9, hv, h4, hm, _⟩ hQ => ⟨_, h4, fun x dx h1 h2 ne => rd_schNo (xs := [.ref m]) (by show 1 ≤ 6; decide) (.inr (.inl ⟨[false], rfl, (fun i y b e1 e2 => by
  match i, e1, e2 with
  | 0, e1, e2 => cases e1; cases e2; exact .lst hm
  | i + 1, e1, e2 => cases e1), rfl, rfl⟩)) h1 h2 ne (met_no hQ)⟩
def tW (K : PySem.W.Frag) (i : Int) : TE := tOp (rIxL K) (tVar 14) (tC (.int i))
def t4 (K : PySem.W.Frag) : XK → TE := fun E => tMakeR (He.ga K "Schema") (spSchR K) E (tCons (tW K 0) (tCons (tW K 1) (tCons (tW K 2) (tCons (tW K 3) (tCons (tW K 4) (tCons (tW K 5) tNil))))))
theorem good4 : Good K (t4 K) := fun σ H Q ⟨c0, m, W, w0, w1, w2, w3, w4, w5, r, v, d, l, h12, hc, h9, hv, h4, hm, h14, hW, _⟩ hQ =>
  have sq := SqL.of (K := K) hW
  ⟨_, h14, W, _, 0, _, rfl, rfl, sq, rfl, _, h14, W, _, 1, _, rfl, rfl, sq, rfl, _, h14, W, _, 2, _, rfl, rfl, sq, rfl, _, h14, W, _, 3, _, rfl, rfl, sq, rfl, _, h14, W, _, 4, _, rfl, rfl, sq, rfl, _, h14, W, _, 5, _, rfl, rfl, sq, rfl,
    fun x dx h1 h2 ne => rd_schNo (xs := [.ref w0, .ref w1, .ref w2, .ref w3, .ref w4, .ref w5]) (by show 6 ≤ 6; decide) (.inl ⟨by show ¬(1 ≤ 6 ∧ 6 ≤ 5); decide, rfl⟩) h1 h2 ne (met_no hQ)⟩
def t5 (K : PySem.W.Frag) : XK → TE := fun E => tMakeR (He.ga K "Schema") (spSchR K) E (tCons (tW K 0) (tCons (tW K 1) (tCons (tMake (He.ga K "Column") (spInit K) [.bl false] E (tCons (tC (.str "aa")) (tCons (tC (.str "word")) tNil))) tNil)))
theorem good5 : Good K (t5 K) := fun σ H Q ⟨c0, m, W, w0, w1, w2, w3, w4, w5, r, v, d, l, h12, hc, h9, hv, h4, hm, h14, hW, a0, a1⟩ hQ =>
  have sq := SqL.of (K := K) hW
  ⟨_, h14, W, _, 0, _, rfl, rfl, sq, rfl, _, h14, W, _, 1, _, rfl, rfl, sq, rfl, fun x dx h1 h2 ne => rd_init (n := "aa") (k := "word") (b := false) (by decide +kernel) (.inr rfl) h1 h2 ne fun H1 s1 c1 => ⟨rfl,
    fun y dy g1 g2 ne2 => rd_schNo (xs := [.ref w0, .ref w1, .ref x]) (by show 3 ≤ 6; decide) (.inr (.inr ⟨[w0, w1, x], [⟨"aa", "number", false⟩, ⟨"ab", "number", false⟩, ⟨"aa", "word", false⟩], rfl, ⟨rfl, fun i c r' e1 e2 => by
      match i, e1, e2 with
      | 0, e1, e2 => cases e1; cases e2; exact a0.same s1
      | 1, e1, e2 => cases e1; cases e2; exact a1.same s1
      | 2, e1, e2 => cases e1; cases e2; exact c1
      | i + 3, e1, e2 => cases e1⟩, by show 1 ≤ 3; decide, by show 3 ≤ 5; decide, (by decide +kernel)⟩)) g1 g2 ne2 (met_no fun q H' s' e => hQ q H' (s1.trans s') e)⟩⟩
end
end K02
set_option Elab.async false
set_option linter.all false
set_option maxRecDepth 100000
set_option maxHeartbeats 4000000
namespace K02
open K34 PySem PySem.Spec PyProof.Rows L2 StX RevT LamX LamK
theorem op_neDK {X : Cx} {K : PySem.W.Frag} (h : X.K = K) (hu : X.A.units + 64 < cLine) : OpR X (compareOp .NotEq) (rNeD K) := by
  subst h
  exact op_neD hu
theorem CallSt.same {X : Cx} {K : PySem.W.Frag} {q : Str} {T : List (Addr × Str)} {HB H H' : Hp} {L : Addr} {fs : List Addr} (C : CallSt X K q T HB H L fs) (s : Same H H') : CallSt X K q T HB H' L fs :=
  ⟨C.n, C.e.trans (ExtN.of s), tabs_same C.t s, s _ _ C.l, C.k, fun f hf => (C.a f hf).keep C.l fun b o _ _ e => s b o e⟩
def tCal (X : Cx) (K : PySem.W.Frag) (T : List (Addr × Str)) : TS := fun D σ H => Tabs T H ∧ ∀ (HB : Hp) (L : Addr) (fs : List Addr) (H' : Hp), ExtN H HB → CallSt X K qL T HB H' L fs → fs.length = 1 → D.nx (σ.set 13 (some (.ref L))) H'
def tWide (K : PySem.W.Frag) : TS := fun D σ H => ∃ (a0 p : Addr) (v2 v3 v4 v5 v6 v7 v8 v9 v10 v11 v12 v13 v14 v15 v16 v17 v18 : Option V), σ = SL a0 p v2 v3 v4 v5 v6 v7 v8 v9 v10 v11 v12 v13 v14 v15 v16 v17 v18 ∧ ∀ (W w0 w1 w2 w3 w4 w5 : Addr) (H' : Hp), Same H H' → H' W = some (.lst [.ref w0, .ref w1, .ref w2, .ref w3, .ref w4, .ref w5]) → ColAt K H' w0 "aa" "number" false → ColAt K H' w1 "ab" "number" false → H W = none → D.nx (SL a0 p v2 v3 v4 v5 v6 v7 v8 v9 v10 v11 v12 v13 (some (.ref W)) v15 v16 v17 v18) H'
def tLast (X : Cx) (K : PySem.W.Frag) (T : List (Addr × Str)) : TS := fun D σ H => ∃ (HB : Hp) (L : Addr) (fs : List Addr) (a0 p : Addr) (v2 v3 v4 v5 v6 v7 v8 v9 v10 v11 v12 v13 v14 v15 v16 v17 v18 : Option V), σ = SL a0 p v2 v3 v4 v5 v6 v7 v8 v9 v10 v11 v12 v13 v14 v15 v16 v17 v18 ∧ σ[13]? = some (some (.ref L)) ∧ CallSt X K qL T HB H L fs ∧ FcAt K σ H ∧ ∀ H', Same H H' → D.nx σ H'
section
variable {P : Program} {w : World} {K : PySem.W.Frag} {mg : Str → Option Value} {base : Heap} {f fI fS : Addr} {fdI : FuncData} {cdv : Value} {A : Around} {outer : List Env} {s : Shared} {H0 : Hp} {E : XK} {c PT : Addr}
theorem blkCal (T : TxY K mg) (MS : Mk K (He.ga K "Schema") fS) (GS : FnR P w K mg base (L2.CX P w) 4 fS (spSchR K)) (TB : TabB base mg c PT) (hcd : cdv = .ref c) : PS (LX P w K mg base f cdv A outer s H0 E) (nth bTurn 12) (tCal (LX P w K mg base f cdv A outer s H0 E) K [(PT, qL)]) := by
  have nd : NL.Nodup := scLaw.nd
  have base : PS (LX P w K mg base f cdv A outer s H0 E) (nth bTurn 12) _ :=
    ps_set (i := 13) nd rfl (Or.inl rfl) (pe_lst (pa_cons (pe_lamV (T := [(PT, qL)]) TB hcd (List.mem_singleton.mpr (by rfl)) (fun q hq _ => by rw [List.mem_singleton.mp hq]; rfl) (lamS_by (sc := defScope sLaw) (by decide +kernel)) (by rfl)) pa_nil))
  refine ⟨fun pins s' σ H D I h => base.run pins s' σ H D I ?_⟩
  clear base
  obtain ⟨hT, fin⟩ := h
  refine ⟨hT, fun g c' H1 e1 T1 n1 k1 k2 => ⟨(by show 1 ≤ sizeLine; decide), fun L nL => ?_⟩⟩
  have s2 := same_new (o := .lst [.ref g]) (Same.refl H1) nL
  refine fin H1 L [g] _ e1 ⟨nL, ExtN.of s2, tabs_same T1 s2, upd_same, by show 1 ≤ 10; decide, fun x hx => ?_⟩ rfl
  rw [List.mem_singleton.mp hx]
  exact lmAt_F (t := t0 K) (s2 _ _ k1) (s2 _ _ k2) rfl (lamS_by (sc := defScope sLaw) (by decide +kernel)) (fun _ _ _ _ _ => by rfl) (fun A outer s H E f c' hr' => pe_make0R MS GS hr' (by rfl) T.g (passes_call (takes_of rfl rfl rfl rfl) (fun _ _ _ _ h => h))) good0
theorem blkApp1 (T : TxY K mg) (MS : Mk K (He.ga K "Schema") fS) (GS : FnR P w K mg base (L2.CX P w) 4 fS (spSchR K)) (TB : TabB base mg c PT) (hcd : cdv = .ref c) : PS (LX P w K mg base f cdv A outer s H0 E) (nth bTurn 13) (tApp (LX P w K mg base f cdv A outer s H0 E) K qL [(PT, qL)]) := by
  have nd : NL.Nodup := scLaw.nd
  have base : PS (LX P w K mg base f cdv A outer s H0 E) (nth bTurn 13) _ :=
    ps_expr (pe_bm PySem.F.plainAttrs_list PySem.F.slot_list_append PySem.F.type_list_append mt_append (pv 13) (pa_cons (pe_lamV (T := [(PT, qL)]) TB hcd (List.mem_singleton.mpr (by rfl)) (fun q hq _ => by rw [List.mem_singleton.mp hq]; rfl) (lamS_by (sc := defScope sLaw) (by decide +kernel)) (by rfl)) pa_nil))
  exact ⟨fun pins s' σ H D I h => base.run pins s' σ H D I (rd_appF (t := t1 K) rfl (lamS_by (sc := defScope sLaw) (by decide +kernel)) (fun _ _ _ _ _ => by rfl) (fun A outer s H E f c' hr' => pe_makeR MS GS hr' (by rfl) T.g (passes_call (takes_of rfl rfl rfl rfl) (fun _ _ _ _ h => h)) (pa_cons (pv 12) (pa_cons (pv 12) pa_nil))) good1 h)⟩
theorem blkApp2 (T : TxY K mg) (MS : Mk K (He.ga K "Schema") fS) (GS : FnR P w K mg base (L2.CX P w) 4 fS (spSchR K)) (TB : TabB base mg c PT) (hcd : cdv = .ref c) : PS (LX P w K mg base f cdv A outer s H0 E) (nth bTurn 14) (tApp (LX P w K mg base f cdv A outer s H0 E) K qL [(PT, qL)]) := by
  have nd : NL.Nodup := scLaw.nd
  have base : PS (LX P w K mg base f cdv A outer s H0 E) (nth bTurn 14) _ :=
    ps_expr (pe_bm PySem.F.plainAttrs_list PySem.F.slot_list_append PySem.F.type_list_append mt_append (pv 13) (pa_cons (pe_lamV (T := [(PT, qL)]) TB hcd (List.mem_singleton.mpr (by rfl)) (fun q hq _ => by rw [List.mem_singleton.mp hq]; rfl) (lamS_by (sc := defScope sLaw) (by decide +kernel)) (by rfl)) pa_nil))
  exact ⟨fun pins s' σ H D I h => base.run pins s' σ H D I (rd_appF (t := t2 K) rfl (lamS_by (sc := defScope sLaw) (by decide +kernel)) (fun _ _ _ _ _ => by rfl) (fun A outer s H E f c' hr' => pe_makeR MS GS hr' (by rfl) T.g (passes_call (takes_of rfl rfl rfl rfl) (fun _ _ _ _ h => h)) (pa_cons (pv 12) (pa_cons (pv 9) pa_nil))) good2 h)⟩
theorem blkApp3 (T : TxY K mg) (MS : Mk K (He.ga K "Schema") fS) (GS : FnR P w K mg base (L2.CX P w) 4 fS (spSchR K)) (TB : TabB base mg c PT) (hcd : cdv = .ref c) : PS (LX P w K mg base f cdv A outer s H0 E) (nth bTurn 15) (tApp (LX P w K mg base f cdv A outer s H0 E) K qL [(PT, qL)]) := by
  have nd : NL.Nodup := scLaw.nd
  have base : PS (LX P w K mg base f cdv A outer s H0 E) (nth bTurn 15) _ :=
    ps_expr (pe_bm PySem.F.plainAttrs_list PySem.F.slot_list_append PySem.F.type_list_append mt_append (pv 13) (pa_cons (pe_lamV (T := [(PT, qL)]) TB hcd (List.mem_singleton.mpr (by rfl)) (fun q hq _ => by rw [List.mem_singleton.mp hq]; rfl) (lamS_by (sc := defScope sLaw) (by decide +kernel)) (by rfl)) pa_nil))
  exact ⟨fun pins s' σ H D I h => base.run pins s' σ H D I (rd_appF (t := t3 K) rfl (lamS_by (sc := defScope sLaw) (by decide +kernel)) (fun _ _ _ _ _ => by rfl) (fun A outer s H E f c' hr' => pe_makeR MS GS hr' (by rfl) T.g (passes_call (takes_of rfl rfl rfl rfl) (fun _ _ _ _ h => h)) (pa_cons (pv 4) pa_nil)) good3 h)⟩
theorem blkApp4 (T : TxY K mg) (MS : Mk K (He.ga K "Schema") fS) (GS : FnR P w K mg base (L2.CX P w) 4 fS (spSchR K)) (TB : TabB base mg c PT) (hcd : cdv = .ref c) : PS (LX P w K mg base f cdv A outer s H0 E) (nth bTurn 17) (tApp (LX P w K mg base f cdv A outer s H0 E) K qL [(PT, qL)]) := by
  have nd : NL.Nodup := scLaw.nd
  have base : PS (LX P w K mg base f cdv A outer s H0 E) (nth bTurn 17) _ :=
    ps_expr (pe_bm PySem.F.plainAttrs_list PySem.F.slot_list_append PySem.F.type_list_append mt_append (pv 13) (pa_cons (pe_lamV (T := [(PT, qL)]) TB hcd (List.mem_singleton.mpr (by rfl)) (fun q hq _ => by rw [List.mem_singleton.mp hq]; rfl) (lamS_by (sc := defScope sLaw) (by decide +kernel)) (by rfl)) pa_nil))
  exact ⟨fun pins s' σ H D I h => base.run pins s' σ H D I (rd_appF (t := t4 K) rfl (lamS_by (sc := defScope sLaw) (by decide +kernel)) (fun _ _ _ _ _ => by rfl) (fun A outer s H E f c' hr' => pe_makeR MS GS hr' (by rfl) T.g (passes_call (takes_of rfl rfl rfl rfl) (fun _ _ _ _ h => h)) (pa_cons (pe_ix (ix_listK (K := K) rfl) (pv 14) pe_int (fun _ _ => rfl)) (pa_cons (pe_ix (ix_listK (K := K) rfl) (pv 14) pe_int (fun _ _ => rfl)) (pa_cons (pe_ix (ix_listK (K := K) rfl) (pv 14) pe_int (fun _ _ => rfl)) (pa_cons (pe_ix (ix_listK (K := K) rfl) (pv 14) pe_int (fun _ _ => rfl)) (pa_cons (pe_ix (ix_listK (K := K) rfl) (pv 14) pe_int (fun _ _ => rfl)) (pa_cons (pe_ix (ix_listK (K := K) rfl) (pv 14) pe_int (fun _ _ => rfl)) pa_nil))))))) good4 h)⟩
theorem blkApp5 (T : TxY K mg) (MS : Mk K (He.ga K "Schema") fS) (GS : FnR P w K mg base (L2.CX P w) 4 fS (spSchR K)) (C : ColT K mg) (MC : Mk K (He.ga K "Column") fI) (GI : FnOk P w K mg base (L2.CX P w) 3 fI fdI psI (spInit K)) (FI : FInit K fI fdI) (TB : TabB base mg c PT) (hcd : cdv = .ref c) : PS (LX P w K mg base f cdv A outer s H0 E) (nth bTurn 18) (tApp (LX P w K mg base f cdv A outer s H0 E) K qL [(PT, qL)]) := by
  have nd : NL.Nodup := scLaw.nd
  obtain ⟨ds, vds, bP⟩ := bindPos FI
  have base : PS (LX P w K mg base f cdv A outer s H0 E) (nth bTurn 18) _ :=
    ps_expr (pe_bm PySem.F.plainAttrs_list PySem.F.slot_list_append PySem.F.type_list_append mt_append (pv 13) (pa_cons (pe_lamV (T := [(PT, qL)]) TB hcd (List.mem_singleton.mpr (by rfl)) (fun q hq _ => by rw [List.mem_singleton.mp hq]; rfl) (lamS_by (sc := defScope sLaw) (by decide +kernel)) (by rfl)) pa_nil))
  exact ⟨fun pins s' σ H D I h => base.run pins s' σ H D I (rd_appF (t := t5 K) rfl (lamS_by (sc := defScope sLaw) (by decide +kernel)) (fun _ _ _ _ _ => by rfl) (fun A outer s H E f c' hr' => pe_makeR MS GS hr' (by rfl) T.g (passes_call (takes_of rfl rfl rfl rfl) (fun _ _ _ _ h => h)) (pa_cons (pe_ix (ix_listK (K := K) rfl) (pv 14) pe_int (fun _ _ => rfl)) (pa_cons (pe_ix (ix_listK (K := K) rfl) (pv 14) pe_int (fun _ _ => rfl)) (pa_cons (pe_make MC GI (hr'.mono (by decide)) (by rfl) C.g bP vds (passes_call (takes_of rfl rfl rfl rfl) (fun _ _ _ _ h => h)) (pa_cons pe_str (pa_cons pe_str pa_nil))) pa_nil)))) good5 h)⟩
end
end K02
set_option Elab.async false
set_option linter.all false
set_option maxRecDepth 100000
set_option maxHeartbeats 4000000
namespace K02
open K34 PySem PySem.Spec PyProof.Rows L2 StX RevT LamX LamK
def six : List Str := ["aa", "ab", "ac", "ad", "ae", "af"]
theorem shaped_sch : SeqAt.shaped (.tuple [.str "schema", .bool true]) = true := by decide +kernel
section
variable {P : Program} {w : World} {K : PySem.W.Frag} {mg : Str → Option Value} {base : Heap} {f fI fS : Addr} {fdI : FuncData} {cdv : Value} {A : Around} {outer : List Env} {s : Shared} {H0 : Hp} {E : XK} {c PT : Addr}
theorem blkWide (hr : Room 6 (LX P w K mg base f cdv A outer s H0 E).A) (C : ColT K mg) (MC : Mk K (He.ga K "Column") fI) (GI : FnOk P w K mg base (L2.CX P w) 3 fI fdI psI (spInit K)) (FI : FInit K fI fdI) :
    PS (LX P w K mg base f cdv A outer s H0 E) (nth bTurn 16) (tWide K) := by
  have nd : NL.Nodup := scLaw.nd
  have hr4 : Room 4 (LX P w K mg base f cdv A outer s H0 E).A := hr.mono (by decide)
  obtain ⟨ds, vds, bP⟩ := bindPos FI
  have base : PS (LX P w K mg base f cdv A outer s H0 E) (nth bTurn 16) _ :=
    ps_set (i := 14) nd rfl (Or.inr rfl) (pe_lc (own := [("_law_title", 15)]) (g := gName 15) (tt := tYes) rfl nd (pi_list (pe_lst (pa_cons pe_str (pa_cons pe_str (pa_cons pe_str (pa_cons pe_str (pa_cons pe_str (pa_cons pe_str pa_nil)))))))) (blkOk_by (N := NL) (sc := defScope sLaw) (by decide +kernel))
      (fun _ _ _ _ _ => pg_name (i := 15) nd rfl (Or.inl rfl)) (fun _ _ _ _ _ => pts_nil) (fun _ _ _ _ _ => pe_make MC GI hr4 (by rfl) C.g bP vds passL (pa_cons (pv 15) (pa_cons pe_str pa_nil))))
  refine ⟨fun pins s' σ H D I h => base.run pins s' σ H D I ?_⟩
  clear base
  obtain ⟨a0, p, v2, v3, v4, v5, v6, v7, v8, v9, v10, v11, v12, v13, v14, v15, v16, v17, v18, rfl, fin⟩ := h
  refine ⟨(by show 6 ≤ sizeLine; decide), fun q nq => ?_⟩
  have s1 := same_new (o := .lst (six.map V.str)) (Same.refl H) nq
  have f1 : (upd H q (.lst (six.map V.str))) q = some (.lst (six.map V.str)) := upd_same
  have e1 : [V.str "aa", V.str "ab", V.str "ac", V.str "ad", V.str "ae", V.str "af"] = six.map V.str := rfl
  rw [e1]
  generalize upd H q (.lst (six.map V.str)) = H1 at s1 f1 ⊢
  refine ⟨q, rfl, ⟨_, SqL.of f1⟩, fun R hR => ?_⟩
  have hR : H1 R = none := hR
  refine lc_it (walk_list (K := K) (a := q) (xs := six.map V.str)) (fun i H3 => ∃ cs : List Addr, H3 R = some (.lst (cs.map V.ref)) ∧ cs.length = i ∧ (∀ (j : Nat) (c : Addr) (n : Str), cs[j]? = some c → six[j]? = some n → ColAt K H3 c n "number" false) ∧ Same H1 H3)
    ⟨[], upd_same, rfl, fun j c r z => by simp at z, same_new (Same.refl H1) hR⟩ (fun i H3 _ ⟨cs, _, _, _, y⟩ => SqL.of (y _ _ f1)) ?_ ?_
  · rintro i x' H3 H4 hi ⟨cs, y1, y2, y3, y4⟩ ⟨rfl, hx'⟩
    have hx' : (six.map V.str)[i]? = some x' := hx'
    rw [List.getElem?_map] at hx'
    obtain ⟨n, hni, rfl⟩ := Option.map_eq_some_iff.mp hx'
    have nok : isNm (.str n) = true := (by decide +kernel : ∀ n ∈ six, isNm (.str n) = true) n (List.mem_of_getElem? hni)
    refine ⟨rfl, ?_⟩
    unfold tYes
    dsimp only
    refine iteT ?_
    refine ⟨_, rfl, fun x dx n1 n2 ne => rd_init nok (.inl rfl) n1 n2 ne fun H5 s5 c5 => ⟨rfl, cs.map V.ref, s5 _ _ y1, ?_, cs ++ [x], ?_, ?_, fun j c' r' h1 h2 => ?_, fun b o e => ?_⟩⟩
    · rw [List.length_map, y2, sizeLine_eq]
      have : i < (six.map V.str).length := hi
      have h6 : (six.map V.str).length = 6 := rfl
      omega
    · rw [upd_same, List.map_append]
      rfl
    · rw [List.length_append, y2]
      rfl
    · have e5 := s5 _ _ y1
      by_cases hj : j < cs.length
      · rw [List.getElem?_append_left hj] at h1
        exact ((y3 j c' r' h1 h2).same s5).put e5
      · rw [List.getElem?_append_right (by omega)] at h1
        have ej : j = i := by
          have : j - cs.length < [x].length := (List.getElem?_eq_some_iff.mp h1).1
          simp only [List.length_singleton] at this
          omega
        subst ej
        rw [y2, Nat.sub_self] at h1
        cases h1
        rw [hni] at h2
        cases h2
        exact c5.put e5
    · rw [upd_ne (ne_of_none e hR)]
      exact s5 _ _ (y4 _ _ e)
  · rintro H3 ⟨cs, y1, y2, y3, y4⟩
    have y2 : cs.length = 6 := y2
    match cs, y2 with
    | [w0, w1, w2, w3, w4, w5], _ =>
      refine fin R w0 w1 w2 w3 w4 w5 H3 (s1.trans y4) y1 (y3 0 _ _ rfl rfl) (y3 1 _ _ rfl rfl) ?_
      cases e : H R with
      | none => rfl
      | some o => rw [s1 _ _ e] at hR; cases hR
theorem FcAt.same {σ : L2.St} {H H' : Hp} (h : FcAt K σ H) (s' : Same H H') : FcAt K σ H' := by
  obtain ⟨c0, m, W, w0, w1, w2, w3, w4, w5, r, v, d, l, h12, hc, h9, hv, h4, hm, h14, hW, a0, a1⟩ := h
  exact ⟨c0, m, W, w0, w1, w2, w3, w4, w5, r, v, d, l, h12, hc.same s', h9, hv.same s', h4, s' _ _ hm, h14, s' _ _ hW, a0.same s', a1.same s'⟩
theorem blkLast (hr7 : Room 7 (LX P w K mg base f cdv A outer s H0 E).A) (hga : (LX P w K mg base f cdv A outer s H0 E).A.guards = some []) (TM : MetT K mg) (M : MetF K mg) : PS (LX P w K mg base f cdv A outer s H0 E) (nth bTurn 19) (tLast (LX P w K mg base f cdv A outer s H0 E) K [(PT, qL)]) := by
  have nd : NL.Nodup := scLaw.nd
  have hu64 := hu64_of hr7
  have hr3 : Room 3 (LX P w K mg base f cdv A outer s H0 E).A := hr7.mono (by decide)
  refine ⟨fun pins s' σ H D I h => ?_⟩
  obtain ⟨HB, L, fs, a0, p, v2, v3, v4, v5, v6, v7, v8, v9, v10, v11, v12, v13, v14, v15, v16, v17, v18, eσ, h13, C, F, fin⟩ := h
  have base : PS (LX P w K mg base f cdv A outer s H0 E) (nth bTurn 19) _ :=
    ps_if (pt_cmpR (op_neD hu64) (pe_lcI (SV := fun z => z = σ) (own := [("_law_call", 18)]) (g := gName 18) (tt := tTest (tOp (rNeD K) (tCallK (LX P w K mg base f cdv A outer s H0 E) 5 qL σ (TTmet K) (tVar 18)) (tTup (tCons (tC (.str "schema")) (tCons (tC (.bl true)) tNil))))) rfl nd (pi_list (pv 13)) (blkOk_by (N := NL) (sc := defScope sLaw) (by decide +kernel))
      (fun _ _ _ _ _ => pg_name (i := 18) nd rfl (Or.inl rfl)) (fun s2 H2 C cl fp ⟨pins2, σ2, I2, e, far⟩ => pts_one (pt_cmpR (op_neDK (K := K) rfl hu64) (pe_callK (k := 5) (q := qL) (TT := TTmet K) (e ▸ I2) far (by rfl) M.g M.k M.lk M.hc M.b scMet (by rfl) (.inl rfl) (met_gives rfl TM hga hr3) hr7 (pv 18)) (pe_tup (pa_cons pe_str (pa_cons pe_bl pa_nil))) (nomark _))) (fun _ _ _ _ _ => pv 18)) (pe_lst pa_nil) (nomark _)) (pss_one (ps_ret pe_bl)) pss_nil
  refine base.run pins s' σ H D I ?_
  clear base
  subst eσ
  refine ⟨rfl, _, h13, L, rfl, ⟨_, SqL.of C.l⟩, fun R hR => ?_⟩
  have hR : H R = none := hR
  refine lc_it (walk_list (K := K) (a := L) (xs := fs.map V.ref)) (fun i H3 => H3 R = some (.lst []) ∧ Same H H3) ⟨upd_same, same_new (Same.refl H) hR⟩ (fun i H3 _ y => SqL.of (y.2 _ _ C.l)) ?_ ?_
  · rintro i x' H3 H4 hi ⟨y1, y2⟩ ⟨rfl, hx'⟩
    have hx' : (fs.map V.ref)[i]? = some x' := hx'
    rw [List.getElem?_map] at hx'
    obtain ⟨g, hg, rfl⟩ := Option.map_eq_some_iff.mp hx'
    obtain ⟨F', t, k1, k2, hq, lp, good⟩ := C.a g (List.mem_of_getElem? hg)
    refine ⟨rfl, ?_⟩
    refine ⟨_, rfl, g, F', t, rfl, y2 _ _ k1, y2 _ _ k2, hq, lp, y2 _ _ k1, good _ _ _ (F.same y2) fun q' H5 s5 f5 => ?_⟩
    refine ⟨(by show 2 ≤ sizeLine; decide), fun q6 n6 => ?_⟩
    have s6 := same_new (o := .tup [.str "schema", .bl true]) s5 n6
    have f6 : (upd H5 q6 (.tup [.str "schema", .bl true])) q6 = some (.tup [.str "schema", .bl true]) := upd_same
    have f5 := up (o := .tup [.str "schema", .bl true]) f5 n6
    refine ⟨.tuple [.str "schema", .bool true], .tuple [.str "schema", .bool true], .tup (SqT.of f5) (.cons (.str _) (.cons (.bl _) .nil)), .tup (SqT.of f6) (.cons (.str _) (.cons (.bl _) .nil)), shaped_sch, shaped_sch, _, rfl, ?_⟩
    refine itF (by decide +kernel) ?_
    exact ⟨s6 _ _ y1, y2.trans s6⟩
  · rintro H3 ⟨y1, y2⟩
    refine ⟨(by show 0 ≤ sizeLine; decide), fun z hz => ⟨.list [], .list [], .lst (SqL.of (up y1 hz)) .nil, .lst (SqL.of upd_same) .nil, rfl, rfl, _, rfl, ?_⟩⟩
    refine itF (by rfl) ?_
    exact fin _ (same_new y2 hz)
end
end K02
set_option Elab.async false
set_option linter.all false
set_option maxRecDepth 100000
set_option maxHeartbeats 4000000
/-! a turn of the law -/
namespace K02
open K34 PySem PySem.Spec PyProof.Rows L2 StX RevT LamX LamK
/-- all that the law's turn leans on -/
structure Wd (P : Program) (w : World) (K : PySem.W.Frag) (mg : Str → Option Value) (base : Heap) where
  T : TxY K mg
  C : ColT K mg
  TR : mg "range" = none
  TM : MetT K mg
  M : MetF K mg
  pN : Addr
  aN : Addr
  pC : Addr
  aC : Addr
  fL : Addr
  fI : Addr
  fdN : FuncData
  fdC : FuncData
  fdL : FuncData
  fdI : FuncData
  S : SchF P w K mg base pN aN pC aC fL fI fdN fdC fdL fdI
  fQ : Addr
  fdQ : FuncData
  Q : SchQ P w K mg base fQ fdQ
  fR : Addr
  fdR : FuncData
  GR : FnOk P w K mg base CX0 3 fR fdR ["self", "value"] (spSRow K)
  FR : FunD K "is_row" "Schema.is_row" (defArgs sSRow) (defBody sSRow) (defScope sSRow) [] [] fR fdR
  MR : Meth K (He.ga K "Schema") "is_row" fR
  fC : Addr
  fdCi : FuncData
  MC : Mk K (He.ga K "Column") fC
  GI : FnOk P w K mg base (L2.CX P w) 3 fC fdCi psI (spInit K)
  FI : FInit K fC fdCi
  fS : Addr
  MS : Mk K (He.ga K "Schema") fS
  GS : FnR P w K mg base (L2.CX P w) 4 fS (spSchR K)
  GCo : Fn1 P w K mg base 4 "_law_columns" ["_law_pen_here", "_law_most"] (spCols K)
  GLs : Fn1 P w K mg base 6 "_law_schema" ["_law_plain"] (spLSch K)
  GW : Fn1 P w K mg base 4 "_law_some_row" ["_law_pen_here", "_law_plain"] (spRow K)
  GB : Fn1 P w K mg base 4 "_law_bent_row" ["_law_pen_here", "_law_row"] (spBent K)
  GL : Fn1 P w K mg base 4 "_law_is_row" ["_law_plain", "_law_thing"] (spLRow K)
  GP : Fn1 P w K mg base 2 "_law_pick" ["_law_pen_here", "_law_options"] (spPick K)
  GA : Fn1 P w K mg base 3 "_law_any_value" ["_law_pen_here"] (spAny K)
  fT : Addr
  fdT : FuncData
  GT : FnG P w K mg base 5 fT fdT ["_law_schema_here", "_law_made", "_law_plain"] (spTit K)
  gT : mg "_law_titles_right" = some (.ref fT)
  kT : PySem.W.keepIn K (.ref fT) = true
  bT : Binds K fdT ["_law_schema_here", "_law_made", "_law_plain"] []
/-- the turn's first three statements: columns, schema, their look -/
def tStart (K : PySem.W.Frag) : TS := fun D σ H => ∃ (a0 p c : Addr) (ns : List Int) (t l : Int) (v2 v3 v4 v5 v6 v7 v8 v9 v10 v11 v12 v13 v14 v15 v16 v17 v18 : Option V),
  σ = SL a0 p v2 v3 v4 v5 v6 v7 v8 v9 v10 v11 v12 v13 v14 v15 v16 v17 v18 ∧ PenAt H p c ns t l ∧ t + 600 < 1000000000000 ∧
  ∀ (q m a T : Addr) (cs cs2 : List Addr) (ps : List Pl) (t' l' : Int) (H' : Hp), TF K H' q m a T cs cs2 ps → PenAt H' p c ns t' l' → t' ≤ t + 19 → But p H H' → D.nx (SL a0 p v2 (some (.ref q)) (some (.ref m)) (some (.ref a)) v6 v7 v8 v9 v10 v11 v12 v13 v14 v15 v16 v17 v18) H'
section
variable {P : Program} {w : World} {K : PySem.W.Frag} {mg : Str → Option Value} {base : Heap} {f : Addr} {cdv : Value} {A : Around} {outer : List Env} {s : Shared} {H0 : Hp} {E : XK}
theorem blkStart (W : Wd P w K mg base) (hr : Room 7 (LX P w K mg base f cdv A outer s H0 E).A) (hga : (LX P w K mg base f cdv A outer s H0 E).A.guards = some []) :
    ∀ {r : List Stmt} {tr : TS}, PSs (LX P w K mg base f cdv A outer s H0 E) r tr → PSs (LX P w K mg base f cdv A outer s H0 E) (nth bTurn 0 :: nth bTurn 1 :: nth bTurn 2 :: r) (fun D σ H => tStart K { D with nx := fun σ H => tr D σ H } σ H) := by
  intro r tr R
  have nd : NL.Nodup := scLaw.nd
  have hr6 : Room 6 (LX P w K mg base f cdv A outer s H0 E).A := hr.mono (by decide)
  have hr5 : Room 5 (LX P w K mg base f cdv A outer s H0 E).A := hr.mono (by decide)
  have hr4 : Room 4 (LX P w K mg base f cdv A outer s H0 E).A := hr.mono (by decide)
  obtain ⟨mv, bK⟩ := bindKw W.FI
  refine PSs.imp (pss_cons (ps_set (i := 3) nd rfl (Or.inl rfl) (pe_call W.GCo.ok hr4 rfl W.GCo.g W.GCo.k W.GCo.b .nil pass0 (pa_cons (pv 1) (pa_cons pe_int pa_nil))))
    (pss_cons (ps_asg (pe_tup (pa_cons (pe_lc (own := [("_law_title", 15), ("_law_sort", 16), ("_law_must", 17)]) (g := gTup K 3 (gCons (gName 15) (gCons (gName 16) (gCons (gName 17) gNil)))) (tt := tYes) rfl nd (pi_list (pv 3)) (blkOk_by (N := NL) (sc := defScope sLaw) (by decide +kernel))
        (fun _ _ _ _ _ => pg_tup rfl (pgs_cons (pg_name (i := 15) nd rfl (Or.inl rfl)) (pgs_cons (pg_name (i := 16) nd rfl (Or.inl rfl)) (pgs_cons (pg_name (i := 17) nd rfl (Or.inl rfl)) pgs_nil)))) (fun _ _ _ _ _ => pts_nil)
        (fun _ _ _ _ _ => pe_makeK W.MC W.GI hr4 (by rfl) W.C.g bK passL (pa_cons (pv 15) (pa_cons (pv 16) pa_nil)) (pk_cons (pv 17) pk_nil))) (pa_cons (pe_call W.GLs.ok hr6 rfl W.GLs.g W.GLs.k W.GLs.b .nil pass0 (pa_cons (pv 3) pa_nil)) pa_nil)))
      (pg_tup rfl (pgs_cons (pg_name (i := 4) nd rfl (Or.inr rfl)) (pgs_cons (pg_name (i := 5) nd rfl (Or.inr rfl)) pgs_nil))))
    (pss_cons (ps_if (pt_not (pt_val (pe_callG W.GT hga hr5 rfl W.gT W.kT W.bT (pa_cons (pv 5) (pa_cons (pv 4) (pa_cons (pv 3) pa_nil)))))) (pss_one (ps_ret pe_bl)) pss_nil) R))) fun D σ H h => ?_
  obtain ⟨a0, p, c, ns, t, l, v2, v3, v4, v5, v6, v7, v8, v9, v10, v11, v12, v13, v14, v15, v16, v17, v18, rfl, D0, ht, fin⟩ := h
  refine ⟨_, rfl, p, c, ns, t, l, rfl, D0, by omega, fun q ps t1 l1 H1 P1 nn n5 g1 l5 h1 D1 b1 => ?_⟩
  refine ⟨_, rfl, q, rfl, ⟨_, SqL.of P1.1⟩, fun R hR => ?_⟩
  have hR : H1 R = none := hR
  refine lc_it (walk_list (K := K) (a := q) (xs := ps.map fun r => V.ref r.a)) (fun i H3 => ∃ cs : List Addr, H3 R = some (.lst (cs.map V.ref)) ∧ cs.length = i ∧ (∀ (j : Nat) (c : Addr) (r : Pl), cs[j]? = some c → ps[j]? = some r → ColAt K H3 c r.n r.k r.b) ∧ Same H1 H3)
    ⟨[], upd_same, rfl, fun j c r z => by simp at z, same_new (Same.refl H1) hR⟩ (fun i H3 _ ⟨cs, _, _, _, y⟩ => SqL.of (y _ _ P1.1)) ?_ ?_
  · rintro i x' H3 H4 hi ⟨cs, y1, y2, y3, y4⟩ ⟨rfl, hx'⟩
    have hx' : (ps.map fun r => V.ref r.a)[i]? = some x' := hx'
    rw [List.getElem?_map] at hx'
    obtain ⟨r, hri, rfl⟩ := Option.map_eq_some_iff.mp hx'
    have hr := P1.2 r (List.mem_of_getElem? hri)
    refine ⟨r.a, _, rfl, SqT.of (y4 _ _ hr.1), rfl, _, _, rfl, _, _, rfl, _, _, rfl, rfl, rfl, ?_⟩
    unfold tYes
    dsimp only
    refine iteT ?_
    refine ⟨_, rfl, _, rfl, _, rfl, rfl, rfl, fun x dx n1 n2 ne => rd_init hr.2.1 hr.2.2 n1 n2 ne fun H5 s5 c5 => ⟨rfl, cs.map V.ref, s5 _ _ y1, ?_, cs ++ [x], ?_, ?_, fun j c' r' h1 h2 => ?_, fun b o e => ?_⟩⟩
    · rw [List.length_map, y2, sizeLine_eq]
      have : i < (ps.map fun r => V.ref r.a).length := hi
      rw [List.length_map] at this
      omega
    · rw [upd_same, List.map_append]
      rfl
    · rw [List.length_append, y2]
      rfl
    · have e5 := s5 _ _ y1
      by_cases hj : j < cs.length
      · rw [List.getElem?_append_left hj] at h1
        exact ((y3 j c' r' h1 h2).same s5).put e5
      · rw [List.getElem?_append_right (by omega)] at h1
        have ej : j = i := by
          have : j - cs.length < [x].length := (List.getElem?_eq_some_iff.mp h1).1
          simp only [List.length_singleton] at this
          omega
        subst ej
        rw [y2, Nat.sub_self] at h1
        cases h1
        rw [hri] at h2
        cases h2
        exact c5.put e5
    · rw [upd_ne (ne_of_none e hR)]
      exact s5 _ _ (y4 _ _ e)
  · rintro H3 ⟨cs2, y1, y2, y3, y4⟩
    rw [List.length_map] at y2
    have hc : CsAt K H3 cs2 (ps.map Pl.rw) := by
      refine ⟨by rw [List.length_map]; exact y2, fun i c r h1 h2 => ?_⟩
      rw [List.getElem?_map] at h2
      obtain ⟨p, hp, rfl⟩ := Option.map_eq_some_iff.mp h2
      exact y3 i c p h1 hp
    refine ⟨_, rfl, q, ps, rfl, P1.same y4, g1, l5, nn, fun a T' cs H5 s5 S5 => ?_⟩
    refine ⟨(by show 2 ≤ sizeLine; decide), fun tt nt => ?_⟩
    have s6 := same_new (o := .tup [.ref R, .ref a]) (Same.refl H5) nt
    have f6 : (upd H5 tt (.tup [.ref R, .ref a])) tt = some (.tup [.ref R, .ref a]) := upd_same
    generalize upd H5 tt (.tup [.ref R, .ref a]) = H6 at s6 f6 ⊢
    have s36 := s5.trans s6
    have F6 : TF K H6 q R a T' cs cs2 ps := ⟨P1.same (y4.trans s36), g1, l5, nn, n5, s36 _ _ y1, hc.same s36, S5.same s6⟩
    refine ⟨tt, _, rfl, SqT.of f6, rfl, _, _, rfl, _, _, rfl, rfl, ?_⟩
    refine ⟨_, rfl, _, rfl, _, rfl, a, T', R, q, cs, cs2, ps, rfl, F6.S, F6.M, F6.C, F6.P, l5, nn, fun H7 s7 => ⟨_, rfl, ?_⟩⟩
    refine iteF ?_
    exact fin q R a T' cs cs2 ps t1 l1 H7 (F6.same s7) (D1.same (y4.trans (s36.trans s7))) h1 (b1.trans (But.of (y4.trans (s36.trans s7))))
end
end K02
set_option Elab.async false
set_option linter.all false
set_option maxRecDepth 100000
set_option maxHeartbeats 4000000
/-! the law -/
namespace K02
open K34 PySem PySem.Spec PyProof.Rows L2 StX RevT LamX LamK
def tTurn (K : PySem.W.Frag) (T : List (Addr × Str)) : TS := fun D σ H => ∃ (a0 p c : Addr) (ns : List Int) (t l : Int) (v2 v3 v4 v5 v6 v7 v8 v9 v10 v11 v12 v13 v14 v15 v16 v17 v18 : Option V),
  σ = SL a0 p v2 v3 v4 v5 v6 v7 v8 v9 v10 v11 v12 v13 v14 v15 v16 v17 v18 ∧ Tabs T H ∧ PenAt H p c ns t l ∧ t + 600 < 1000000000000 ∧
  ∀ (v3 v4 v5 v6 v7 v8 v9 v10 v11 v12 v13 v14 : Option V) (t' l' : Int) (H' : Hp), Tabs T H' → PenAt H' p c ns t' l' → t' ≤ t + 300 → D.nx (SL a0 p v2 v3 v4 v5 v6 v7 v8 v9 v10 v11 v12 v13 v14 v15 v16 v17 v18) H'
section
variable {P : Program} {w : World} {K : PySem.W.Frag} {mg : Str → Option Value} {base : Heap} {f : Addr} {cdv : Value} {A : Around} {outer : List Env} {s : Shared} {H0 : Hp} {E : XK} {c PT : Addr}
theorem blkTurn (W : Wd P w K mg base) (hr : Room 7 (LX P w K mg base f cdv A outer s H0 E).A) (hga : (LX P w K mg base f cdv A outer s H0 E).A.guards = some []) (TB : TabB base mg c PT) (hcd : cdv = .ref c) :
    PSs (LX P w K mg base f cdv A outer s H0 E) bTurn (tTurn K [(PT, qL)]) := by
  have hr6 : Room 6 (LX P w K mg base f cdv A outer s H0 E).A := hr.mono (by decide)
  have rest : PSs (LX P w K mg base f cdv A outer s H0 E) (nth bTurn 3 :: nth bTurn 4 :: nth bTurn 5 :: nth bTurn 6 :: nth bTurn 7 :: nth bTurn 8 :: nth bTurn 9 :: nth bTurn 10 :: nth bTurn 11 :: nth bTurn 12 :: nth bTurn 13 :: nth bTurn 14 :: nth bTurn 15 :: nth bTurn 16 :: nth bTurn 17 :: nth bTurn 18 :: nth bTurn 19 :: []) _ :=
    pss_cons (blkAgain hr6 hga W.T W.TR W.GW W.GB W.GL W.GR W.FR W.MR) (pss_cons (blkOdd hr6 W.GP W.GA) (pss_cons (blkOut hr6 W.T W.S) (pss_cons (blkUnk hr6 hga W.T W.S W.TM W.M TB hcd)
      (pss_cons (blkOth hr6) (pss_cons (blkOth2 hr6) (pss_cons (blkLook hr6 W.T W.Q W.GLs) (pss_cons (blkSelf hr6 W.T W.S W.Q) (pss_cons (blkFirst hr6)
      (pss_cons (blkCal W.T W.MS W.GS TB hcd) (pss_cons (blkApp1 W.T W.MS W.GS TB hcd) (pss_cons (blkApp2 W.T W.MS W.GS TB hcd) (pss_cons (blkApp3 W.T W.MS W.GS TB hcd) (pss_cons (blkWide hr6 W.C W.MC W.GI W.FI)
      (pss_cons (blkApp4 W.T W.MS W.GS TB hcd) (pss_cons (blkApp5 W.T W.MS W.GS W.C W.MC W.GI W.FI TB hcd) (pss_one (blkLast (PT := PT) hr hga W.TM W.M)))))))))))))))))
  have base : PSs (LX P w K mg base f cdv A outer s H0 E) bTurn _ := blkStart W hr hga rest
  refine PSs.imp base fun D σ H h => ?_
  clear base
  obtain ⟨a0, p, c', ns, t, l, v2, v3, v4, v5, v6, v7, v8, v9, v10, v11, v12, v13, v14, v15, v16, v17, v18, rfl, hT, D0, ht, fin⟩ := h
  refine ⟨a0, p, c', ns, t, l, _, _, _, _, _, _, _, _, _, _, _, _, _, _, _, _, _, rfl, D0, ht, fun q m a T' cs cs2 ps t1 l1 H1 F1 D1 h1 b1 => ?_⟩
  refine ⟨a0, p, c', q, m, a, T', cs, cs2, ns, t1, l1, ps, _, _, _, _, _, _, _, _, _, _, _, _, _, _, rfl, F1, D1, by omega, fun w6 w7 w8 t2 l2 H2 b2 D2 h2 => ?_⟩
  have F2 := F1.but D1.d b2
  refine ⟨a0, p, c', q, m, a, T', cs, cs2, ns, t2, l2, ps, _, _, _, _, _, _, _, _, _, _, _, _, _, _, rfl, F2, D2, by omega, fun v d t3 l3 H3 O3 b3 D3 h3 => ?_⟩
  have F3 := F2.but D2.d b3
  refine ⟨a0, p, q, m, a, T', cs, cs2, ps, v, d, _, _, _, _, _, _, _, _, _, _, _, _, _, rfl, F3, O3, fun v d H4 O4 no4 s4 => ?_⟩
  have F4 := F3.same s4
  have T4 : Tabs [(PT, qL)] H4 := tabs_same (tabs_but (tabs_but (tabs_but hT D0.d b1) D1.d b2) D2.d b3) s4
  refine ⟨a0, p, q, m, a, T', cs, cs2, ps, v, d, _, _, _, _, _, _, _, _, _, _, _, _, _, rfl, F4, O4, no4, T4, fun H5 e5 T5 => ?_⟩
  have F5 := F4.ext e5
  refine ⟨a0, p, q, m, a, T', cs, cs2, ps, _, _, _, _, _, _, _, _, _, _, _, _, _, _, rfl, F5, fun L os H6 hL hL0 hne lo oth s6 => ?_⟩
  refine ⟨a0, p, q, m, a, T', L, H5, os, cs, cs2, ps, _, _, _, _, _, _, _, _, _, _, _, _, _, rfl, F5, hL0, s6, hL, lo, oth, hne, fun os H7 hL7 lo7 oth7 s7 => ?_⟩
  have F7 := F5.same s7
  refine ⟨a0, p, q, m, a, T', L, os, cs, cs2, ps, _, _, _, _, _, _, _, _, _, _, _, _, _, rfl, F7, hL7, lo7, oth7, fun w11 H8 s8 => ?_⟩
  have F8 := F7.same s8
  refine ⟨a0, p, q, m, a, T', cs, cs2, ps, _, _, _, _, _, _, _, _, _, _, _, _, _, _, rfl, F8, ?_⟩
  refine ⟨a0, p, q, m, a, T', cs, cs2, ps, _, _, _, _, _, _, _, _, _, _, _, _, _, _, rfl, F8, fun c0 r e0 col => ?_⟩
  have s58 : Same H5 H8 := s7.trans s8
  have T8 : Tabs [(PT, qL)] H8 := tabs_same T5 s58
  refine ⟨T8, fun HB LC fs H9 e9 C9 l9 => ?_⟩
  refine ⟨HB, LC, fs, rfl, C9, by omega, fun fs2 H10 l10 C10 k10 => ?_⟩
  refine ⟨HB, LC, fs2, rfl, C10, by omega, fun fs3 H11 l11 C11 k11 => ?_⟩
  refine ⟨HB, LC, fs3, rfl, C11, by omega, fun fs4 H12 l12 C12 k12 => ?_⟩
  refine ⟨a0, p, _, _, _, _, _, _, _, _, _, _, _, _, _, _, _, _, _, rfl, fun Wd w0 w1 w2 w3 w4 w5 H13 s13 hW ca cb nW => ?_⟩
  have C13 := C12.same s13
  have neW : Wd ≠ LC := (ne_of_none C12.l nW).symm
  refine ⟨HB, LC, fs4, rfl, C13, by omega, fun fs5 H14 l14 C14 k14 => ?_⟩
  refine ⟨HB, LC, fs5, rfl, C14, by omega, fun fs6 H15 l15 C15 k15 => ?_⟩
  have hW15 := k15 _ _ neW (fun _ z => by cases z) (k14 _ _ neW (fun _ z => by cases z) hW)
  have kc : ∀ {w : Addr} {n k : Str} {b : Bool}, ColAt K H13 w n k b → ColAt K H15 w n k b := fun {w n k b} ⟨dx, h⟩ => by
    have n1 := ne_of h C13.l (by intro z; cases z)
    exact ⟨dx, k15 _ _ n1 (fun _ z => by cases z) (k14 _ _ n1 (fun _ z => by cases z) h)⟩
  have e15 : ExtN H8 H15 := e9.trans C15.e
  have e515 : ExtN H4 H15 := (e5.trans (ExtN.of s58)).trans e15
  refine ⟨HB, LC, fs6, a0, p, _, _, _, _, _, _, _, _, _, _, _, _, _, _, _, _, _, rfl, rfl, C15, ?_, fun H16 s16 => ?_⟩
  · obtain ⟨dx, hc0⟩ := col
    exact ⟨c0, m, Wd, w0, w1, w2, w3, w4, w5, r, v, d, cs2.map V.ref, rfl, ⟨dx, e15 _ _ hc0 (fun _ z => by cases z)⟩, rfl, th_ext e515 O4.1, rfl, e15 _ _ F8.M (fun _ z => by cases z), rfl, hW15, kc ca, kc cb⟩
  · exact fin _ _ _ _ _ _ _ _ _ _ _ _ t3 l3 H16 (tabs_same C15.t s16) (pen_ext (D3.same s4) (e515.trans (ExtN.of s16))) (by omega)
end
end K02
set_option Elab.async false
set_option linter.all false
set_option maxRecDepth 100000
set_option maxHeartbeats 4000000
namespace K02
open K34 PySem PySem.Spec PyProof.Rows L2 StX RevT LamX LamK
theorem rd_schOkW {K : PySem.W.Frag} {H : Hp} {x dx : Addr} {cs : List Addr} {rs : List Rw} {W : VK} {E : XK} (hc : CsAt K H cs rs) (l1 : 1 ≤ cs.length) (l5 : cs.length ≤ 5) (nd : (rs.map (·.n)).Nodup) (hx : H x = none) (hd : H dx = none) (ne : dx ≠ x)
    (q : ∀ T H', Same H H' → SchAt K H' x T cs rs → W .non H') : spSchR K (.ref x :: cs.map V.ref) (upd (upd H dx (.own x)) x (.ins (He.ga K "Schema") dx [])) W E := by
  have s1 := same_ins (C := He.ga K "Schema") hx hd ne
  have ex : (upd (upd H dx (.own x)) x (.ins (He.ga K "Schema") dx [])) x = some (.ins (He.ga K "Schema") dx []) := upd_same
  generalize upd (upd H dx (.own x)) x (.ins (He.ga K "Schema") dx []) = H1 at s1 ex ⊢
  refine ⟨_, _, rfl, by rw [List.length_map]; omega, fun p hp => ?_⟩
  have s2 := same_new (o := .tup (cs.map V.ref)) (Same.refl H1) hp
  have ep : (upd H1 p (.tup (cs.map V.ref))) p = some (.tup (cs.map V.ref)) := upd_same
  have nx : p ≠ x := (ne_of_none ex hp).symm
  generalize upd H1 p (.tup (cs.map V.ref)) = H2 at s2 ep ⊢
  refine ⟨x, dx, p, _, true, rfl, s2 _ _ ex, SqT.of ep, by rw [List.length_map]; omega, .inr (.inr ⟨cs, rs, rfl, (hc.same s1).same s2, l1, l5, (decide_eq_true nd).symm⟩), (fun e => by cases e), fun _ H' bu hH' => ?_⟩
  have s3 : Same H H' := fun c o e => bu c o (ne_of_none e hx) (s2 _ _ (s1 _ _ e))
  exact q p H' s3 ⟨⟨dx, hH'⟩, SqT.of (bu _ _ nx ep), hc.same s3, by rw [← hc.1]; exact l5⟩
/-- the law's promise: its table stands empty -/
def spLaw (K : PySem.W.Frag) (PT : Addr) : Sp := fun vs H Q _ => ∃ (a : Addr) (ns : List Int), vs = [.ref a] ∧ SqL K H a (ns.map V.int) ∧ ns.length ≤ 63 ∧ H PT = some (.tbl #[]) ∧ ∀ H', Q (.bl true) H'
section
variable {P : Program} {w : World} {K : PySem.W.Frag} {mg : Str → Option Value} {base : Heap}
/-- okG for a def whose code object is known by its address -/
theorem okGc {x qual : Str} {params : Arguments} {body : List Stmt} {scope : Scope} {dvs : List V} {kws : List (Str × V)} {at_ : Str × Option Str} {fd : FuncData} {N ps : List Str} {k : Nat} {sp : Sp}
    (F : FunD K x qual params body scope dvs kws (He.fAd K at_) fd) (S : FnScope N ps scope) (len : ∀ vs H Q E, sp vs H Q E → vs.length = ps.length)
    (hbody : ∀ (A : Around) (outer : List Env) (s : Shared) (H : Hp) (vs : List V) (Q : VK) (E : XK), A.guards = some [] → Room k (A.deeper (envOfC qual scope s.heap.objs.size (He.fAd K at_) (.ref (He.codeOf K at_)))) → sp vs H Q E →
      ∃ t, PSs (cxOf CX0 P w K mg base N qual scope (He.fAd K at_) (.ref (He.codeOf K at_)) A outer s H E) body t ∧ t { nx := fun _ H' => Q .non H', rt := Q } (start N vs) H) : FnG P w K mg base (k + 1) (He.fAd K at_) fd ps sp := by
  obtain ⟨oc, od, dV, kV, doc, pm, an, cdv, ct, osl, rfl, lk, hcd, hD, hK⟩ := F.ex
  obtain ⟨c, rfl⟩ := He.codeIn_ref hcd
  have ec : He.codeOf K at_ = c := He.codeOf_eq lk rfl
  rw [ec] at hbody
  exact okGl lk hcd S len hbody
variable {fd : FuncData} {PT : Addr}
theorem ok_law (F : FunD K "law" "law" (defArgs sLaw) (defBody sLaw) (defScope sLaw) [] [] (He.fAd K ("law", none)) fd) (TB : TabB base mg (He.codeOf K ("law", none)) PT) (W : Wd P w K mg base)
    (GPen : Fn1 P w K mg base 1 "_law_pen" ["_law_script"] (spPen K)) : FnG P w K mg base 8 (He.fAd K ("law", none)) fd ["_law_script"] (spLaw K PT) := by
  refine okGc F scLaw (fun vs H Q E h => ?_) (fun A outer s H vs Q E hga hr h => ?_)
  · obtain ⟨a, ns, rfl, _⟩ := h
    rfl
  · obtain ⟨a, ns, rfl, hs, hn, hT, q⟩ := h
    have nd : NL.Nodup := scLaw.nd
    have hr7 : Room 7 (LX P w K mg base (He.fAd K ("law", none)) (.ref (He.codeOf K ("law", none))) A outer s H E).A := hr
    have hga7 : (LX P w K mg base (He.fAd K ("law", none)) (.ref (He.codeOf K ("law", none))) A outer s H E).A.guards = some [] := hga
    have BT := blkTurn W hr7 hga7 TB rfl
    obtain ⟨ds, vds, bI⟩ := bindPos W.FI
    refine ⟨_, PSs.nox (pss_cons (ps_set (i := 1) nd rfl (Or.inl rfl) (pe_call GPen.ok (hr7.mono (by decide)) rfl GPen.g GPen.k GPen.b .nil pass0 (pa_cons (pv 0) pa_nil)))
      (pss_cons (ps_for PassesOwn.never rfl (pi_range1 rfl W.TR (pa_cons pe_int pa_nil)) (pg_name (i := 2) nd rfl (Or.inl rfl)) BT)
      (pss_one (ps_ret (pe_cmpR op_eq (pe_callB (call_lenO W.S.oL W.S.bL (hr7.mono (by decide)) W.S.sL W.S.iL) (by rfl) W.T.C.len PySem.boot_len (pa_cons (pe_makeR W.MS W.GS (hr7.mono (by decide)) (by rfl) W.T.g passL (pa_cons (pe_make W.MC W.GI (hr7.mono (by decide)) (by rfl) W.C.g bI vds passL (pa_cons pe_str (pa_cons pe_str pa_nil))) pa_nil)) pa_nil)) pe_int (nomark _)))))), ?_⟩
    refine ⟨_, rfl, a, ns, rfl, hs, hn, fun p c ms H1 D s1 => ?_⟩
    have T1 : Tabs [(PT, qL)] H1 := fun z hz => by
      rw [List.mem_singleton.mp hz]
      exact TabS.nil (s1 _ _ hT)
    refine ⟨10, rfl, by decide, by decide, for_range (lo := 0) (n := 10) (fun i σ H' => ∃ (v2 v3 v4 v5 v6 v7 v8 v9 v10 v11 v12 v13 v14 v15 v16 v17 v18 : Option V) (t l : Int), σ = SL a p v2 v3 v4 v5 v6 v7 v8 v9 v10 v11 v12 v13 v14 v15 v16 v17 v18 ∧ Tabs [(PT, qL)] H' ∧ PenAt H' p c ms t l ∧ t ≤ 300 * (i : Int))
      ⟨_, _, _, _, _, _, _, _, _, _, _, _, _, _, _, _, _, 0, 0, rfl, T1, D, by decide⟩ ?_ ?_⟩
    · rintro i σ H2 hi ⟨v2, v3, v4, v5, v6, v7, v8, v9, v10, v11, v12, v13, v14, v15, v16, v17, v18, t, l, rfl, T2, D2, ht⟩
      refine ⟨a, p, c, ms, t, l, _, _, _, _, _, _, _, _, _, _, _, _, _, _, _, _, _, rfl, T2, D2, by omega, fun u3 u4 u5 u6 u7 u8 u9 u10 u11 u12 u13 u14 t' l' H3 T3 D3 h3 => ?_⟩
      exact ⟨_, _, _, _, _, _, _, _, _, _, _, _, _, _, _, _, _, t', l', rfl, T3, D3, by push_cast; omega⟩
    · rintro σ H2 ⟨v2, v3, v4, v5, v6, v7, v8, v9, v10, v11, v12, v13, v14, v15, v16, v17, v18, t, l, rfl, T2, D2, ht⟩
      refine fun x dx h1 h2 ne => rd_init (n := "a") (by decide +kernel) (.inr rfl) h1 h2 ne fun H5 s5 c5 => ⟨rfl, ?_⟩
      refine fun y dy g1 g2 ne2 => rd_schOkW (cs := [x]) (rs := [⟨"a", "word", false⟩]) ⟨rfl, fun i c r e1 e2 => ?_⟩ (by show 1 ≤ 1; decide) (by show 1 ≤ 5; decide) (by simp) g1 g2 ne2 fun T' H6 s6 S6 => ⟨rfl, ?_⟩
      · match i, e1, e2 with
        | 0, e1, e2 => cases e1; cases e2; exact c5
        | i + 1, e1, e2 => cases e1
      · obtain ⟨⟨dy6, hy⟩, _⟩ := id S6
        exact ⟨y, dy6, _, rfl, hy, y, T', _, _, rfl, S6, 1, rfl, by decide, rfl, q _⟩
end
end K02
set_option Elab.async false
set_option linter.all false
set_option maxRecDepth 100000
set_option maxHeartbeats 4000000
/-! the law's call where its def has a table and no guard runs -/
namespace K02
open K34 PySem PySem.Spec PyProof.Rows L2 LamX
abbrev emp : Obj := { cls := .none, data := .fields #[] }
theorem law_GT {P : Program} {w : World} {K : PySem.W.Frag} {mg mb : Str → Option Value} {k : Nat} {fa a c T : Addr} {fd : FuncData} {x : Str} {sp : Sp} {s1 : Shared} {vs : List Value} {ns : List Int}
    (kx : K.In s1.heap) (hns : s1.heap.Ns mainGlobals mg) (hb : s1.heap.Ns builtinsNs mb) (hbb : ∀ y : Str, y ≠ "__name__" → mb y = bootBuiltins y) (hlim : s1.heap.NoLimit) (hg : s1.gens = #[])
    (hT : s1.heap.get? T = some emp) (nT : K.lookup T = none) (hC : PySem.W.CodeHd s1.heap c T)
    (hM : ∃ (m : Addr) (o : Obj), mg "__builtins__" = some (.ref m) ∧ m ≠ builtinsNs ∧ s1.heap.get? m = some o ∧ o.cls = .type "module" ∧ o.dict = some builtinsNs ∧ o.data = .plain)
    (ha : s1.heap.get? a = some { cls := .type "list", data := .seq vs.toArray }) (hi : IntsAre vs ns) (hl : ns.length ≤ sizeLine) (hr : Room k callerA)
    (F : ∀ base : Heap, K.In base → base.Ns mainGlobals mg → TabB base mg c T → FnG P w K mg base k fa fd [x] sp) (hbd : ∀ (s : Shared) (u : Value), BindsTo s fd ⟨[u], []⟩ [(x, u)])
    (hsp : ∀ H : Hp, H T = some (.tbl #[]) → SqL K H a (ns.map V.int) → sp [.ref a] H (fun v _ => v = .bl true) fun _ _ _ => False) :
    codeAny (model P w) callerA (.call (.ref fa) ⟨[.ref a], []⟩) (fun r s' => r = .ok (.ret (.bool true)) ∧ OldK s1.heap s'.heap ∧ s'.os = s1.os ∧ AllBare s'.gens) s1 := by
  have rv := vals_ints hi
  have lv := hi.length
  have aT : a ≠ T := fun z => by
    rw [z, hT] at ha
    have y : Data.fields #[] = Data.seq vs.toArray _ := congrArg Obj.data (Option.some.inj ha)
    cases y
  have core : ∀ H : Hp, H T = some (.tbl #[]) → (∀ b, H b = none ∨ b = T ∨ ∃ ob xs, H b = some (.frz ob (.lst xs))) → SqL K H a (ns.map V.int) → HOk P w H s1.heap → (∀ b, H b ≠ none → b = a ∨ b = T) → (H a ≠ none → K.lookup a = none) →
      codeAny (model P w) callerA (.call (.ref fa) ⟨[.ref a], []⟩) (fun r s' => r = .ok (.ret (.bool true)) ∧ OldK s1.heap s'.heap ∧ s'.os = s1.os ∧ AllBare s'.gens) s1 := by
    intro H hH hO hS hok hA hK
    have bo : ∀ {b : Addr} {o : Obj}, s1.heap.get? b = some o → H b = none → (hidT s1.heap H).get? b = some o := fun e n => hidT_get e n
    -- what is neither a list nor an empty table is not tracked
    have far : ∀ {b : Addr} {o : Obj}, s1.heap.get? b = some o → (∀ us i, o.data = .seq us i → False) → (o.data = .fields #[] → False) → H b = none := fun {b o} e n1 n2 => by
      cases q : H b with
      | none => rfl
      | some u =>
        rcases hA b (by rw [q]; simp) with rfl | rfl
        · rw [ha] at e
          cases e
          exact (n1 _ _ rfl).elim
        · rw [hT] at e
          cases e
          exact (n2 rfl).elim
    have farD : ∀ {b : Addr} {o : Obj} {es : Array DictEntry} {ep : Nat}, s1.heap.get? b = some o → o.data = .dict es ep → H b = none := fun {b o es ep} e d =>
      far e (fun us i z => by rw [d] at z; cases z) (fun z => by rw [d] at z; cases z)
    have nsK : ∀ {b : Addr} {m : Str → Option Value}, s1.heap.Ns b m → (hidT s1.heap H).Ns b m := fun {b m} ⟨o, es, ep, e, d, r⟩ => ⟨o, es, ep, bo e (farD e d), d, r⟩
    have hKb : K.In (hidT s1.heap H) := fun b o e => bo (kx b o e) (by
      cases q : H b with
      | none => rfl
      | some u =>
        rcases hA b (by rw [q]; simp) with rfl | rfl
        · rw [hK (by rw [q]; simp)] at e
          cases e
        · rw [nT] at e
          cases e)
    have mod : L2.Mod K mg (hidT s1.heap H) := ⟨hKb, nsK hns, ⟨mb, nsK hb, hbb⟩, let ⟨mc, h1, h2⟩ := hlim; ⟨mc, nsK h1, h2⟩⟩
    have gT : mainGlobals ≠ T := fun z => by
      obtain ⟨o, es, ep, e, hd, _⟩ := hns
      rw [z, hT] at e
      cases e
      cases hd
    have tb : TabB (hidT s1.heap H) mg c T := by
      refine ⟨?_, ?_, gT⟩
      · obtain ⟨o, us, file, tf, fl, tg, inF, text, tt, e1, r⟩ := hC
        refine ⟨o, us, file, tf, fl, tg, inF, text, tt, bo e1 (far e1 (fun _ _ z => ?_) fun z => ?_), r⟩
        · rw [r.2.1] at z
          cases z
        · have r3 := r.2.2.1
          rw [r.2.1] at z
          cases z
          simp at r3
      · obtain ⟨m, o, m1, m2, m3, m4, m5, m6⟩ := hM
        refine ⟨m, o, m1, m2, fun z => ?_, fun z => ?_, bo m3 (far m3 (fun _ _ z => ?_) fun z => ?_), m4, m5, m6⟩
        · obtain ⟨o', es, ep, e, hd, _⟩ := hns
          rw [z, e] at m3
          cases m3
          rw [hd] at m6
          cases m6
        · rw [z, hT] at m3
          cases m3
          cases m6
        · rw [m6] at z
          cases z
        · rw [m6] at z
          cases z
    have e0 : Env0 P w K mg (hidT s1.heap H) callerA [] s1 H := ⟨rfl, mod, fun b o e => of_hidT e, Nat.le_of_eq (hidT_size _ _), trivial, fun b hb => absurd (show b ∈ ([] : List Addr) from hb) (by simp), hok, .of_eq hg⟩
    refine codeAny_mono ((F _ hKb (nsK hns) tb).go callerA [] s1 H ⟨[.ref a], []⟩ [.ref a] [.ref a] _ _ rfl hr e0 (hbd s1 (.ref a)) (.cons rfl .nil) (hsp H hH hS)) fun r s' h => ?_
    cases r with
    | error e => exact False.elim h
    | ok fl =>
      cases fl with
      | next => exact False.elim h
      | brk => exact False.elim h
      | cont => exact False.elim h
      | ret u =>
        obtain ⟨v, H', os, bare, un, hok', r', q⟩ := h
        have q' : v = .bl true := q
        subst q'
        obtain rfl : u = Value.bool true := r'
        have old : ∀ b o, b ≠ T → s1.heap.get? b = some o → s'.heap.get? b = some o := fun b o nb e => by
          rcases hO b with z | z | ⟨ob, xs, z⟩
          · exact un.keep b o e z (by intro y; exact absurd (show b ∈ ([] : List Addr) from y) (by simp)) (by simp)
          · exact absurd z nb
          · obtain ⟨e1, _⟩ := hok b _ z
            obtain ⟨e2, _⟩ := hok' b _ (un.frzs b ob _ z)
            rw [e] at e1
            cases e1
            exact e2
        obtain ⟨more, z⟩ := un.tbls T #[] hH
        have new := hok' T _ z
        refine ⟨rfl, ⟨fun b o e => ?_, fun b o e => ?_⟩, os, bare⟩
        · by_cases nb : b = T
          · subst nb
            rw [hT] at e
            cases e
            exact .inr (.inl ⟨(hC.tab hT).isCodeTable, rfl, #[], _, rfl, by rw [Array.empty_append]; exact new⟩)
          · exact .inl (old b o nb e)
        · by_cases nb : b = T
          · subst nb
            exact ⟨_, new⟩
          · exact ⟨o, old b o nb e⟩
  cases hk : K.lookup a with
  | some o =>
    have e := kx a o hk
    rw [ha] at e
    cases e
    refine core (fun b => if b = T then some (.tbl #[]) else none) (if_pos rfl) (fun b => ?_) (.inr ⟨_, vs.toArray, _, hk, rfl, rfl, rfl, by rw [List.size_toArray, lv]; exact hl, by simpa using rv⟩) (fun b u z => ?_) (fun b z => ?_) fun z => absurd (show (if a = T then some (HO.tbl #[]) else none) = none from if_neg aT) z
    · by_cases n : b = T
      · exact .inr (.inl n)
      · exact .inl (if_neg n)
    · by_cases n : b = T
      · have z' := (if_pos n).symm.trans z
        cases z'
        rw [n]
        exact hT
      · have z' := (if_neg n).symm.trans z
        cases z'
    · by_cases n : b = T
      · exact .inr n
      · exact absurd (if_neg n) z
  | none =>
    refine core (fun b => if b = T then some (.tbl #[]) else if b = a then some (.frz { cls := .type "list", data := .seq vs.toArray } (.lst (ns.map V.int))) else none) (if_pos rfl) (fun b => ?_) (.inl (.inr ⟨{ cls := .type "list", data := .seq vs.toArray }, (if_neg aT).trans (if_pos rfl)⟩)) (fun b u z => ?_) (fun b z => ?_) fun _ => hk
    · by_cases n : b = T
      · exact .inr (.inl n)
      · by_cases m : b = a
        · exact .inr (.inr ⟨_, _, (if_neg n).trans (if_pos m)⟩)
        · exact .inl ((if_neg n).trans (if_neg m))
    · by_cases n : b = T
      · have z' := (if_pos n).symm.trans z
        cases z'
        rw [n]
        exact hT
      · have z1 := (if_neg n).symm.trans z
        by_cases m : b = a
        · have z' := (if_pos m).symm.trans z1
          cases z'
          subst m
          exact ⟨ha, by rw [List.length_map]; exact hl, vs, _, rv, ha⟩
        · have z' := (if_neg m).symm.trans z1
          cases z'
    · by_cases n : b = T
      · exact .inr n
      · by_cases m : b = a
        · exact .inl m
        · exact absurd ((if_neg n).trans (if_neg m)) z
/-- a law whose def has a table -/
theorem walk_GT {l : PySem.W.OpenLaw} {n k : Nat} {q : Program} {loose : List Str} {XP : (Str → Option Value) → Heap → Prop} {YP : World → Heap → Prop} {d : DefRec} {x : Str}
    (hn : l.most = some n) (hn2 : n ≤ sizeLine) (hdf : d.params.defaults = []) (hr : Room k callerA)
    (F : ∀ (w : World) (mg : Str → Option Value) (fa : Addr) (h : Heap), YP w h → h.Ns mainGlobals mg → mg d.name = some (.ref fa) →
      ∃ (K : PySem.W.Frag) (fd : FuncData) (c T : Addr) (sp : Sp), K.In h ∧ h.get? T = some emp ∧ K.lookup T = none ∧ PySem.W.CodeHd h c T ∧ (∀ (s : Shared) (u : Value), BindsTo s fd ⟨[u], []⟩ [(x, u)]) ∧
        (∀ (H : Hp) (a : Addr) (ns : List Int), ns.length ≤ n → H T = some (.tbl #[]) → SqL K H a (ns.map V.int) → sp [.ref a] H (fun v _ => v = .bl true) fun _ _ _ => False) ∧
        ∀ base : Heap, K.In base → base.Ns mainGlobals mg → TabB base mg c T → FnG l.prog w K mg base k fa fd [x] sp) :
    PySem.W.WalkO q loose XP YP l.row.toRowW d [] (fun f vs => PySem.call f vs) := by
  refine Att.attach_call hn hdf fun w s0 s1 mg mb fa o pm cd doc a vs ns G Y ho hd hcd hmg hobj hints hlen hg => ?_
  obtain ⟨K, fd, c, T, sp, kx, h1, h2, h3, hb, hsp, hF⟩ := F w mg fa _ Y G.T.g hmg
  exact law_GT kx G.T.g G.T.b G.T.builtins G.T.nolimit hg h1 h2 h3 G.T.bmain hobj hints (Nat.le_trans hlen hn2) hr hF hb fun H hH hS => hsp H a ns hlen hH hS
end K02
set_option Elab.async false
set_option linter.all false
set_option maxRecDepth 100000
set_option maxHeartbeats 0
namespace K02
open K34 PySem PySem.Spec PyProof.Rows L2 StX RevT LamX LamK
section
variable {K : PySem.W.Frag}
theorem clsB_ok {C : Addr} {k : Kd} (h : clsB K C k = true) : ∃ nm q N bs sn sub ab col dd k0 k1 k2 k3 k5, K.lookup C = some (excClassObj nm q C N bs k.bm true sn sub ab col dd k0 k1 k2 k3 k5 k.newId) := by
  unfold clsB at h
  cases e : K.lookup C with
  | none =>
    rw [e] at h
    cases h
  | some o =>
    obtain ⟨oc, od, dt, sl⟩ := o
    rw [e] at h
    cases oc with
    | type t =>
      cases dt with
      | cls cd =>
        obtain ⟨h1, w1⟩ := He.ba h
        obtain ⟨h2, w2⟩ := He.ba w1
        obtain ⟨h3, w3⟩ := He.ba w2
        obtain ⟨h4, w4⟩ := He.ba w3
        clear h w1 w2 w3
        obtain ⟨nm, bs, mro, ns, qn, hd, sn, sb, ab, col, dl⟩ := cd
        have e1 : t = "type" := of_decide_eq_true h1
        have e2 : mro = .ref C :: k.bm := of_decide_eq_true h2
        have e3 : hd = true := h3
        have e4 : dl = false := by simpa using h4
        subst e1 e2 e3 e4
        obtain ⟨l⟩ := sl
        match l, w4 with
        | [k0, k1, k2, k3, some (.builtin n), k5], w4 =>
          have e5 : n = k.newId := of_decide_eq_true w4
          subst e5
          exact ⟨nm, qn, ns, bs, sn, sb, ab, col, od, k0, k1, k2, k3, k5, rfl⟩
      | _ => cases h
    | _ => cases h
theorem ecB_ok {C : Addr} {k : Kd} (h : ecB K C k = true) (s1 : PySem.W.specialIn K (.builtin "object.__class__") "__get__" = some (some (.builtin "getset_descriptor.__get__"))) (s2 : PySem.W.takesIn K (.builtin "object.__class__") = some true) : EC K C k := by
  obtain ⟨h1, h⟩ := He.ba h
  obtain ⟨h2, h⟩ := He.ba h
  obtain ⟨h3, h⟩ := He.ba h
  obtain ⟨h4, h⟩ := He.ba h
  obtain ⟨h5, h⟩ := He.ba h
  obtain ⟨h6, h⟩ := He.ba h
  obtain ⟨h7, h⟩ := He.ba h
  obtain ⟨h8, h9⟩ := He.ba h
  exact ⟨clsB_ok h1, He.eqO_ok h2, h3, ⟨He.eqO_ok h4, He.eqO_ok h5, of_decide_eq_true h6, h7, He.eqO_ok h8, s1, s2, of_decide_eq_true h9⟩⟩
theorem gt_ok {c0 m x q : Str} {st : Stmt} (e : gtW K c0 m = gtv x q st) (c : gtB K c0 m q = true) : ∃ fd, FunD K x q (defArgs st) (defBody st) (defScope st) [] [] (gtA K c0 m) fd := by
  obtain ⟨kp, c2⟩ := He.ba c
  unfold gtW gtv at e
  generalize gtA K c0 m = g at kp c2 e ⊢
  cases hg : K.lookup g with
  | none =>
    rw [hg] at e
    cases e
  | some o =>
    rw [hg] at e c2
    obtain ⟨oc, od, dt, sl⟩ := o
    cases dt with
    | func u =>
      obtain ⟨a1, a2, a3, a4, a5, a6, a7, a8, a9, a10, a11, a12, a13, a14, a15⟩ := u
      have e2 : (some (a1, a2, a3, a4, a5, a6, a7, a15) : He.FnW) = some (x, q, defArgs st, .stmts (defBody st), defScope st, mainGlobals, [], builtinsNs) := e
      simp only [Option.some.injEq, Prod.mk.injEq] at e2
      obtain ⟨rfl, rfl, rfl, rfl, rfl, rfl, rfl, rfl⟩ := e2
      obtain ⟨y1, y2⟩ := He.ba (show (PySem.W.codeIn K a13 a2 && (He.dflB K a8 [] && He.kwdB K a9 [])) = true from c2)
      obtain ⟨y3, y4⟩ := He.ba y2
      exact ⟨_, ⟨oc, od, a8, a9, a10, a11, a12, a13, a14, sl, rfl, hg, y1, He.dflB_ok y3, He.kwdB_ok y4⟩, kp⟩
    | _ => cases e
theorem pr_ok {c0 m : Str} (h : prB K c0 m = true) : PropOf K (He.ga K c0) m (He.ma K (He.ga K c0) m) (gtA K c0 m) := by
  obtain ⟨h1, h⟩ := He.ba h
  obtain ⟨h2, h⟩ := He.ba h
  obtain ⟨h3, h4⟩ := He.ba h
  refine ⟨He.eqO_ok h1, of_decide_eq_true h2, of_decide_eq_true h3, ?_⟩
  unfold gtA
  cases e : PySem.W.recIn K (He.ma K (He.ga K c0) m) "property" with
  | none =>
    rw [e] at h4
    cases h4
  | some l =>
    rw [e] at h4
    match l, h4 with
    | .ref g :: r, _ => exact ⟨r, rfl⟩
theorem dvs_v : ∀ l : List Str, (dvs l).map (He.Dv.v K) = l.map V.str
  | [] => rfl
  | x :: r => by
    show V.str x :: (dvs r).map (He.Dv.v K) = V.str x :: r.map V.str
    rw [dvs_v r]
theorem ex_at (h : exB K = true) (i : Nat) {b : Bool} (e : (exL K)[i]? = some b) : b = true := List.all_eq_true.mp h b (List.mem_of_getElem? e)
theorem err_ok {x : Str} {k : Kd} (h : errB K x k = true) (s1 : PySem.W.specialIn K (.builtin "object.__class__") "__get__" = some (some (.builtin "getset_descriptor.__get__"))) (s2 : PySem.W.takesIn K (.builtin "object.__class__") = some true) :
    EC K (He.ga K x) k ∧ PySem.W.findIn K (.ref (He.ga K x)) "__init__" = some (some (.ref (He.ma K (He.ga K x) "__init__"))) ∧ PySem.W.typeIn K (.ref (He.ma K (He.ga K x) "__init__")) = some (.type "function") := by
  obtain ⟨h1, h2⟩ := He.ba h
  obtain ⟨h2, h3⟩ := He.ba h2
  exact ⟨ecB_ok h1 s1 s2, He.eqO_ok h2, of_decide_eq_true h3⟩
theorem no_eq {p : Prop} [Decidable p] (h : (!decide p) = true) : ¬p := fun z => by
  rw [decide_eq_true z] at h
  cases h
end
theorem facts {P : Program} {w : World} {K : PySem.W.Frag} {h : Heap} {mg : Str → Option Value} {f : Addr} (S : Says1 h K) (G : h.Ns mainGlobals mg) (hfa : mg ("law" : Str) = some (.ref f)) :
    ∃ fd : FuncData, (∀ (s : Shared) (v : Value), BindsTo s fd ⟨[v], []⟩ [("_law_script", v)]) ∧ ∀ base : Heap, K.In base → base.Ns mainGlobals mg → TabB base mg (He.cT K ("law", none)).1 (He.cT K ("law", none)).2 →
      FnG P w K mg base 8 f fd ["_law_script"] (spLaw K (He.cT K ("law", none)).2) := by
  have X := S.kin
  have c := S.d
  have x0 : (errB K "InvalidName" .ve) = true := ex_at S.x 0 rfl
  have x1 : (errB K "InvalidKind" .ve) = true := ex_at S.x 1 rfl
  have x2 : (errB K "InvalidSchema" .ve) = true := ex_at S.x 2 rfl
  have x3 : (errB K "UnknownColumn" .ke) = true := ex_at S.x 3 rfl
  have x4 : (!decide (He.ga K "InvalidSchema" = He.ga K "UnknownColumn")) = true := ex_at S.x 4 rfl
  have x5 : (!decide (He.ga K "Column" = He.ga K "Schema")) = true := ex_at S.x 5 rfl
  have x6 : (He.tupB K "RESERVED" (dvs reserved)) = true := ex_at S.x 6 rfl
  have x7 : (He.tupB K "KINDS" (dvs kinds)) = true := ex_at S.x 7 rfl
  have x8 : ((PySem.W.clsIn K (He.ga K "Column")).isSome) = true := ex_at S.x 8 rfl
  have x9 : (decide (PySem.W.typeIn K (.ref (He.ga K "Column")) = some (.type "type"))) = true := ex_at S.x 9 rfl
  have x10 : (He.eqO (PySem.W.findIn K (.ref (He.ga K "Column")) "__class__") (some (some (.builtin "object.__class__")))) = true := ex_at S.x 10 rfl
  have x11 : (decide (PySem.W.mroIn K (He.ga K "Column") (.type "object") = some true)) = true := ex_at S.x 11 rfl
  have x12 : (He.eqO (PySem.W.findIn K (.ref (He.ga K "Column")) "__ne__") (some (some (.builtin "object.__ne__")))) = true := ex_at S.x 12 rfl
  have x13 : ((PySem.W.clsIn K (He.ga K "Schema")).isSome) = true := ex_at S.x 13 rfl
  have x14 : (decide (PySem.W.typeIn K (.ref (He.ga K "Schema")) = some (.type "type"))) = true := ex_at S.x 14 rfl
  have x15 : (He.eqO (PySem.W.findIn K (.ref (He.ga K "Schema")) "__class__") (some (some (.builtin "object.__class__")))) = true := ex_at S.x 15 rfl
  have x16 : (decide (PySem.W.mroIn K (He.ga K "Schema") (.type "object") = some true)) = true := ex_at S.x 16 rfl
  have x17 : (He.eqO (PySem.W.findIn K (.ref (He.ga K "Schema")) "__ne__") (some (some (.builtin "object.__ne__")))) = true := ex_at S.x 17 rfl
  have x18 : (decide (PySem.W.mroIn K (He.ga K "Column") (.ref (He.ga K "Schema")) = some false)) = true := ex_at S.x 18 rfl
  have x19 : (PySem.W.fnIn K (He.ma K (He.ga K "Schema") "__getitem__")) = true := ex_at S.x 19 rfl
  have x20 : (decide (PySem.W.specialIn K (.builtin "object.__class__") "__get__" = some (some (.builtin "getset_descriptor.__get__")))) = true := ex_at S.x 20 rfl
  have x21 : (decide (PySem.W.takesIn K (.builtin "object.__class__") = some true)) = true := ex_at S.x 21 rfl
  have x22 : (prB K "Column" "name") = true := ex_at S.x 22 rfl
  have x23 : (gtB K "Column" "name" "Column.name") = true := ex_at S.x 23 rfl
  have x24 : (prB K "Schema" "columns") = true := ex_at S.x 24 rfl
  have x25 : (gtB K "Schema" "columns" "Schema.columns") = true := ex_at S.x 25 rfl
  have x26 : (prB K "Schema" "names") = true := ex_at S.x 26 rfl
  have x27 : (gtB K "Schema" "names" "Schema.names") = true := ex_at S.x 27 rfl
  have z_int := He.free_ok X G (c.fact 0 (f := .free "int") rfl)
  have z_len := He.free_ok X G (c.fact 1 (f := .free "len") rfl)
  have z_abs := He.free_ok X G (c.fact 2 (f := .free "abs") rfl)
  have z_list := He.free_ok X G (c.fact 3 (f := .free "list") rfl)
  have z_repr := He.free_ok X G (c.fact 4 (f := .free "repr") rfl)
  have z_range := He.free_ok X G (c.fact 5 (f := .free "range") rfl)
  have z_isinstance := He.free_ok X G (c.fact 6 (f := .free "isinstance") rfl)
  have z_str := He.free_ok X G (c.fact 7 (f := .free "str") rfl)
  have z_bool := He.free_ok X G (c.fact 8 (f := .free "bool") rfl)
  have z_all := He.free_ok X G (c.fact 9 (f := .free "all") rfl)
  have z_zip := He.free_ok X G (c.fact 10 (f := .free "zip") rfl)
  have z_tuple := He.free_ok X G (c.fact 11 (f := .free "tuple") rfl)
  have z_ValueError := He.free_ok X G (c.fact 12 (f := .free "ValueError") rfl)
  have z_KeyError := He.free_ok X G (c.fact 13 (f := .free "KeyError") rfl)
  have z_max := He.int_ok X G (c.fact 14 (f := .int "MAX_NUMBER" 1000000000000000000000000000000) rfl)
  have z_let := He.int_ok X G (c.fact 15 (f := .int "MAX_LETTERS" 8) rfl)
  have z_cols := He.int_ok X G (c.fact 16 (f := .int "MAX_COLUMNS" 5) rfl)
  have g_Column := He.glo_ok X G (c.fact 17 (f := .glo "Column") rfl)
  have g_Schema := He.glo_ok X G (c.fact 18 (f := .glo "Schema") rfl)
  have g_KINDS := He.glo_ok X G (c.fact 19 (f := .glo "KINDS") rfl)
  have g_RESERVED := He.glo_ok X G (c.fact 20 (f := .glo "RESERVED") rfl)
  have g_InvalidName := He.glo_ok X G (c.fact 21 (f := .glo "InvalidName") rfl)
  have g_InvalidKind := He.glo_ok X G (c.fact 22 (f := .glo "InvalidKind") rfl)
  have g_InvalidSchema := He.glo_ok X G (c.fact 23 (f := .glo "InvalidSchema") rfl)
  have g_UnknownColumn := He.glo_ok X G (c.fact 24 (f := .glo "UnknownColumn") rfl)
  have g_is_number := He.glo_ok X G (c.fact 25 (f := .glo "is_number") rfl)
  have g_is_word := He.glo_ok X G (c.fact 26 (f := .glo "is_word") rfl)
  have g_is_name := He.glo_ok X G (c.fact 27 (f := .glo "is_name") rfl)
  have g__make_up_schema := He.glo_ok X G (c.fact 28 (f := .glo "_make_up_schema") rfl)
  have g__law_pen := He.glo_ok X G (c.fact 29 (f := .glo "_law_pen") rfl)
  have g__law_draw := He.glo_ok X G (c.fact 30 (f := .glo "_law_draw") rfl)
  have g__law_pick := He.glo_ok X G (c.fact 31 (f := .glo "_law_pick") rfl)
  have g__law_value := He.glo_ok X G (c.fact 32 (f := .glo "_law_value") rfl)
  have g__law_any_value := He.glo_ok X G (c.fact 33 (f := .glo "_law_any_value") rfl)
  have g__law_is_cell := He.glo_ok X G (c.fact 34 (f := .glo "_law_is_cell") rfl)
  have g__law_is_row := He.glo_ok X G (c.fact 35 (f := .glo "_law_is_row") rfl)
  have g__law_words := He.glo_ok X G (c.fact 36 (f := .glo "_law_words") rfl)
  have g__law_columns := He.glo_ok X G (c.fact 37 (f := .glo "_law_columns") rfl)
  have g__law_schema := He.glo_ok X G (c.fact 38 (f := .glo "_law_schema") rfl)
  have g__law_some_row := He.glo_ok X G (c.fact 39 (f := .glo "_law_some_row") rfl)
  have g__law_is_word := He.glo_ok X G (c.fact 40 (f := .glo "_law_is_word") rfl)
  have g__law_is_of := He.glo_ok X G (c.fact 41 (f := .glo "_law_is_of") rfl)
  have g__law_met := He.glo_ok X G (c.fact 42 (f := .glo "_law_met") rfl)
  have g__law_bent_row := He.glo_ok X G (c.fact 43 (f := .glo "_law_bent_row") rfl)
  have g__law_titles_right := He.glo_ok X G (c.fact 44 (f := .glo "_law_titles_right") rfl)
  have g_law := He.glo_ok X G (c.fact 45 (f := .glo "law") rfl)
  have cColumn := He.cls_ok (c.fact 46 (f := .cls "Column") rfl)
  have mkColumn := He.mkr_ok (c.fact 58 (f := .mkr "Column") rfl)
  have cSchema := He.cls_ok (c.fact 47 (f := .cls "Schema") rfl)
  have mkSchema := He.mkr_ok (c.fact 59 (f := .mkr "Schema") rfl)
  have n_name := He.noat_ok (c.fact 48 (f := .noat "Column" "_name") rfl)
  have n_kind := He.noat_ok (c.fact 49 (f := .noat "Column" "_kind") rfl)
  have n_is_required := He.noat_ok (c.fact 50 (f := .noat "Column" "_is_required") rfl)
  have n_columns := He.noat_ok (c.fact 51 (f := .noat "Schema" "_columns") rfl)
  have m_Column_is_value := He.meth_ok (c.fact 52 (f := .meth "Column" "is_value") rfl)
  have m_Column___eq__ := He.meth_ok (c.fact 53 (f := .meth "Column" "__eq__") rfl)
  have m_Schema_is_row := He.meth_ok (c.fact 54 (f := .meth "Schema" "is_row") rfl)
  have m_Schema___eq__ := He.meth_ok (c.fact 55 (f := .meth "Schema" "__eq__") rfl)
  have m_Schema___len__ := He.meth_ok (c.fact 56 (f := .meth "Schema" "__len__") rfl)
  have m_Schema___getitem__ := He.meth_ok (c.fact 57 (f := .meth "Schema" "__getitem__") rfl)
  have no_InvalidName : PySem.W.findIn K (.ref (He.ga K "InvalidName")) "value" = some none := He.noat_ok (c.fact 60 (f := .noat "InvalidName" "value") rfl)
  have no_InvalidKind : PySem.W.findIn K (.ref (He.ga K "InvalidKind")) "value" = some none := He.noat_ok (c.fact 61 (f := .noat "InvalidKind" "value") rfl)
  have no_UnknownColumn : PySem.W.findIn K (.ref (He.ga K "UnknownColumn")) "value" = some none := He.noat_ok (c.fact 62 (f := .noat "UnknownColumn" "value") rfl)
  obtain ⟨fd_InvalidName___init__, F_InvalidName___init__⟩ := c.def_ 0 (d := hd0) rfl
  obtain ⟨fd_InvalidKind___init__, F_InvalidKind___init__⟩ := c.def_ 1 (d := hd1) rfl
  obtain ⟨fd_InvalidSchema___init__, F_InvalidSchema___init__⟩ := c.def_ 2 (d := hd2) rfl
  obtain ⟨fd_UnknownColumn___init__, F_UnknownColumn___init__⟩ := c.def_ 3 (d := hd3) rfl
  obtain ⟨fd_Column___init__, F_Column___init__⟩ := c.def_ 4 (d := hd4) rfl
  obtain ⟨fd_Column_is_value, F_Column_is_value⟩ := c.def_ 5 (d := hd5) rfl
  obtain ⟨fd_Column___eq__, F_Column___eq__⟩ := c.def_ 6 (d := hd6) rfl
  obtain ⟨fd_Schema___init__, F_Schema___init__⟩ := c.def_ 7 (d := hd7) rfl
  obtain ⟨fd_Schema_is_row, F_Schema_is_row⟩ := c.def_ 8 (d := hd8) rfl
  obtain ⟨fd_Schema___eq__, F_Schema___eq__⟩ := c.def_ 9 (d := hd9) rfl
  obtain ⟨fd_Schema___len__, F_Schema___len__⟩ := c.def_ 10 (d := hd10) rfl
  obtain ⟨fd_Schema___getitem__, F_Schema___getitem__⟩ := c.def_ 11 (d := hd11) rfl
  obtain ⟨fd_is_number, F_is_number⟩ := c.def_ 12 (d := hd12) rfl
  obtain ⟨fd_is_word, F_is_word⟩ := c.def_ 13 (d := hd13) rfl
  obtain ⟨fd_is_name, F_is_name⟩ := c.def_ 14 (d := hd14) rfl
  obtain ⟨fd__make_up_schema, F__make_up_schema⟩ := c.def_ 15 (d := hd15) rfl
  obtain ⟨fd__law_pen, F__law_pen⟩ := c.def_ 16 (d := hd16) rfl
  obtain ⟨fd__law_draw, F__law_draw⟩ := c.def_ 17 (d := hd17) rfl
  obtain ⟨fd__law_pick, F__law_pick⟩ := c.def_ 18 (d := hd18) rfl
  obtain ⟨fd__law_value, F__law_value⟩ := c.def_ 19 (d := hd19) rfl
  obtain ⟨fd__law_any_value, F__law_any_value⟩ := c.def_ 20 (d := hd20) rfl
  obtain ⟨fd__law_is_cell, F__law_is_cell⟩ := c.def_ 21 (d := hd21) rfl
  obtain ⟨fd__law_is_row, F__law_is_row⟩ := c.def_ 22 (d := hd22) rfl
  obtain ⟨fd__law_words, F__law_words⟩ := c.def_ 23 (d := hd23) rfl
  obtain ⟨fd__law_columns, F__law_columns⟩ := c.def_ 24 (d := hd24) rfl
  obtain ⟨fd__law_schema, F__law_schema⟩ := c.def_ 25 (d := hd25) rfl
  obtain ⟨fd__law_some_row, F__law_some_row⟩ := c.def_ 26 (d := hd26) rfl
  obtain ⟨fd__law_is_word, F__law_is_word⟩ := c.def_ 27 (d := hd27) rfl
  obtain ⟨fd__law_is_of, F__law_is_of⟩ := c.def_ 28 (d := hd28) rfl
  obtain ⟨fd__law_met, F__law_met⟩ := c.def_ 29 (d := hd29) rfl
  obtain ⟨fd__law_bent_row, F__law_bent_row⟩ := c.def_ 30 (d := hd30) rfl
  obtain ⟨fd__law_titles_right, F__law_titles_right⟩ := c.def_ 31 (d := hd31) rfl
  obtain ⟨fd_law, F_law⟩ := c.def_ 32 (d := hd32) rfl
  have s1 := of_decide_eq_true x20
  have s2 := of_decide_eq_true x21
  obtain ⟨eN, iN, tN⟩ := err_ok x0 s1 s2
  obtain ⟨eK, iK, tK⟩ := err_ok x1 s1 s2
  obtain ⟨eS, iS, tS⟩ := err_ok x2 s1 s2
  obtain ⟨eU, iU, tU⟩ := err_ok x3 s1 s2
  have rs : ∀ H : Hp, SqT K H (He.ga K "RESERVED") (reserved.map V.str) := fun H => by
    have z := He.tupB_ok x6 H
    rw [dvs_v] at z
    exact z
  have ks : ∀ H : Hp, SqT K H (He.ga K "KINDS") (kinds.map V.str) := fun H => by
    have z := He.tupB_ok x7 H
    rw [dvs_v] at z
    exact z
  have g1 : gtW K "Column" "name" = gtv "name" "Column.name" sGetN := (List.cons.inj S.g).1
  have g2 : gtW K "Schema" "columns" = gtv "columns" "Schema.columns" sSCols := (List.cons.inj (List.cons.inj S.g).2).1
  have g3 : gtW K "Schema" "names" = gtv "names" "Schema.names" sSNames := (List.cons.inj (List.cons.inj (List.cons.inj S.g).2).2).1
  obtain ⟨fdN, F_N⟩ := gt_ok g1 x23
  obtain ⟨fdSC, F_SC⟩ := gt_ok g2 x25
  obtain ⟨fdSN, F_SN⟩ := gt_ok g3 x27
  have e := hfa.symm.trans g_law
  cases e
  have b := FunD.bindsA (ps := ["_law_script"]) F_law fun _ _ _ _ _ _ us hl => match us, hl with | [_], _ => rfl
  refine ⟨fd_law, fun s v => b s [v] rfl, fun base _ _ TB => ?_⟩
  have T1 : TxB mg := ⟨z_int, z_len, z_abs, z_list⟩
  have T2 : TxW mg := ⟨T1, z_isinstance, z_str, z_bool, z_all, z_max, z_let⟩
  have T3 : TxN K mg := ⟨T2, g_RESERVED, rs⟩
  have T4 : TxV K mg := ⟨T3, z_range⟩
  have CT : ColT K mg := ⟨T3, g_Column, cColumn, n_name, n_kind, n_is_required, g_KINDS, ks⟩
  have CI : ColI K mg := ⟨CT, x8, of_decide_eq_true x9, He.eqO_ok x10, s1, s2, of_decide_eq_true x11⟩
  have oE := ok_eq (P := P) (w := w) (base := base) F_Column___eq__ CI
  have CE : ColE P w K mg base _ fd_Column___eq__ := ⟨CI, oE, F_Column___eq__.bindsN fun _ _ _ _ _ _ us hl => match us, hl with | [_, _], _ => rfl, m_Column___eq__.at_, He.eqO_ok x12, m_Column___eq__.fn⟩
  have ST : SchT K mg := ⟨g_Schema, cSchema, n_columns⟩
  have SI : SchI K mg := ⟨ST, CI, x13, of_decide_eq_true x14, He.eqO_ok x15, of_decide_eq_true x16, of_decide_eq_true x18, z_tuple, z_zip⟩
  have TY : TxY K mg := ⟨SI, z_repr, z_list⟩
  have MT : MetT K mg := ⟨g_InvalidSchema, g_UnknownColumn, eS, eU, no_UnknownColumn, no_eq x4, z_isinstance, z_repr, z_ValueError, z_KeyError⟩
  obtain ⟨oN, bN⟩ := ok_eN (P := P) (w := w) (mg := mg) (base := base) F_InvalidName___init__ eN no_InvalidName
  obtain ⟨oK, bK⟩ := ok_eK (P := P) (w := w) (mg := mg) (base := base) F_InvalidKind___init__ eK no_InvalidKind
  obtain ⟨oS, bS⟩ := ok_eSc (P := P) (w := w) (mg := mg) (base := base) F_InvalidSchema___init__
  obtain ⟨oU, bU⟩ := ok_eUn (P := P) (w := w) (mg := mg) (base := base) F_UnknownColumn___init__ eU no_UnknownColumn
  have GI := ok_init (P := P) (w := w) (base := base) F_Column___init__ CT F_is_name g_is_name F_is_word g_is_word ⟨g_InvalidName, eN, iN, tN, oN⟩ bN ⟨g_InvalidKind, eK, iK, tK, oK⟩ bK
  have GV := ok_isval (P := P) (w := w) (base := base) F_Column_is_value CT F_is_number g_is_number F_is_word g_is_word
  have PN : PrT P w K mg base (He.ga K "Column") "name" (spGet K fun n _ _ => .str n) _ _ fdN := ⟨pr_ok x22, ok_getN F_N CT, F_N.bindsN fun _ _ _ _ _ _ us hl => match us, hl with | [_], _ => rfl⟩
  have GM := ok_mup (P := P) (w := w) (base := base) F__make_up_schema CI z_cols PN
  have GS : FnR P w K mg base (L2.CX P w) 4 _ (spSchR K) := ok_sinit (P := P) (w := w) (base := base) F_Schema___init__ ST GM g__make_up_schema F__make_up_schema.kp (F__make_up_schema.bindsN fun _ _ _ _ _ _ us hl => match us, hl with | [_], _ => rfl) ⟨g_InvalidSchema, eS, iS, tS, oS⟩ bS
  have SF : SchF P w K mg base _ _ _ _ _ _ fdSN fdSC fd_Schema___len__ fd_Schema___getitem__ := ⟨pr_ok x26, ok_snames F_SN SI PN, F_SN.bindsN fun _ _ _ _ _ _ us hl => match us, hl with | [_], _ => rfl, pr_ok x24, ok_scols F_SC SI, F_SC.bindsN fun _ _ _ _ _ _ us hl => match us, hl with | [_], _ => rfl,
    ok_slen F_Schema___len__ SI, F_Schema___len__.bindsN fun _ _ _ _ _ _ us hl => match us, hl with | [_], _ => rfl, m_Schema___len__.at_, m_Schema___len__.fn, ok_sitem F_Schema___getitem__ SI PN ⟨g_UnknownColumn, eU, iU, tU, oU⟩ bU, F_Schema___getitem__.bindsN fun _ _ _ _ _ _ us hl => match us, hl with | [_, _], _ => rfl, m_Schema___getitem__.at_, x19, m_Schema___getitem__.fn⟩
  have SQ : SchQ P w K mg base _ fd_Schema___eq__ := ⟨ok_seq F_Schema___eq__ SI CE, F_Schema___eq__.bindsN fun _ _ _ _ _ _ us hl => match us, hl with | [_, _], _ => rfl, m_Schema___eq__.at_, m_Schema___eq__.fn, He.eqO_ok x17, no_eq x5⟩
  have bV : Binds K fd_Column_is_value ["self", "value"] [] := F_Column_is_value.bindsN fun _ _ _ _ _ _ us hl => match us, hl with | [_, _], _ => rfl
  have GR := ok_srow (P := P) (w := w) (base := base) F_Schema_is_row SI GV bV m_Column_is_value
  have GO := ok_of (P := P) (w := w) (base := base) F__law_is_of T2 F__law_is_word g__law_is_word
  have GC := ok_cell (P := P) (w := w) (mg := mg) (base := base) F__law_is_cell GO g__law_is_of F__law_is_of.kp (F__law_is_of.bindsN fun _ _ _ _ _ _ us hl => match us, hl with | [_, _], _ => rfl)
  have bM : Binds K fd__law_met ["_law_call"] [] := F__law_met.bindsN fun _ _ _ _ _ _ us hl => match us, hl with | [_], _ => rfl
  have kM := F__law_met.kp
  have MF : MetF K mg := Classical.choice (by
    obtain ⟨oc, od, dV, kV, doc, pm, an, cdm, ct, osl, rfl, lkM, hcM, _, _⟩ := F__law_met.ex
    exact ⟨⟨_, dV, kV, doc, pm, cdm, ct, oc, an, od, osl, lkM, hcM, bM, g__law_met, kM⟩⟩)
  have W : Wd P w K mg base := {
    T := TY, C := CT, TR := z_range, TM := MT, M := MF
    pN := _, aN := _, pC := _, aC := _, fL := _, fI := _, fdN := _, fdC := _, fdL := _, fdI := _
    S := SF, fQ := _, fdQ := _, Q := SQ
    fR := _, fdR := _, GR := GR, FR := F_Schema_is_row, MR := m_Schema_is_row
    fC := _, fdCi := _, MC := mkColumn, GI := GI, FI := F_Column___init__
    fS := _, MS := mkSchema, GS := GS
    GCo := ⟨_, fd__law_columns, ok_cols F__law_columns T4 F__law_draw g__law_draw F__law_pick g__law_pick F__law_words g__law_words, g__law_columns, F__law_columns.kp, F__law_columns.bindsN fun _ _ _ _ _ _ us hl => match us, hl with | [_, _], _ => rfl⟩
    GLs := ⟨_, fd__law_schema, ok_lsch F__law_schema SI z_len CT mkColumn GI F_Column___init__ mkSchema GS, g__law_schema, F__law_schema.kp, F__law_schema.bindsN fun _ _ _ _ _ _ us hl => match us, hl with | [_], _ => rfl⟩
    GW := ⟨_, fd__law_some_row, ok_row F__law_some_row T1 z_tuple F__law_draw g__law_draw F__law_pick g__law_pick F__law_value g__law_value, g__law_some_row, F__law_some_row.kp, F__law_some_row.bindsN fun _ _ _ _ _ _ us hl => match us, hl with | [_, _], _ => rfl⟩
    GB := ⟨_, fd__law_bent_row, ok_bent F__law_bent_row T1 z_list F__law_draw g__law_draw F__law_pick g__law_pick F__law_any_value g__law_any_value, g__law_bent_row, F__law_bent_row.kp, F__law_bent_row.bindsN fun _ _ _ _ _ _ us hl => match us, hl with | [_, _], _ => rfl⟩
    GL := ⟨_, fd__law_is_row, ok_lrow F__law_is_row SI z_range GC g__law_is_cell F__law_is_cell.kp (F__law_is_cell.bindsN fun _ _ _ _ _ _ us hl => match us, hl with | [_, _], _ => rfl), g__law_is_row, F__law_is_row.kp, F__law_is_row.bindsN fun _ _ _ _ _ _ us hl => match us, hl with | [_, _], _ => rfl⟩
    GP := ⟨_, fd__law_pick, ok_pick F__law_pick T1 F__law_draw g__law_draw, g__law_pick, F__law_pick.kp, F__law_pick.bindsN fun _ _ _ _ _ _ us hl => match us, hl with | [_, _], _ => rfl⟩
    GA := ⟨_, fd__law_any_value, ok_any F__law_any_value T1 F__law_draw g__law_draw F__law_pick g__law_pick, g__law_any_value, F__law_any_value.kp, F__law_any_value.bindsN fun _ _ _ _ _ _ us hl => match us, hl with | [_], _ => rfl⟩
    fT := _, fdT := _, GT := ok_titles F__law_titles_right TY SF CE, gT := g__law_titles_right, kT := F__law_titles_right.kp, bT := F__law_titles_right.bindsN fun _ _ _ _ _ _ us hl => match us, hl with | [_, _, _], _ => rfl }
  exact ok_law F_law TB W ⟨_, fd__law_pen, ok_pen F__law_pen T1, g__law_pen, F__law_pen.kp, F__law_pen.bindsN fun _ _ _ _ _ _ us hl => match us, hl with | [_], _ => rfl⟩
end K02
open PySem PySem.W PySem.Calls PyProof.Rows
theorem PySem.Challenge.cw_partwise_k02_schemas_holds : PySem.Challenge.rw_partwise_k02_schemas.Holds := by
  w_on; o_law
  refine HandSHeadRun.head_any (r := OpenLaw.row PySem.Challenge.rw_partwise_k02_schemas) (q := view (OpenLaw.row PySem.Challenge.rw_partwise_k02_schemas).prog [35]) (H := K02.hk) (ob := K02.ob) (M := 20000) (loose := K02.namesL) (d := HandSHeadRun.topDef (OpenLaw.row PySem.Challenge.rw_partwise_k02_schemas).prog 35) (kwd := []) K02.ob_eq
    (by kernel_rfl) (fun s => by kernel_rfl) K02.run (by kernel_rfl) (by kernel_rfl) (by kernel_rfl) (by rfl) (by first | assumption | decide +kernel) (by decide +kernel) ⟨rfl, rfl, rfl, rfl, rfl, by decide +kernel⟩ ?hw ?hc
  case hw => w_witness2
  case hc =>
    refine K02.walk_GT (l := PySem.Challenge.rw_partwise_k02_schemas) (n := 63) (k := 8) (x := "_law_script") rfl (by decide) (by kernel_rfl) ⟨rfl, by decide, by decide⟩ ?F
    intro w mg fa h Y G hmg0
    obtain ⟨K, S⟩ := Y
    have hmg : mg ("law" : PySem.Str) = some (.ref fa) := by
      have e : (HandSHeadRun.topDef (OpenLaw.row PySem.Challenge.rw_partwise_k02_schemas).prog 35).name = ("law" : PySem.Str) := by kernel_rfl
      rw [← e]
      exact hmg0
    obtain ⟨fd, hb, hF⟩ := K02.facts (P := (PySem.Challenge.rw_partwise_k02_schemas).prog) (w := w) S G hmg
    exact ⟨K, fd, _, _, K02.spLaw K _, S.kin, S.nil, S.out, PySem.W.codeHd_of_K S.kin S.hd, hb, fun H a ns hl hT hS => ⟨a, ns, rfl, hS, hl, hT, fun _ => rfl⟩, hF⟩
