import PyProof.Rows.All
import Wide.All
import OpenK.AllK
import Wide.FinOn
import HandS.ForMost
import HandS.Exc
import HandS.ExcInit
import HandS.ExcIs
import HandS.Defaults
import HandS.MakeKwOnly
import KE.KExcIs
import PyProof.ReprRoads
import HandS.Flow
import HandS.ListEq
import HandS.IsInst
import HandS.Walk
import HandS.HeadHook1
import HandS.HeadHook2
import HandS.ForExc
import HandS.Property
import PyProof.InstNe
import HandS.TryMany
import HandS.ExcField
import HandS.Lambda
import HandS.WordsExc
import HandS.Style
import HandS.Zip
import PyProof.ReprLen
import HandS.Head0
import HandS.Head1
import HandS.Head2
import HandS.HeadHook4
import HandS.EndTab
import KE.KStateDown
import PySem.Challenge.RW_partwise_k01_columns
set_option Elab.async false
set_option linter.all false
set_option maxRecDepth 100000
set_option maxHeartbeats 0
namespace K34
open PySem PySem.Spec PyProof.Rows L2
def bmVE : List Value := [.type "ValueError", .type "Exception", .type "BaseException", .type "object"]
def bmKE : List Value := [.type "KeyError", .type "LookupError", .type "Exception", .type "BaseException", .type "object"]
def bmLE : List Value := [.type "LookupError", .type "Exception", .type "BaseException", .type "object"]
def bmOE : List Value := [.type "OverflowError", .type "ArithmeticError", .type "Exception", .type "BaseException", .type "object"]
def bmRE : List Value := [.type "RuntimeError", .type "Exception", .type "BaseException", .type "object"]
inductive Kd where | ve | ke | le | oe | re
  deriving DecidableEq
def Kd.bm : Kd → List Value
  | .ve => bmVE | .ke => bmKE | .le => bmLE | .oe => bmOE | .re => bmRE
def Kd.newId : Kd → String
  | .ve => "ValueError.__new__" | .ke => "LookupError.__new__" | .le => "LookupError.__new__" | .oe => "OverflowError.__new__" | .re => "RuntimeError.__new__"
end K34
namespace K01
open K34 PySem PySem.Spec PyProof.Rows L2
def top (i : Nat) : Stmt := PySem.Challenge.pw_partwise_k01_columns.main.body.getD i (.Pass ⟨0, 0, 0, 0⟩)
abbrev sIsNumber : Stmt := top 7
abbrev sIsWord : Stmt := top 8
abbrev sIsName : Stmt := top 9
abbrev sPen : Stmt := top 14
abbrev sDraw : Stmt := top 15
abbrev sPick : Stmt := top 16
abbrev sValue : Stmt := top 17
abbrev sAny : Stmt := top 18
abbrev sWords : Stmt := top 19
abbrev sColumns : Stmt := top 20
abbrev sLIsWord : Stmt := top 21
abbrev sIsOf : Stmt := top 22
abbrev sMet : Stmt := top 23
abbrev sDue : Stmt := top 24
abbrev sSomeV : Stmt := top 25
abbrev sLaw : Stmt := top 26
abbrev sEN : Stmt := inClass (top 1) 0
abbrev sEK : Stmt := inClass (top 2) 0
abbrev sInit : Stmt := inClass (top 12) 0
abbrev sGetN : Stmt := inClass (top 12) 1
abbrev sGetK : Stmt := inClass (top 12) 2
abbrev sGetR : Stmt := inClass (top 12) 3
abbrev sIsVal : Stmt := inClass (top 12) 4
abbrev sEq : Stmt := inClass (top 12) 5
def kinds : List Str := ["number", "word"]
def reserved : List Str := ["and", "or", "not", "is", "null", "in", "rest", "to", "of", "into", "by", "where", "set", "add", "columns", "order", "limit"]
abbrev R : PySem.W.OpenRow := PySem.W.OpenLaw.row PySem.Challenge.rw_partwise_k01_columns
/-! ### what is read off the heap behind the top -/
def clsB (K : PySem.W.Frag) (C : Addr) (k : Kd) : Bool := match K.lookup C with
  | some ⟨.type t, _, .cls cd, sl⟩ => decide (t = "type") && (decide (cd.mro = .ref C :: k.bm) && (cd.hasDict && (!cd.hasDel && (match sl.toList with
    | [_, _, _, _, some (.builtin n), _] => decide (n = k.newId)
    | _ => false))))
  | _ => false
def ecB (K : PySem.W.Frag) (C : Addr) (k : Kd) : Bool := clsB K C k && (He.eqO (PySem.W.findIn K (.ref C) "__setattr__") (some (some (.builtin "object.__setattr__"))) && (PySem.W.keepIn K (.ref C) &&
  (He.eqO (PySem.W.findIn K (.ref C) "__getattribute__") (some (some (.builtin "BaseException.__getattribute__"))) && (He.eqO (PySem.W.findIn K (.ref C) "__getattr__") (some none) && (decide (PySem.W.subIn K (.ref C) (.type "BaseException") = some true) &&
  (PySem.W.hasDictIn K C && (He.eqO (PySem.W.findIn K (.ref C) "__class__") (some (some (.builtin "object.__class__"))) && decide (PySem.W.mroIn K C (.type "object") = some true))))))))
def errB (K : PySem.W.Frag) (x : Str) : Bool := ecB K (He.ga K x) .ve && (He.eqO (PySem.W.findIn K (.ref (He.ga K x)) "__init__") (some (some (.ref (He.ma K (He.ga K x) "__init__")))) && decide (PySem.W.typeIn K (.ref (He.ma K (He.ga K x) "__init__")) = some (.type "function")))
/-- a getter's address, what stands there -/
def gtA (K : PySem.W.Frag) (m : Str) : Addr := match PySem.W.recIn K (He.ma K (He.ga K "Column") m) "property" with
  | some (.ref g :: _) => g
  | _ => 0
def gtW (K : PySem.W.Frag) (m : Str) : He.FnW := match K.lookup (gtA K m) with
  | some ⟨_, _, .func q, _⟩ => some (q.name, q.qualname, q.params, q.body, q.scope, q.globals, q.closure, q.builtins)
  | _ => none
def gtB (K : PySem.W.Frag) (m qual : Str) : Bool := PySem.W.keepIn K (.ref (gtA K m)) && (match K.lookup (gtA K m) with
  | some ⟨_, _, .func q, _⟩ => PySem.W.codeIn K q.code qual && (He.dflB K q.defaults [] && He.kwdB K q.kwdefaults [])
  | _ => false)
def prB (K : PySem.W.Frag) (m : Str) : Bool := He.eqO (PySem.W.findIn K (.ref (He.ga K "Column")) m) (some (some (.ref (He.ma K (He.ga K "Column") m)))) && (decide (PySem.W.specialIn K (.ref (He.ma K (He.ga K "Column") m)) "__get__" = some (some (.builtin "property.__get__"))) &&
  (decide (PySem.W.takesIn K (.ref (He.ma K (He.ga K "Column") m)) = some true) && (match PySem.W.recIn K (He.ma K (He.ga K "Column") m) "property" with
    | some (.ref _ :: _) => true
    | _ => false)))
def getB (K : PySem.W.Frag) (m qual : Str) : Bool := prB K m && gtB K m qual
def dvs (l : List Str) : List He.Dv := l.map .str
def exB (K : PySem.W.Frag) : Bool := (errB K "InvalidName" && errB K "InvalidKind") && (!decide (He.ga K "InvalidName" = He.ga K "InvalidKind") && ((He.tupB K "RESERVED" (dvs reserved) && He.tupB K "KINDS" (dvs kinds)) &&
  (((PySem.W.clsIn K (He.ga K "Column")).isSome && (decide (PySem.W.typeIn K (.ref (He.ga K "Column")) = some (.type "type")) && (He.eqO (PySem.W.findIn K (.ref (He.ga K "Column")) "__class__") (some (some (.builtin "object.__class__"))) &&
    (decide (PySem.W.mroIn K (He.ga K "Column") (.type "object") = some true) && He.eqO (PySem.W.findIn K (.ref (He.ga K "Column")) "__ne__") (some (some (.builtin "object.__ne__"))))))) &&
  ((decide (PySem.W.specialIn K (.builtin "object.__class__") "__get__" = some (some (.builtin "getset_descriptor.__get__"))) && decide (PySem.W.takesIn K (.builtin "object.__class__") = some true)) &&
  (getB K "name" "Column.name" && (getB K "kind" "Column.kind" && getB K "is_required" "Column.is_required"))))))
def lawD : List He.Defn := [(("law" : Str), none)]
def tbB (g : Addr → Option Obj) (K : PySem.W.Frag) : Bool := He.tabsB g lawD K
def hd0 : He.DefD := ⟨(("InvalidName" : Str), some ("__init__" : Str)), "__init__", "InvalidName.__init__", defArgs sEN, defBody sEN, defScope sEN, [], []⟩
def hd1 : He.DefD := ⟨(("InvalidKind" : Str), some ("__init__" : Str)), "__init__", "InvalidKind.__init__", defArgs sEK, defBody sEK, defScope sEK, [], []⟩
def hd2 : He.DefD := ⟨(("Column" : Str), some ("__init__" : Str)), "__init__", "Column.__init__", defArgs sInit, defBody sInit, defScope sInit, [], [(("is_required" : Str), .bl false)]⟩
def hd3 : He.DefD := ⟨(("Column" : Str), some ("is_value" : Str)), "is_value", "Column.is_value", defArgs sIsVal, defBody sIsVal, defScope sIsVal, [], []⟩
def hd4 : He.DefD := ⟨(("Column" : Str), some ("__eq__" : Str)), "__eq__", "Column.__eq__", defArgs sEq, defBody sEq, defScope sEq, [], []⟩
def hd5 : He.DefD := ⟨(("is_number" : Str), none), "is_number", "is_number", defArgs sIsNumber, defBody sIsNumber, defScope sIsNumber, [], []⟩
def hd6 : He.DefD := ⟨(("is_word" : Str), none), "is_word", "is_word", defArgs sIsWord, defBody sIsWord, defScope sIsWord, [], []⟩
def hd7 : He.DefD := ⟨(("is_name" : Str), none), "is_name", "is_name", defArgs sIsName, defBody sIsName, defScope sIsName, [], []⟩
def hd8 : He.DefD := ⟨(("_law_pen" : Str), none), "_law_pen", "_law_pen", defArgs sPen, defBody sPen, defScope sPen, [], []⟩
def hd9 : He.DefD := ⟨(("_law_draw" : Str), none), "_law_draw", "_law_draw", defArgs sDraw, defBody sDraw, defScope sDraw, [], []⟩
def hd10 : He.DefD := ⟨(("_law_pick" : Str), none), "_law_pick", "_law_pick", defArgs sPick, defBody sPick, defScope sPick, [], []⟩
def hd11 : He.DefD := ⟨(("_law_value" : Str), none), "_law_value", "_law_value", defArgs sValue, defBody sValue, defScope sValue, [], []⟩
def hd12 : He.DefD := ⟨(("_law_any_value" : Str), none), "_law_any_value", "_law_any_value", defArgs sAny, defBody sAny, defScope sAny, [], []⟩
def hd13 : He.DefD := ⟨(("_law_words" : Str), none), "_law_words", "_law_words", defArgs sWords, defBody sWords, defScope sWords, [], []⟩
def hd14 : He.DefD := ⟨(("_law_columns" : Str), none), "_law_columns", "_law_columns", defArgs sColumns, defBody sColumns, defScope sColumns, [], []⟩
def hd15 : He.DefD := ⟨(("_law_is_word" : Str), none), "_law_is_word", "_law_is_word", defArgs sLIsWord, defBody sLIsWord, defScope sLIsWord, [], []⟩
def hd16 : He.DefD := ⟨(("_law_is_of" : Str), none), "_law_is_of", "_law_is_of", defArgs sIsOf, defBody sIsOf, defScope sIsOf, [], []⟩
def hd17 : He.DefD := ⟨(("_law_met" : Str), none), "_law_met", "_law_met", defArgs sMet, defBody sMet, defScope sMet, [], []⟩
def hd18 : He.DefD := ⟨(("_law_due" : Str), none), "_law_due", "_law_due", defArgs sDue, defBody sDue, defScope sDue, [], []⟩
def hd19 : He.DefD := ⟨(("_law_some_value" : Str), none), "_law_some_value", "_law_some_value", defArgs sSomeV, defBody sSomeV, defScope sSomeV, [], []⟩
def hd20 : He.DefD := ⟨(("law" : Str), none), "law", "law", defArgs sLaw, defBody sLaw, defScope sLaw, [], []⟩
def fn : List He.DefD := [hd0, hd1, hd2, hd3, hd4, hd5, hd6, hd7, hd8, hd9, hd10, hd11, hd12, hd13, hd14, hd15, hd16, hd17, hd18, hd19, hd20]
def fa : List He.Fa := [.free "int", .free "len", .free "abs", .free "list", .free "repr", .free "range", .free "isinstance", .free "str", .free "bool", .free "all", .free "zip", .free "ValueError", .int "MAX_NUMBER" 1000000000000000000000000000000, .int "MAX_LETTERS" 8, .glo "Column", .glo "KINDS", .glo "RESERVED", .glo "InvalidName", .glo "InvalidKind", .glo "is_number", .glo "is_word", .glo "is_name", .glo "_law_pen", .glo "_law_draw", .glo "_law_pick", .glo "_law_value", .glo "_law_any_value", .glo "_law_words", .glo "_law_columns", .glo "_law_is_word", .glo "_law_is_of", .glo "_law_met", .glo "_law_due", .glo "_law_some_value", .glo "law", .cls "Column", .noat "Column" "_name", .noat "Column" "_kind", .noat "Column" "_is_required", .meth "Column" "is_value", .meth "Column" "__eq__", .mkr "Column", .noat "InvalidName" "value", .noat "InvalidKind" "value"]
def gts (K : PySem.W.Frag) : List He.FnW := [gtW K "name", gtW K "kind", gtW K "is_required"]
def gtv (x q : Str) (st : Stmt) : He.FnW := some (x, q, defArgs st, .stmts (defBody st), defScope st, mainGlobals, [], builtinsNs)
def gvs : List He.FnW := [gtv "name" "Column.name" sGetN, gtv "kind" "Column.kind" sGetK, gtv "is_required" "Column.is_required" sGetR]
def namesL : List Str := (R.prog.main.scope.names.map (·.1)).filter fun x => !(x == "law" || x == "__name__")
/-- where what is looked at stands -/
def asL : List Addr := [3, 6, 4, 31, 51, 55, 62, 67, 74, 75, 131, 142, 149, 156, 163, 170, 175, 180, 185, 192, 199, 206, 213, 218, 0, 30, 50, 61, 66, 73, 130, 141, 148, 155, 162, 169, 174, 179, 184, 191, 198, 205, 212, 217, 28, 29, 32, 48, 49, 52, 56, 57, 58, 59, 60, 63, 64, 65, 68, 69, 70, 71, 72, 90, 98, 106, 114, 121, 128, 129, 132, 133, 136, 137, 138, 139, 140, 143, 144, 145, 146, 147, 150, 151, 152, 153, 154, 157, 158, 159, 160, 161, 164, 165, 166, 167, 168, 171, 172, 173, 176, 177, 178, 181, 182, 183, 186, 187, 188, 189, 190, 193, 194, 195, 196, 197, 200, 201, 202, 203, 204, 207, 208, 209, 210, 211, 214, 215, 216, 27, 47, 89, 83, 97, 105, 113, 120, 127, 22, 23, 24, 25, 26, 42, 43, 44, 45, 46, 84, 85, 86, 87, 88, 96, 104, 112, 115, 116, 117, 118, 119, 122, 123, 124, 125, 126]
abbrev AlK : Type := (He.AlD × List He.FnW) × Bool
def obsK (g : Addr → Option Obj) : AlK := ((He.obsD fa fn (He.frT g asL), gts (He.frT g asL)), exB (He.frT g asL) && tbB g (He.frT g asL))
/-- what is known of the heap behind the top -/
structure Says1 (h : Heap) (K : PySem.W.Frag) : Prop where
  kin : K.In h
  d : He.SaysD fa fn K
  g : gts K = gvs
  x : exB K = true
  hd : PySem.W.codeHdIn K (He.cT K ("law", none)).1 (He.cT K ("law", none)).2 = true
  out : K.lookup (He.cT K ("law", none)).2 = none
  nil : h.get? (He.cT K ("law", none)).2 = some { cls := .none, data := .fields #[] }
theorem says_of {h : Heap} (e : obsK h.get? = ((He.valD fn, gvs), true)) : Says1 h (He.frT h.get? asL) := by
  obtain ⟨x1, x2⟩ := He.ba (congrArg Prod.snd e)
  have x3 := List.all_eq_true.mp x2 (("law" : Str), none) (List.mem_singleton.mpr rfl)
  obtain ⟨x4, x5⟩ := He.ba x3
  cases q : h.get? (He.cT (He.frT h.get? asL) ("law", none)).2 with
  | none =>
    rw [q] at x5
    cases x5
  | some o =>
    rw [q] at x5
    exact ⟨He.frT_in, congrArg (fun z : AlK => z.1.1) e, congrArg (fun z : AlK => z.1.2) e, x1, x4, He.frT_none q x5, by rw [q, He.emptyTab_eq x5]⟩
def hk : PySem.W.Hook where
  α := AlK
  obs := fun s => obsK s.heap.get?
  val := fun _ => ((He.valD fn, gvs), true)
  says := fun _ h => ∃ K : PySem.W.Frag, Says1 h K
  of := fun _ _ e => ⟨_, says_of e⟩
  keeps := fun _ _ _ ⟨K, c⟩ kp => ⟨K, PySem.W.Frag.In.keeps c.kin kp, c.d, c.g, c.x, c.hd, c.out, kp _ _ c.nil⟩
def ob (s : PySem.W.SharedT) : AlK := obsK (HandSHeadRun.getT s)
theorem ob_eq (s : PySem.W.SharedT) : ob s = hk.obs s.abs := by
  have e : HandSHeadRun.getT s = s.abs.heap.get? := funext (HandSHeadRun.getT_eq s)
  show obsK (HandSHeadRun.getT s) = obsK s.abs.heap.get?
  rw [e]
theorem run (w : World) : HandSHeadRun.RunEq R (PySem.W.view R.prog [26]) hk ob 20000 namesL w := by
  intro os
  kernel_rfl
end K01
set_option Elab.async false
set_option linter.all false
set_option maxRecDepth 100000
set_option maxHeartbeats 4000000
namespace K34
open PySem PySem.Spec PyProof.Rows PySem.HandSPX PySem.Builtin PySem.Builtin.ObjectAttr
/-! ### the mro of a built-in base, what it says -/
structure BmOk (B : String) (bm : List Value) : Prop where
  own : bm.contains (.type B) = true
  noA : bm.contains (.type "AttributeError") = false
  noN : bm.contains (.type "NameError") = false
  obj : bm.contains (.type "object") = true
  ne : bm.isEmpty = false
  pass : ∀ self : Value, refuseLoop self "__setattr__" bm = pure ()
theorem okVE : BmOk "ValueError" bmVE := ⟨by decide +kernel, by decide +kernel, by decide +kernel, by decide +kernel, rfl, F.store_ValueError.passes⟩
theorem okKE : BmOk "LookupError" bmKE := ⟨by decide +kernel, by decide +kernel, by decide +kernel, by decide +kernel, rfl, fun self => by unfold bmKE; kernel_rfl⟩
theorem okLE : BmOk "LookupError" bmLE := ⟨by decide +kernel, by decide +kernel, by decide +kernel, by decide +kernel, rfl, fun self => by unfold bmLE; kernel_rfl⟩
theorem okOE : BmOk "OverflowError" bmOE := ⟨by decide +kernel, by decide +kernel, by decide +kernel, by decide +kernel, rfl, fun self => by unfold bmOE; kernel_rfl⟩
theorem okRE : BmOk "RuntimeError" bmRE := ⟨by decide +kernel, by decide +kernel, by decide +kernel, by decide +kernel, rfl, fun self => by unfold bmRE; kernel_rfl⟩
/-! ### C(..), positional or by keyword: type.__call__, BaseException.__new__, the own __init__ -/
section
variable {M : Model} {A : Around} {E : Value → Shared → Prop} {h : Heap} {g : Array GenState} {d : Drawn} {t : Nat} {os : OsState}
variable {nm q : Str} {C N : Addr} {bs bm bmB : List Value} {hdct : Bool} {sn : List Str} {sub : List Value} {ab : Bool} {col : Option Bool} {dd : Option Addr} {k0 k1 k2 k3 k5 : Option Value} {B newId initId : String}
theorem chk_new (F : ExcBaseFacts B newId initId bmB) (O : BmOk B bm) {ws : List Value} {kv : List (Str × Value)} (hk : kv = [] ∨ (∃ y u, kv = [(y, u)]) ∨ ∃ y u z o, kv = [(y, u), (z, o)]) {Q : Unit → Shared → Prop}
    (hC : h.get? C = some (excClassObj nm q C N bs bm hdct sn sub ab col dd k0 k1 k2 k3 k5 newId)) (hq : Q () ⟨h, g, d, t, os⟩) : wpAny M A (checkBuiltinCall newId ⟨.ref C :: ws, kv⟩) Q E ⟨h, g, d, t, os⟩ := by
  have hcB : (Value.ref C :: bm).contains (.type B) = true := by rw [List.contains_cons, O.own, Bool.or_true]
  have hst := F.noStar
  rcases hk with rfl | ⟨y, u, rfl⟩ | ⟨y, u, z, o, rfl⟩
  · simp only [checkBuiltinCall, F.newKind, F.newSplit, F.newRow]
    repeat (first | refine wpAny_loadPart_at hC ?_ | (refine wpAny_isSubtype_exc hC ?_; rw [hcB]) | refine wpAny_staticBase_exc hC ?_ | refine wpAny_madeBy_exc hC ?_ | simp only [bne_self_eq_false, Bool.false_eq_true, if_false] | wp_step)
    exact hq
  · simp only [checkBuiltinCall, F.newKind, F.newSplit, F.newRow]
    repeat (first | refine wpAny_loadPart_at hC ?_ | (refine wpAny_isSubtype_exc hC ?_; rw [hcB]) | refine wpAny_staticBase_exc hC ?_ | refine wpAny_madeBy_exc hC ?_ | simp only [bne_self_eq_false, Bool.false_eq_true, if_false] | wp_step)
    exact hq
  · simp only [checkBuiltinCall, F.newKind, F.newSplit, F.newRow]
    repeat (first | refine wpAny_loadPart_at hC ?_ | (refine wpAny_isSubtype_exc hC ?_; rw [hcB]) | refine wpAny_staticBase_exc hC ?_ | refine wpAny_madeBy_exc hC ?_ | simp only [bne_self_eq_false, Bool.false_eq_true, if_false] | wp_step)
    exact hq
end
section
variable {prog : Program} {w : World} {A : Around} {E : Value → Shared → Prop} {R : Result → Shared → Prop} {h : Heap} {g : Array GenState} {d : Drawn} {t : Nat} {os : OsState}
variable {nm q : Str} {C N : Addr} {bs bm bmB : List Value} {hdct : Bool} {sn : List Str} {sub : List Value} {ab : Bool} {col : Option Bool} {dd : Option Addr} {k0 k1 k2 k3 k5 : Option Value} {B newId initId : String}
theorem run_new (F : ExcBaseFacts B newId initId bmB) (O : BmOk B bm) {ws : List Value} {kv : List (Str × Value)}
    (hC : h.get? C = some (excClassObj nm q C N bs bm hdct sn sub ab col dd k0 k1 k2 k3 k5 newId))
    (hq : R (.ok (.ret (.ref (h.objs.size + 1)))) ⟨(h.push (W.kdv_tup ws)).push (excO C h.objs.size), g, d, t, os⟩) (hws : ws.length ≤ sizeLine) :
    codeAny (model prog w) A (.builtin newId ⟨.ref C :: ws, kv⟩) R ⟨h, g, d, t, os⟩ := by
  have he := F.ends
  have c1 : (Value.ref C :: bm).contains (.type B) = true := by rw [List.contains_cons, O.own, Bool.or_true]
  have c2 : (Value.ref C :: bm).contains (.type "AttributeError") = false := by rw [List.contains_cons, O.noA]; rfl
  have c3 : (Value.ref C :: bm).contains (.type "NameError") = false := by rw [List.contains_cons, O.noN]; rfl
  refine codeAny_builtinAt F.entry ?_
  unfold Builtin.«BaseException.__new__»
  refine PySem.wpAt_bind ?_
  show PySem.wpAt _ _ _ (PySem.stack >>= _) _ _ _
  refine PySem.wpAt_bind (PySem.wpAt_stack fun p below => wpAt_of_wpAny ?_)
  wp_walk
  refine wpAt_of_wpAny ?_
  rw [F.owner]
  repeat (first | with_reducible refine wpAny_madeHere_exc F.canon hC ?_ | with_reducible refine wpAny_loadPart_at hC ?_ | (with_reducible refine wpAny_isSubtype_exc hC ?_; first | rw [c1] | rw [c2] | rw [c3]) | wp_step)
  show R _ _
  rw [Heap.size_push]
  exact hq
theorem type_call (F : ExcBaseFacts B newId initId bmB) (O : BmOk B bm) {ws : List Value} {kv : List (Str × Value)} (hk : kv = [] ∨ (∃ y u, kv = [(y, u)]) ∨ ∃ y u z o, kv = [(y, u), (z, o)]) {fI : Addr} {Q : Fin → Shared → Prop}
    (hC : h.get? C = some (excClassObj nm q C N bs bm hdct sn sub ab col dd k0 k1 k2 k3 k5 newId))
    (hi : W.Looks (model prog w) h (typeLookup (.ref C) "__init__") (some (.ref fI))) (hb : ∀ self, W.Looks (model prog w) h (bindSpecial (.ref fI) self) (.ref fI, [self])) (hws : ws.length ≤ sizeLine)
    (hq : codeAny (model prog w) A (.call (.ref fI) ⟨.ref (h.objs.size + 1) :: ws, kv⟩)
      (fun r s' => match r with | .ok (.ret v) => v = .none ∧ Q (.done (.ret (.ref (h.objs.size + 1)))) s' | .ok _ => False | .error e => E e s')
      ⟨(h.push (W.kdv_tup ws)).push (excO C h.objs.size), g, d, t, os⟩) :
    wpAny (model prog w) A (Builtin.«type.__call__» ⟨.ref C :: ws, kv⟩) Q E ⟨h, g, d, t, os⟩ := by
  repeat (first | with_reducible refine wpAny_loadPart_at hC ?_ | with_reducible refine wpAny_madeBy_exc hC ?_ | wp_step)
  refine codeAny_call_builtin_code (Code.quiet_builtin _ F.quiet) (chk_new F O hk hC ?_)
  refine run_new F O hC ?_ hws
  show wpAny _ _ _ _ _ _
  have kp : ∀ b o, h.get? b = some o → ((h.push (W.kdv_tup ws)).push (excO C h.objs.size)).get? b = some o := fun b o e => Heap.get?_push_of_some _ (Heap.get?_push_of_some _ e)
  have hC1 := kp _ _ hC
  have hx : ((h.push (W.kdv_tup ws)).push (excO C h.objs.size)).get? (h.objs.size + 1) = some (excO C h.objs.size) := by heap_get
  have cC : (Value.ref C :: bm).contains (.ref C) = true := by simp
  have i1 := hi.keeps kp
  have b1 := (hb (.ref (h.objs.size + 1))).keeps kp
  unfold isInstance
  repeat (first | with_reducible refine wpAny_loadPart_at hx ?_ | (with_reducible refine wpAny_isSubtype_exc hC1 ?_; rw [cC]) | wp_step)
  show wpAny _ _ (typeLookup (.ref C) _) _ _ _
  refine i1.at ?_
  refine wpAny_holding (wpAny_bind (b1.at ?_))
  refine wpAny_bind (wpAny_call (codeAny_mono hq fun r s' z => ?_))
  rcases r with e | (v | _ | _ | _) <;> first | exact z | exact z.elim | skip
  obtain ⟨rfl, z⟩ := z
  first
    | exact wpAny_pure (wpAny_pure z)
    | (wp_walk; exact z)
theorem call_E (F : ExcBaseFacts B newId initId bmB) (O : BmOk B bm) {ws : List Value} {kv : List (Str × Value)} (hk : kv = [] ∨ (∃ y u, kv = [(y, u)]) ∨ ∃ y u z o, kv = [(y, u), (z, o)]) {fI : Addr}
    (hC : h.get? C = some (excClassObj nm q C N bs bm hdct sn sub ab col dd k0 k1 k2 k3 k5 newId))
    (hi : W.Looks (model prog w) h (typeLookup (.ref C) "__init__") (some (.ref fI))) (hb : ∀ self, W.Looks (model prog w) h (bindSpecial (.ref fI) self) (.ref fI, [self])) (hws : ws.length ≤ sizeLine)
    (hq : codeAny (model prog w) (A.under (.builtin "type.__call__" ⟨.ref C :: ws, kv⟩)) (.call (.ref fI) ⟨.ref (h.objs.size + 1) :: ws, kv⟩) (W.InitBack (h.objs.size + 1) R)
      ⟨(h.push (W.kdv_tup ws)).push (excO C h.objs.size), g, d, t, os⟩) :
    codeAny (model prog w) A (.call (.ref C) ⟨ws, kv⟩) R ⟨h, g, d, t, os⟩ := by
  have f1 := tc_lookup
  have f2 := tc_bind (.ref C)
  have hTy : (⟨h, g, d, t, os⟩ : Shared).TypeIs (.ref C) "type" := ⟨_, hC, rfl⟩
  refine codeAny_of_tree ?_
  show wpAny _ _ (callAny (.ref C) _) _ _ _
  repeat (any_goals (first | assumption | with_reducible refine wpAny_loadPart_at hC ?_ | wp_step))
  refine ⟨rfl, ?_⟩
  refine codeAny_call_builtin_at (Code.quiet_builtin _ (by decide +kernel)) entry_typeCall (wpAny_check_type_call_sub hC (type_call F O hk hC hi hb hws ?_))
  refine codeAny_mono hq fun r s' z => ?_
  rcases r with e | (v | _ | _ | _) <;> exact z
end
end K34
set_option Elab.async false
set_option linter.all false
set_option maxRecDepth 100000
set_option maxHeartbeats 4000000
namespace K34
open PySem PySem.Spec PyProof.Rows PySem.HandSPX PySem.Builtin PySem.Builtin.ObjectAttr
/-! ### self.x = v on an exception: the first field, a further one -/
section
variable {prog : Program} {w : World} {A : Around} {R : Result → Shared → Prop} {hp : Heap} {g : Array GenState} {d : Drawn} {t : Nat} {os : OsState}
theorem osa_new {K : W.Frag} {x C : Addr} {nm : Str} {tk : Tok} {v : Value} {fv : Array Value} {cd : ClassData} {B : String} {bm : List Value}
    (X : K.In hp) (hx : hp.get? x = some { cls := .ref C, data := .fields fv }) (hcd : W.clsIn K C = some cd) (O : BmOk B bm) (hm : cd.mro = .ref C :: bm) (hh : cd.hasDict = true) (ha : W.findIn K (.ref C) nm = some none)
    (hq : ∀ h' tk' dx, (∀ b o, b ≠ x → hp.get? b = some o → h'.get? b = some o) → hp.objs.size ≤ dx → dx ≠ x → h'.get? x = some { cls := .ref C, dict := some dx, data := .fields fv } →
      h'.Ns1 dx (fun y => if y = nm then some v else none) → R (.ok (.ret .none)) ⟨h', g, d, tk', os⟩) :
    codeAny (model prog w) A (.call (.builtin "object.__setattr__") ⟨[.ref x, .str nm tk, v], []⟩) R ⟨hp, g, d, t, os⟩ := by
  have J : W.InstAt hp x { cls := .ref C, data := .fields fv } C none := ⟨hx, rfl, rfl, trivial⟩
  have SF := F.store_object
  have ne : cd.mro.isEmpty = false := by rw [hm] <;> rfl
  have ob : cd.mro.contains (.type "object") = true := by rw [hm, List.contains_cons, O.obj, Bool.or_true]
  have hxs : x ≠ hp.objs.size := Nat.ne_of_lt (Heap.lt_size hx)
  have sub : W.Looks (model prog w) hp (isInstance (.ref x) (.type "object")) true := J.type.andThen (W.looks_mroIn X (by unfold W.mroIn; rw [hcd, Option.bind_some, if_neg (by rw [ne]; decide), ob]))
  refine codeAny_call_builtin SF.slot.plain SF.entry (@W.check_slot (model prog w) _ _ ⟨hp, g, d, t, os⟩ "object.__setattr__" "object" "__setattr__" (.ref x) [.str nm tk, v] [] _ SF.kind SF.split sub (SF.args (.ref x) (.str nm tk) v) ?_)
  have m1 : W.Looks (model prog w) hp (mroOf (.ref C)) cd.mro := (W.looks_clsIn X hcd).andThen .now
  have m2 : W.Looks (model prog w) hp (storeTaker? none) none := .now
  have m3 : W.Looks (model prog w) hp (classData C) cd := W.looks_clsIn X hcd
  rw [W.osa_eq, refuse_eq]
  refine wpAny_bind (wpAny_bind (J.type.at (wpAny_bind (m1.at ?_))))
  rw [hm, refuseLoop_ref, O.pass]
  refine wpAny_pure (wpAny_bind (J.type.at (wpAny_bind ((W.looks_findIn X ha).at (wpAny_bind (m2.at ?_))))))
  show wpAny _ _ (storeInOwnDict (.ref x) (.ref C) (.str nm tk) nm v false) _ _ _
  obtain ⟨nm0, bs0, mro0, ns0, qn0, hd0, sn0, sb0, ab0, col0, del0⟩ := cd
  dsimp only at hh
  subst hh
  unfold storeInOwnDict ownDictForStores
  repeat (first | with_reducible refine store_in_new ?_ ?_ | with_reducible refine wpAny_loadPart_at hx ?_ | with_reducible refine m3.at ?_ | wp_step)
  · exact ⟨_, #[], _, (Heap.get?_update_ne _ _ _ _ hxs.symm).trans (Heap.get?_push_at rfl rfl), rfl, fun e he => absurd he (by simp), fun _ => rfl⟩
  · intro h' tk' hn' hs
    have hx1 : (hp.push { cls := .type "dict", data := .dict #[] }).get? x = some { cls := .ref C, data := .fields fv } := Heap.get?_push_of_some _ hx
    refine hq h' tk' hp.objs.size (fun b o hb ho => ?_) (Nat.le_refl _) hxs.symm ?_ hn'
    · exact (hs.2 b (Nat.ne_of_lt (Heap.lt_size ho))).trans ((Heap.get?_update_ne _ _ _ _ hb).trans (Heap.get?_push_of_some _ ho))
    · exact (hs.2 x hxs).trans (Heap.get?_update_self _ hx1 rfl)
theorem osa_more {K : W.Frag} {nm : Str} {tk : Tok} {v : Value} {x C dx : Addr} {fv : Array Value} {cd : ClassData} {m0 : Str → Option Value} {nl : List Str} {B : String} {bm : List Value}
    (X : K.In hp) (hx : hp.get? x = some { cls := .ref C, dict := some dx, data := .fields fv }) (hns : hp.Ns1 dx m0) (hw : Within m0 nl) (hz : nl.length ≤ 1000) (hcd : W.clsIn K C = some cd) (O : BmOk B bm) (hm : cd.mro = .ref C :: bm) (hh : cd.hasDict = true)
    (ha : W.findIn K (.ref C) nm = some none)
    (hq : ∀ h' tk', (∀ b o, b ≠ dx → hp.get? b = some o → h'.get? b = some o) → h'.Ns1 dx (fun y => if y = nm then some v else m0 y) → R (.ok (.ret .none)) ⟨h', g, d, tk', os⟩) :
    codeAny (model prog w) A (.call (.builtin "object.__setattr__") ⟨[.ref x, .str nm tk, v], []⟩) R ⟨hp, g, d, t, os⟩ := by
  obtain ⟨oD, esD, epD, hoD, hdD, _⟩ := hns.count hw
  have J : W.InstAt hp x { cls := .ref C, dict := some dx, data := .fields fv } C (some oD) := ⟨hx, rfl, rfl, hoD⟩
  have SF := F.store_object
  have ne : cd.mro.isEmpty = false := by rw [hm] <;> rfl
  have ob : cd.mro.contains (.type "object") = true := by rw [hm, List.contains_cons, O.obj, Bool.or_true]
  have sub : W.Looks (model prog w) hp (isInstance (.ref x) (.type "object")) true := J.type.andThen (W.looks_mroIn X (by unfold W.mroIn; rw [hcd, Option.bind_some, if_neg (by rw [ne]; decide), ob]))
  refine codeAny_call_builtin SF.slot.plain SF.entry (@W.check_slot (model prog w) _ _ ⟨hp, g, d, t, os⟩ "object.__setattr__" "object" "__setattr__" (.ref x) [.str nm tk, v] [] _ SF.kind SF.split sub (SF.args (.ref x) (.str nm tk) v) ?_)
  have m1 : W.Looks (model prog w) hp (mroOf (.ref C)) cd.mro := (W.looks_clsIn X hcd).andThen .now
  have m2 : W.Looks (model prog w) hp (storeTaker? none) none := .now
  have m3 : W.Looks (model prog w) hp (classData C) cd := W.looks_clsIn X hcd
  rw [W.osa_eq, refuse_eq]
  refine wpAny_bind (wpAny_bind (J.type.at (wpAny_bind (m1.at ?_))))
  rw [hm, refuseLoop_ref, O.pass]
  refine wpAny_pure (wpAny_bind (J.type.at (wpAny_bind ((W.looks_findIn X ha).at (wpAny_bind (m2.at ?_))))))
  show wpAny _ _ (storeInOwnDict (.ref x) (.ref C) (.str nm tk) nm v false) _ _ _
  obtain ⟨nm0, bs0, mro0, ns0, qn0, hd0, sn0, sb0, ab0, col0, del0⟩ := cd
  dsimp only at hh
  subst hh
  unfold storeInOwnDict ownDictForStores
  repeat (first | with_reducible refine OEX.store_in_old hns hw hz ?_ | with_reducible refine wpAny_loadPart_at hx ?_ | with_reducible refine m3.at ?_ | wp_step)
  intro h' tk' hn' hs
  exact hq h' tk' (fun b o hb ho => (hs.2 b hb).trans ho) hn'
end
end K34
set_option Elab.async false
set_option linter.all false
set_option maxRecDepth 100000
set_option maxHeartbeats 4000000
namespace K34
open PySem PySem.Spec PyProof.Rows L2
def Kd.B : Kd → String
  | .ve => "ValueError" | .ke => "LookupError" | .le => "LookupError" | .oe => "OverflowError" | .re => "RuntimeError"
theorem Kd.base : ∀ k : Kd, ∃ initId bmB, ExcBaseFacts k.B k.newId initId bmB
  | .ve => ⟨_, _, F.excBase_ValueError⟩
  | .ke => ⟨_, _, F.excBase_LookupError⟩
  | .le => ⟨_, _, F.excBase_LookupError⟩
  | .oe => ⟨_, _, F.excBase_OverflowError⟩
  | .re => ⟨_, _, F.excBase_RuntimeError⟩
theorem Kd.ok : ∀ k : Kd, BmOk k.B k.bm
  | .ve => okVE | .ke => okKE | .le => okLE | .oe => okOE | .re => okRE
/-- what the written part says of an own class of errors, directly below the base k -/
structure EC (K : PySem.W.Frag) (C : Addr) (k : Kd) : Prop where
  cls : ∃ nm q N bs sn sub ab col dd k0 k1 k2 k3 k5, K.lookup C = some (excClassObj nm q C N bs k.bm true sn sub ab col dd k0 k1 k2 k3 k5 k.newId)
  sa : PySem.W.findIn K (.ref C) "__setattr__" = some (some (.builtin "object.__setattr__"))
  kC : PySem.W.keepIn K (.ref C) = true
  at_ : ExcC K C
section
variable {X : Cx} {pins : List (Addr × Obj)} {σ : L2.St} {H : Hp} {s : Shared} {a C dx : Addr} {f : Str} {y : V} {u : Value} {fs : List (Str × V)} {Q : Unit → Shared → Prop} {E : Value → Shared → Prop} {A : Around} {k : Kd}
/-- self.f = y on an exception without fields -/
theorem st_first (T : EC X.K C k) (I : Inv X pins σ H s) (e : H a = some (exo a C none)) (hno : PySem.W.findIn X.K (.ref C) f = some none) (ry : RelV y u)
    (h : ∀ dx s', H dx = none → dx ≠ a → Inv X pins σ (upd (upd H dx (exd dx [(f, y)])) a (exo a C (some dx))) s' → Q () s') : wpAny (model X.prog X.w) A (setAttr (.ref a) f u) Q E s := by
  obtain ⟨nm, q, N, bs, sn, sub, ab, col, dd, k0, k1, k2, k3, k5, hC⟩ := T.cls
  have hcl : PySem.W.clsIn X.K C = some { name := nm, bases := bs, mro := .ref C :: k.bm, ns := N, qualname := q, hasDict := true, slotNames := sn, subclasses := sub, abstract := ab, collection := col, hasDel := false } := by unfold PySem.W.clsIn; rw [hC] <;> rfl
  obtain ⟨t1, ho⟩ := exo_at I.hok e
  obtain ⟨hp, g, d, t, os⟩ := s
  refine PySem.W.set_plain I.kIn (ox := { cls := .ref C, dict := none, data := .fields #[.ref t1, .none, .none, .none, .bool false, .none] }) (od := none) ⟨ho, rfl, rfl, trivial⟩ T.sa ?_
  refine osa_new I.kIn ho hcl k.ok rfl rfl hno (fun h' tk' dx kp dn dne hx hn => ?_)
  have hnd : H dx = none := I.hok.fresh dn
  have nd : ∀ {b : Addr} {o : Obj}, hp.get? b = some o → b ≠ dx := fun {b o} z => Nat.ne_of_lt (Nat.lt_of_lt_of_le (Heap.lt_size z) dn)
  have na : ∀ {b : Addr}, H b = none → b ≠ a := fun {b} n z => by
    rw [z, e] at n
    cases n
  have un1 : Un X.fs [] H (upd (upd H dx (exd dx [(f, y)])) a (exo a C (some dx))) hp h' := {
    keep := fun b o z n _ _ => kp b o (na n) z
    slot := fun b o z n _ _ => ⟨o.slots, kp b o (na n) z⟩
    free := fun b o z n _ => by rw [upd_ne (na n), upd_ne (nd z)]; exact n
    there := fun b o z _ => by
      by_cases hb : b = a
      · exact ⟨_, by rw [hb]; exact hx⟩
      · exact ⟨o, kp b o hb z⟩
    tups := fun b xs z => by rw [upd_ne (at_ne e z exo_tup), upd_ne (ne_of_none z hnd)]; exact z
    frzs := fun b o v z => by rw [upd_ne (at_ne e z exo_frz), upd_ne (ne_of_none z hnd)]; exact z
    tbls := fun b ps z => ⟨#[], by rw [upd_ne (at_ne e z exo_tbl), upd_ne (ne_of_none z hnd), z]; simp⟩ }
  refine h dx _ hnd dne (I.un (t' := tk') un1 fun b o z => ?_)
  by_cases hb : b = a
  · subst hb
    rw [upd_same] at z
    cases z
    exact exo_ok hx
  · rw [upd_ne hb] at z
    by_cases hd : b = dx
    · subst hd
      rw [upd_same] at z
      cases z
      exact exd_ok hn (relO_put (fs := []) ry fun g => True.intro)
    · rw [upd_ne hd] at z
      refine (I.hok b o z).stay (fun c v hc w => kp c v ?_ w) (fun c hc => by rw [upd_ne (at_ne e hc exo_own), upd_ne (ne_of_none hc hnd)]; exact hc) (fun c xs hc => by rw [upd_ne (at_ne e hc exo_tup), upd_ne (ne_of_none hc hnd)]; exact hc)
      rcases hc with hc | hc
      · rw [hc]
        exact hb
      · exact at_ne e hc exo_own
/-- a further field -/
theorem st_more (T : EC X.K C k) (I : Inv X pins σ H s) (e : H a = some (exo a C (some dx))) (ed : H dx = some (exd dx fs)) (hl : fs.length ≤ 900) (hno : PySem.W.findIn X.K (.ref C) f = some none) (ry : RelV y u)
    (h : ∀ s', Inv X pins σ (upd H dx (exd dx ((f, y) :: fs))) s' → Q () s') : wpAny (model X.prog X.w) A (setAttr (.ref a) f u) Q E s := by
  obtain ⟨nm, q, N, bs, sn, sub, ab, col, dd, k0, k1, k2, k3, k5, hC⟩ := T.cls
  have hcl : PySem.W.clsIn X.K C = some { name := nm, bases := bs, mro := .ref C :: k.bm, ns := N, qualname := q, hasDict := true, slotNames := sn, subclasses := sub, abstract := ab, collection := col, hasDel := false } := by unfold PySem.W.clsIn; rw [hC] <;> rfl
  obtain ⟨t1, ho⟩ := exo_at I.hok e
  obtain ⟨mA, hns, rel⟩ := exd_at I.hok ed
  have hw := within_of rel
  obtain ⟨hp, g, d, t, os⟩ := s
  obtain ⟨oD, _, _, hoD, _, _⟩ := hns.count hw
  refine PySem.W.set_plain I.kIn (ox := { cls := .ref C, dict := some dx, data := .fields #[.ref t1, .none, .none, .none, .bool false, .none] }) (od := some oD) ⟨ho, rfl, rfl, hoD⟩ T.sa ?_
  refine osa_more I.kIn ho hns hw (by rw [List.length_map]; omega) hcl k.ok rfl rfl hno (fun h' tk' kp hn => ?_)
  have hd : ∃ o, h'.get? dx = some o := by
    obtain ⟨o, _, _, e', _⟩ := hn
    exact ⟨o, e'⟩
  exact h _ (I.write (t' := tk') (x := dx) (e := dx) (o := exd dx ((f, y) :: fs)) (by rw [ed]; exact True.intro) (.inl rfl) kp hd (exd_ok hn (relO_put ry rel)))
end
/-- self.f = e, self an error of the class at C -/
def tSt (K : PySem.W.Frag) (k : Kd) (f : Str) (to te : TE) : TS := fun D σ H => te σ H fun y H1 => to σ H1 fun x H2 => ∃ a C : Addr, x = .ref a ∧ EC K C k ∧ PySem.W.findIn K (.ref C) f = some none ∧
  ((H2 a = some (exo a C none) ∧ ∀ dx, H2 dx = none → dx ≠ a → D.nx σ (upd (upd H2 dx (exd dx [(f, y)])) a (exo a C (some dx)))) ∨
    ∃ (dx : Addr) (fs : List (Str × V)), H2 a = some (exo a C (some dx)) ∧ H2 dx = some (exd dx fs) ∧ fs.length ≤ 900 ∧ D.nx σ (upd H2 dx (exd dx ((f, y) :: fs))))
section
variable {X : Cx} {o e : Expr} {es : List Expr} {to te : TE} {ta tk : TA} {f x : Str} {p p' p1 p2 pos : Pos} {k : Kd} {kws : List Keyword}
theorem ps_st (ho : PE X o to) (he : PE X e te) (hs : swapsWith e (some (.Attribute o f p')) pos.line X.env = pure false := by rfl) : PS X (.Assign [.Attribute o f p'] e pos) (tSt X.K k f to te) := by
  refine ⟨fun pins s σ H D I h => ?_⟩
  refine plainObj_wpAny_Assign_Attribute (thn (he.run pins s σ H _ I h) fun v s1 ⟨y, H1, I1, r1, q1⟩ => thn (ho.run pins s1 σ H1 _ I1 q1) fun u s2 ⟨z, H2, I2, r2, a, C, ex, T, hno, q⟩ => ?_) hs
  subst ex
  obtain rfl : u = Value.ref a := r2
  rcases q with ⟨ea, q⟩ | ⟨dx, fs, ea, ed, hl, q⟩
  · exact st_first T I2 ea hno r1 fun dx s' n ne J => ⟨σ, _, J, q dx n ne⟩
  · exact st_more T I2 ea ed hl hno r1 fun s' J => ⟨σ, _, J, q⟩
/-- an error's making: its class, its __init__ -/
structure EM (P : Program) (w : World) (K : PySem.W.Frag) (mg : Str → Option Value) (base : Heap) (x : Str) (C : Addr) (k : Kd) (fI : Addr) (fd : FuncData) (ps : List Str) (sp : Sp) : Prop where
  g : mg x = some (.ref C)
  c : EC K C k
  init : PySem.W.findIn K (.ref C) "__init__" = some (some (.ref fI))
  ty : PySem.W.typeIn K (.ref fI) = some (.type "function")
  ok : FnOk P w K mg base CX0 1 fI fd ps sp
/-- C(..): a new error at a, then __init__ -/
def tMkE (C : Addr) (sp : Sp) (t : TA) : TE := fun σ H Q => t σ H fun vs H1 => vs.length ≤ 1000 ∧ ∀ a, H1 a = none → sp (.ref a :: vs) (upd H1 a (exo a C none)) (fun v H2 => v = .non ∧ Q (.ref a) H2) E0
theorem run_mkE {pins : List (Addr × Obj)} {σ : L2.St} {H : Hp} {s : Shared} {Q : VK} {C fI : Addr} {fd : FuncData} {ps : List Str} {sp : Sp} {us ws : List Value} {kv : List (Str × Value)} {zs : List V} (M : EM X.prog X.w X.K X.mg X.base x C k fI fd ps sp) (hr : Room 2 X.A)
    (hk : kv = [] ∨ (∃ y u, kv = [(y, u)]) ∨ ∃ y u z o, kv = [(y, u), (z, o)]) (hus : us.length ≤ 1000) (I : Inv X pins σ H s) (r : Vals zs ws)
    (hb : ∀ (s' : Shared) (a : Addr), X.K.In s'.heap → BindsTo s' fd ⟨.ref a :: us, kv⟩ (ps.zip (.ref a :: ws)))
    (h : ∀ a, H a = none → sp (.ref a :: zs) (upd H a (exo a C none)) (fun v H2 => v = .non ∧ Q (.ref a) H2) E0) : wpAny (model X.prog X.w) X.A (call (.ref C) us kv) (EP X pins σ Q) X.xe s := by
  obtain ⟨nm, q, N, bs, sn, sub, ab, col, dd, k0, k1, k2, k3, k5, hC⟩ := M.c.cls
  obtain ⟨initId, bmB, FB⟩ := k.base
  obtain ⟨hp, g, dr, tk, os⟩ := s
  have hsz : hp.objs.size ≤ hp.objs.size + 1 := Nat.le_succ _
  have hq := h (hp.objs.size + 1) (I.hok.fresh hsz)
  have kk : ∀ b o, hp.get? b = some o → ((hp.push (PySem.W.kdv_tup us)).push (PySem.HandSPX.excO C hp.objs.size)).get? b = some o := fun b o e => Heap.get?_push_of_some _ (Heap.get?_push_of_some _ e)
  have hget : ((hp.push (PySem.W.kdv_tup us)).push (PySem.HandSPX.excO C hp.objs.size)).get? (hp.objs.size + 1) = some (PySem.HandSPX.excO C hp.objs.size) := by heap_get
  have I2 : Inv X pins σ (upd H (hp.objs.size + 1) (exo (hp.objs.size + 1) C none)) ⟨(hp.push (PySem.W.kdv_tup us)).push (PySem.HandSPX.excO C hp.objs.size), g, dr, tk, os⟩ :=
    I.laid (t' := tk) (a := hp.objs.size + 1) (o := exo (hp.objs.size + 1) C none) (h' := (hp.push (PySem.W.kdv_tup us)).push (PySem.HandSPX.excO C hp.objs.size)) kk hsz (exo_ok hget)
  have r2 : Vals (V.ref (hp.objs.size + 1) :: zs) (Value.ref (hp.objs.size + 1) :: ws) := .cons rfl r
  have hz : us.length ≤ sizeLine := by
    rw [sizeLine_eq]
    omega
  refine wpAny_call (call_E FB k.ok hk (I.kIn _ _ hC) (PySem.W.looks_findIn I.kIn M.init) (fun self => PySem.W.bind_fn I.kIn self M.ty) hz
    (codeAny_mono (M.ok.run _ X.stack _ _ ⟨Value.ref (hp.objs.size + 1) :: us, kv⟩ (Value.ref (hp.objs.size + 1) :: ws) _ _ E0 (hr.make C us kv) (I2.env0.make C us kv) (hb _ (hp.objs.size + 1) I2.kIn) r2 hq) fun r s' hq' => ?_))
  cases r with
  | error er => exact False.elim hq'
  | ok fl =>
    cases fl with
    | ret u =>
      obtain ⟨v, H', I3, rv, ev, q3⟩ := I2.after hq'
      subst ev
      exact ⟨rv, ⟨V.ref (hp.objs.size + 1), H', I3, rfl, q3⟩⟩
    | next => exact False.elim hq'
    | brk => exact False.elim hq'
    | cont => exact False.elim hq'
/-- C(e, ..) -/
theorem pe_mkE {C fI : Addr} {fd : FuncData} {ps : List Str} {sp : Sp} (M : EM X.prog X.w X.K X.mg X.base x C k fI fd ps sp) (hr : Room 2 X.A) (hb : Binds X.K fd ps []) (hg : Gl X x) (ha : PA X (e :: es) ta)
    (hdb : (x == ("__debug__" : Str)) = false := by decide) (he : starEach (e :: es) X.env = (false, eval e X.env) :: starEach es X.env := by rfl) (hpl : (backTo pos (starEach es X.env)).any (·.1) = false := by rfl) :
    PE X (.Call (.Name x p) (e :: es) [] pos) (tMkE C sp ta) := by
  refine ⟨fun pins s σ H Q I h => ?_⟩
  refine wpAny_Call_Name_kw (ld_glob I hg M.g ?_ hdb)
  refine PySem.W.callWith_K (h₀ := X.base) I.ok.mod.kin M.c.kC (thn (ha.run pos pins s σ H _ I h) fun us s1 ⟨vs, H1, I1, r1, hz, q1⟩ => ⟨I1.kIn, ?_⟩) he hpl
  have hlen : (V.ref s1.heap.objs.size :: vs).length = ps.length := M.ok.len _ _ _ _ (q1 (s1.heap.objs.size) (I1.hok.fresh (Nat.le_refl _)))
  refine run_mkE (us := us) (ws := us) (zs := vs) M hr (.inl rfl) (by rw [← Paired.length r1]; exact hz) I1 r1 (fun s' a X' => ?_) q1
  have e := hb s' (.ref a :: us) X' (by rw [List.append_nil, ← hlen, List.length_cons, List.length_cons, r1.length])
  rw [List.append_nil] at e
  exact e
/-- C() -/
theorem pe_mkE0 {C fI : Addr} {fd : FuncData} {ps : List Str} {sp : Sp} (M : EM X.prog X.w X.K X.mg X.base x C k fI fd ps sp) (hr : Room 2 X.A) (hb : Binds X.K fd ps []) (hg : Gl X x) (hdb : (x == ("__debug__" : Str)) = false := by decide) :
    PE X (.Call (.Name x p) [] [] pos) (tMkE C sp tNil) := by
  refine ⟨fun pins s σ H Q I h => ?_⟩
  obtain ⟨hz, q1⟩ := h
  refine wpAny_Call_Name_kw (ld_glob I hg M.g ?_ hdb)
  have hlen : (V.ref s.heap.objs.size :: ([] : List V)).length = ps.length := M.ok.len _ _ _ _ (q1 (s.heap.objs.size) (I.hok.fresh (Nat.le_refl _)))
  refine PySem.W.callWith_K0 I.kIn M.c.kC (run_mkE (us := []) (ws := []) (zs := []) M hr (.inl rfl) (Nat.zero_le _) I .nil (fun s' a X' => ?_) q1)
  have e := hb s' [.ref a] X' (by rw [List.append_nil, ← hlen]; rfl)
  rw [List.append_nil] at e
  exact e
/-- C(f = e, ..): one or two keywords, in the parameters' order -/
theorem pe_mkEK {C fI : Addr} {fd : FuncData} {ps ks : List Str} {sp : Sp} (M : EM X.prog X.w X.K X.mg X.base x C k fI fd ps sp) (hr : Room 2 X.A) (hn : ks.length = 1 ∨ ks.length = 2)
    (hb : ∀ (s' : Shared) (a : Addr) (ws : List Value), ws.length = ks.length → BindsTo s' fd ⟨[.ref a], ks.zip ws⟩ (ps.zip (.ref a :: ws))) (hp : ps.length = ks.length + 1) (hg : Gl X x) (hkw : PK X kws tk)
    (hall : (backToKw pos (keywordEach kws X.env)).all (·.1.isSome) = true := by rfl) (hks : (backToKw pos (keywordEach kws X.env)).filterMap (·.1) = ks := by rfl) (hdb : (x == ("__debug__" : Str)) = false := by decide)
    (hpl : ((backTo pos (starEach [] X.env)).any (·.1) || (backToKw pos (keywordEach kws X.env)).any (·.1.isNone)) = false := by rfl) :
    PE X (.Call (.Name x p) [] kws pos) (tMkE C sp tk) := by
  refine ⟨fun pins s σ H Q I h => ?_⟩
  refine wpAny_Call_Name_kw (ld_glob I hg M.g ?_ hdb)
  refine PySem.W.callWith_KW0 (h₀ := X.base) I.ok.mod.kin M.c.kC hall ?_ hpl
  refine thn (hkw.run pos pins s σ H _ I h) fun ws s2 ⟨zs, H2, I2, rz, hz, q2⟩ => ⟨I2.kIn, ?_⟩
  rw [hks]
  have hlen : (V.ref s2.heap.objs.size :: zs).length = ps.length := M.ok.len _ _ _ _ (q2 (s2.heap.objs.size) (I2.hok.fresh (Nat.le_refl _)))
  have hw : ws.length = ks.length := by
    rw [← rz.length]
    rw [List.length_cons] at hlen
    omega
  refine run_mkE (us := []) (ws := ws) (zs := zs) M hr ?_ (Nat.zero_le _) I2 rz (fun s' a X' => hb s' a ws hw) q2
  rcases hn with hn | hn
  · match ks, ws, hn, hw with
    | [y], [u], _, _ => exact .inr (.inl ⟨y, u, rfl⟩)
  · match ks, ws, hn, hw with
    | [y, z], [u, o], _, _ => exact .inr (.inr ⟨y, u, z, o, rfl⟩)
/-- e.f, e an error whose fields stand in its dict -/
def tFE (K : PySem.W.Frag) (f : Str) (te : TE) : TE := fun σ H Q => te σ H fun x H1 => ∃ (a C d : Addr) (k : Kd) (fs : List (Str × V)) (v : V), x = .ref a ∧ H1 a = some (exo a C (some d)) ∧ H1 d = some (exd d fs) ∧ EC K C k ∧ PySem.W.findIn K (.ref C) f = some none ∧ fs.lookup f = some v ∧ Q v H1
theorem pe_fE (he : PE X e te) (hb : attributeBase e f X.env (eval e X.env) = eval e X.env := by rfl) : PE X (.Attribute e f pos) (tFE X.K f te) := by
  refine ⟨fun pins s σ H Q I h => ?_⟩
  refine attr_of hb (thn (he.run pins s σ H _ I h) fun u s1 ⟨z, H1, I1, rx, a, C, d, k, fs, v, ez, ea, ed, T, hno, hl, q⟩ => ?_)
  subst ez
  obtain rfl : u = Value.ref a := rx
  obtain ⟨t1, ho⟩ := exo_at I1.hok ea
  obtain ⟨mA, hns, rel⟩ := exd_at I1.hok ed
  obtain ⟨od, hod, hlk⟩ := lookIn_ns hns
  obtain ⟨w', hu, ru⟩ := RelO.some_of (v := v) (o := mA f) (by rw [← hl]; exact rel f)
  have J : PySem.W.InstAt s1.heap a { cls := .ref C, dict := some d, data := .fields #[.ref t1, .none, .none, .none, .bool false, .none] } C (some od) := ⟨ho, rfl, rfl, hod⟩
  exact HandSPX.exc_get I1.kIn J T.at_.hg T.at_.hk T.at_.hs (PySem.W.findObj_own T.at_.hd hno rfl (by rw [hlk, hu])) (handed_of ru) ⟨v, H1, I1.tok _, ru, q⟩
end
end K34
set_option Elab.async false
set_option linter.all false
set_option maxRecDepth 100000
set_option maxHeartbeats 4000000
namespace K34
open PySem PySem.Spec PyProof.Rows L2
/-! ### isinstance of an error -/
/-- an error of the class at C stands at a -/
def ErrAt (H : Hp) (a C : Addr) : Prop := ∃ d : Option Addr, H a = some (exo a C d) ∧ (d = none ∨ ∃ dd fs, d = some dd ∧ H dd = some (exd dd fs))
theorem ErrAt.same {H H' : Hp} {a C : Addr} (e : ErrAt H a C) (s : Same H H') : ErrAt H' a C := by
  obtain ⟨d, h1, h2⟩ := e
  refine ⟨d, s _ _ h1, ?_⟩
  rcases h2 with h | ⟨dd, fs, h, h3⟩
  · exact .inl h
  · exact .inr ⟨dd, fs, h, s _ _ h3⟩
def rIsX (K : PySem.W.Frag) : List V → Hp → VK → Prop := fun xs H Q => ∃ (a C : Addr) (k : Kd) (c : V) (cv : Value) (b : Bool), xs = [.ref a, c] ∧ ErrAt H a C ∧ EC K C k ∧ (∀ u, RelV c u → u = cv) ∧ PySem.W.kitOne K (.ref C) cv = some b ∧ Q (.bl b) H
theorem call_isX {X : Cx} : CallR X (.builtin "isinstance") (rIsX X.K) := by
  intro pins s σ H xs us Q I r h
  obtain ⟨a, C, k, c, cv, b, rfl, ⟨d, ea, hd⟩, T, hcv, e, q⟩ := h
  cases r with
  | cons rx rr =>
    cases rr with
    | cons rt rr =>
      cases rr
      cases rx
      have ec := hcv _ rt
      subst ec
      obtain ⟨t1, ho⟩ := exo_at I.hok ea
      obtain ⟨od, J⟩ : ∃ od, PySem.W.InstAt s.heap a { cls := .ref C, dict := d, data := .fields #[.ref t1, .none, .none, .none, .bool false, .none] } C od := by
        rcases hd with rfl | ⟨dd, fs, rfl, ed⟩
        · exact ⟨none, ho, rfl, rfl, trivial⟩
        · obtain ⟨mA, hns, rel⟩ := exd_at I.hok ed
          obtain ⟨oD, _, _, hoD, _, _⟩ := hns
          exact ⟨some oD, ho, rfl, rfl, hoD⟩
      have hcl : (PySem.W.clsIn X.K C).isSome = true := by
        obtain ⟨cd, hc, _⟩ := PySem.W.any_some T.at_.hd
        rw [hc] <;> rfl
      exact PySem.W.kia_one (PySem.W.kitx_exc hcl T.at_.hg T.at_.hk T.at_.hs T.at_.ha T.at_.hn T.at_.ht T.at_.hm) I.kIn J e (fun z => nomatch z) fun tk => ⟨.bl b, H, I.kept (t' := tk) fun _ _ z => z, rfl, q⟩
section
variable {K : PySem.W.Frag} {C C' : Addr} {k k' : Kd}
theorem bm_ref : ∀ (k : Kd) (C : Addr), k.bm.contains (Value.ref C) = false
  | .ve, _ => rfl | .ke, _ => rfl | .le, _ => rfl | .oe, _ => rfl | .re, _ => rfl
theorem bm_ne : ∀ (k : Kd), k.bm.isEmpty = false
  | .ve => rfl | .ke => rfl | .le => rfl | .oe => rfl | .re => rfl
theorem EC.cd (T : EC K C k) : ∃ cd : ClassData, PySem.W.clsIn K C = some cd ∧ cd.mro = .ref C :: k.bm := by
  obtain ⟨nm, q, N, bs, sn, sub, ab, col, dd, k0, k1, k2, k3, k5, hC⟩ := T.cls
  refine ⟨_, by unfold PySem.W.clsIn; rw [hC], rfl⟩
theorem EC.ty (T : EC K C k) : PySem.W.typeIn K (.ref C) = some (.type "type") := by
  obtain ⟨nm, q, N, bs, sn, sub, ab, col, dd, k0, k1, k2, k3, k5, hC⟩ := T.cls
  show (K.lookup C).map (·.cls) = _
  rw [hC] <;> rfl
/-- isinstance(e, C'), C' an own class of errors -/
theorem kit_own (T : EC K C k) (T' : EC K C' k') : PySem.W.kitOne K (.ref C) (.ref C') = some (decide (C = C')) := by
  unfold PySem.W.kitOne
  by_cases h : C = C'
  · rw [if_pos (by rw [h]; exact beq_self_eq_true _), decide_eq_true h]
  · rw [if_neg (by intro z; exact h (Value.ref.inj (beq_iff_eq.mp z))), decide_eq_false h]
    obtain ⟨cd, hc, hm⟩ := T.cd
    obtain ⟨cd', hc', _⟩ := T'.cd
    show (if ((PySem.W.clsIn K C').isSome && PySem.W.typeIn K (.ref C') == some (.type "type")) = true then PySem.W.subIn K (.ref C) (.ref C') else none) = some false
    rw [if_pos (by rw [hc', T'.ty]; rfl)]
    show (PySem.W.clsIn K C).bind _ = _
    rw [hc, Option.bind_some, hm, if_neg (by simp), List.contains_cons, bm_ref, Bool.or_false]
    refine congrArg some (beq_eq_false_iff_ne.mpr fun z => h (Value.ref.inj z).symm)
/-- isinstance(e, T), T a built-in class -/
theorem kit_blt (T : EC K C k) (n : String) (hn : PySem.W.kitMeta n = true) : PySem.W.kitOne K (.ref C) (.type n) = some (k.bm.contains (.type n)) := by
  unfold PySem.W.kitOne
  rw [if_neg (by intro z; exact nomatch (beq_iff_eq.mp z))]
  obtain ⟨cd, hc, hm⟩ := T.cd
  show (if PySem.W.kitMeta n = true then PySem.W.subIn K (.ref C) (.type n) else none) = _
  rw [if_pos hn]
  show (PySem.W.clsIn K C).bind _ = _
  rw [hc, Option.bind_some, hm, if_neg (by simp), List.contains_cons]
  rfl
end
/-! ### xs.count(True), xs a list of bools -/
def isT (v : Value) : Bool := match v with
  | .bool b => b
  | _ => false
theorem bools_vals : ∀ {bs : List Bool} {us : List Value}, Vals (bs.map V.bl) us → (∀ y ∈ us, ∃ b, y = .bool b) ∧ us.countP isT = bs.count true
  | [], _, r => by
    cases r
    exact ⟨fun y hy => absurd hy (by simp), rfl⟩
  | b :: bs, _, r => by
    cases r with
    | cons r1 r2 =>
      obtain ⟨h1, h2⟩ := bools_vals r2
      cases (show _ = Value.bool b from r1)
      refine ⟨fun y hy => ?_, ?_⟩
      · rcases List.mem_cons.mp hy with e | e
        · exact ⟨b, e⟩
        · exact h1 y e
      · rw [List.countP_cons, List.count_cons, h2]
        cases b <;> rfl
def rCntT (K : PySem.W.Frag) : V → List V → Hp → VK → Prop := fun x xs H Q => ∃ (p : Addr) (bs : List Bool), x = .ref p ∧ xs = [.bl true] ∧ SqL K H p (bs.map V.bl) ∧ Q (.int (bs.count true : Nat)) H
theorem mt_cntT {X : Cx} : MtR X "list.count" (rCntT X.K) := by
  intro pins s σ H x xs v us Q I rx rxs h
  obtain ⟨p, bs, rfl, rfl, hs, q⟩ := h
  cases rx
  obtain ⟨u, rfl, ru⟩ := rxs.one
  cases (show u = Value.bool true from ru)
  obtain ⟨its, rv, ⟨⟨cls, dd, data, sl⟩, n, ho, hc, hdn, hd⟩, hlen⟩ := I.list hs
  simp only at hc hd
  subst hc hd
  obtain ⟨h1, h2⟩ := bools_vals rv
  refine call_meets PySem.F.slot_list_count ⟨_, ho, rfl⟩ PySem.F.entry_list_count (PySem.F.args_list_count_2 _ _)
    (SeqAt.list_countAt p its.toArray n dd sl (.bool true) isT) ⟨ho, fun y hy => ?_, ?_⟩
  · obtain ⟨b, rfl⟩ := h1 y (by simpa using hy)
    have z := SeqAt.EqAt.bool_bool (A := (X.A).in1) (s := s) b true
    have e : (b == true) = isT (.bool b) := by cases b <;> rfl
    rw [e] at z
    exact z
  · refine ⟨.int (bs.count true : Nat), H, I.tok _, ⟨s.toks, ?_⟩, q⟩
    show Value.int ((its.toArray.toList.countP isT : Nat) : Int) s.toks = _
    rw [show its.toArray.toList = its from by simp, h2]
/-! ### repr of data; nothing guards it -/
inductive Th (K : PySem.W.Frag) (H : Hp) : V → PyData → Prop
  | dp {v : V} {d : PyData} : Dp K H v d → d.hasDict = false → Th K H v d
  | d0 {a : Addr} : H a = some (.dK []) → Th K H (.ref a) (.dict [])
  | d1 {a : Addr} : H a = some (.dK [(.inr "a", .int 1)]) → Th K H (.ref a) (.dict [(.str "a", .int 1)])
theorem dp_same {K : PySem.W.Frag} {H H' : Hp} (e : ∀ b o, H b = some o → H' b = some o) : ∀ (d : PyData) (v : V), Dp K H v d → Dp K H' v d := by
  have sT : ∀ {a : Addr} {xs : List V}, SqT K H a xs → SqT K H' a xs := fun {a xs} h => by
    rcases h with (h | ⟨o, h⟩) | h
    · exact .inl (.inl (e _ _ h))
    · exact .inl (.inr ⟨o, e _ _ h⟩)
    · exact .inr h
  have sL : ∀ {a : Addr} {xs : List V}, SqL K H a xs → SqL K H' a xs := fun {a xs} h => Same.seq e h
  intro d v h
  exact Dp.rec (motive_1 := fun v d _ => Dp K H' v d) (motive_2 := fun vs ds _ => DpAll K H' vs ds) .non .bl .int .str (fun h1 _ ih => .lst (sL h1) ih) (fun h1 _ ih => .tup (sT h1) ih) .nil (fun _ _ i1 i2 => .cons i1 i2) h
theorem Th.same {K : PySem.W.Frag} {H H' : Hp} {v : V} {d : PyData} (t : Th K H v d) (e : ∀ b o, H b = some o → H' b = some o) : Th K H' v d := by
  cases t with
  | dp h n => exact .dp (dp_same e _ _ h) n
  | d0 h => exact .d0 (e _ _ h)
  | d1 h => exact .d1 (e _ _ h)
section
variable {X : Cx} {pins : List (Addr × Obj)} {σ : L2.St} {H : Hp} {s : Shared}
theorem Th.reads {v : V} {u : Value} {d : PyData} (I : Inv X pins σ H s) (t : Th X.K H v d) (r : RelV v u) : ∃ as, Reads s.heap u d as ∧ (d.hasDict = true → sysModules ∉ as) := by
  cases t with
  | dp h n =>
    obtain ⟨as, q⟩ := Dp.reads I d v u h r
    exact ⟨as, q, fun z => by rw [n] at z; cases z⟩
  | @d0 a h =>
    cases (show u = Value.ref a from r)
    obtain ⟨_, hn, vs, rel, o, es, ep, ho, hx, hd, he⟩ := dk_of I.hok h
    cases rel
    obtain ⟨_, pr, _⟩ := he
    have e0 : es.toList = [] := by
      generalize es.toList = l at pr
      cases pr
      rfl
    refine ⟨_, Reads.dict (as := []) (bs := []) ho hx.1 hd (by rw [e0]; exact .nil) (by rw [e0]; exact .nil), fun _ z => ?_⟩
    have z2 : sysModules = a := by simpa using z
    rw [z2] at hn
    simp at hn
  | @d1 a h =>
    cases (show u = Value.ref a from r)
    obtain ⟨_, hn, vs, rel, o, es, ep, ho, hx, hd, he⟩ := dk_of I.hok h
    obtain ⟨_, pr, _⟩ := he
    cases rel with
    | @cons _ q _ _ r1 r2 =>
      cases r2
      obtain ⟨k1, v1⟩ := q
      obtain ⟨ek, t1, ev⟩ := r1
      have ek' : Sum.inr ("a" : Str) = k1 := ek
      have ev' : v1 = Value.int 1 t1 := ev
      subst ek' ev'
      obtain ⟨e, e0, hk, hv⟩ : ∃ e : DictEntry, es.toList = [e] ∧ (mixKind X.prog X.w).is (.inr ("a" : Str)) e.key = true ∧ e.val = Value.int 1 t1 := by
        generalize es.toList = l at pr
        cases pr with
        | cons p1 p2 p3 =>
          cases p3
          exact ⟨_, rfl, p1, p2⟩
      obtain ⟨t2, hk2⟩ : ∃ t2, e.key = Value.str ("a" : Str) t2 := by
        rcases keyIs_shape (show keyIs (.inr ("a" : Str)) e.key = true from hk) with ⟨i, t, z, _⟩ | ⟨x, t, z, z2⟩
        · cases z
        · cases z
          exact ⟨t, z2⟩
      have q1 : Reads s.heap e.key (.str ("a" : Str)) [] := by rw [hk2]; exact .str _ _
      have q2 : Reads s.heap e.val (.int 1) [] := by rw [hv]; exact .int _ _
      refine ⟨_, Reads.dict (as := [] ++ []) (bs := [] ++ []) ho hx.1 hd (by rw [e0]; exact .cons q1 .nil) (by rw [e0]; exact .cons q2 .nil), fun _ z => ?_⟩
      have z2 : sysModules = a := by simpa using z
      rw [z2] at hn
      simp at hn
/-- a written list: its place is not that of the table of modules -/
def tLstM (t : TA) : TE := fun σ H Q => t σ H fun xs H1 => xs.length ≤ sizeLine ∧ ∀ p, H1 p = none → p ≠ sysModules → Q (.ref p) (upd H1 p (.lst xs))
theorem pe_lstM {es : List Expr} {t : TA} {pos : Pos} (h : PA X es t) : PE X (.List es pos) (tLstM t) := by
  refine ⟨fun pins s σ H Q I hq => ?_⟩
  refine wpAny_List_spliced (thn (h.run pos pins s σ H _ I hq) fun us s1 ⟨xs, H1, I1, r, z, q⟩ => ⟨by rw [← r.length]; exact z, ?_⟩)
  have hf : H1 s1.heap.objs.size = none := I1.hok.fresh (Nat.le_refl _)
  refine ⟨.ref s1.heap.objs.size, upd H1 s1.heap.objs.size (.lst xs), I1.laid (t' := s1.toks) (fun b u e => Heap.get?_push_of_some _ e) (Nat.le_refl _) ?_, rfl, q _ hf (Nat.ne_of_gt I1.big)⟩
  exact ⟨z, us, 0, r, Heap.get?_push_size _ rfl⟩
/-- repr of a datum -/
def rRepr (K : PySem.W.Frag) : List V → Hp → VK → Prop := fun xs H Q => ∃ v d, xs = [v] ∧ Th K H v d ∧ d.showable = true ∧ d.shown.length ≤ sizeLine ∧ d.depth ≤ 8 ∧ Q (.str d.shown) H
theorem call_repr (hg : X.A.guards = some []) (hu : X.A.units + 64 < cLine) : CallR X (.builtin "repr") (rRepr X.K) := by
  intro pins s σ H xs us Q I r h
  obtain ⟨v, d, rfl, t, hs, hl, hd, q⟩ := h
  obtain ⟨u, rfl, ru⟩ := vals1 r
  obtain ⟨as, rd, hm⟩ := t.reads I ru
  have fin : ∀ tk, EP X pins σ Q (.str d.shown tk) { s with toks := s.toks + 1 } := fun tk => ⟨.str _, H, I.tok _, ⟨_, rfl⟩, q⟩
  cases rd with
  | none => exact PySem.P.repr_of_none (fin _)
  | bool b =>
    refine PySem.P.repr_of_bool ?_
    have z := fin s.toks
    simp only [PyData.shown] at z
    exact z
  | int i tk =>
    have hi : i.natAbs.log2 < 1920 := of_decide_eq_true (by simpa only [PyData.showable] using hs)
    refine PySem.P.repr_of_int hi ?_
    have z := fin s.toks
    simp only [PyData.shown] at z
    exact z
  | str x tk =>
    have z := fin s.toks
    simp only [PyData.shown] at z hl
    exact PySem.P.repr_of_str z hl
  | list h1 h2 h3 h4 => exact repr_of_reads' (.list h1 h2 h3 h4) hs hm hg (by omega) (fun _ _ e => e) (fun h' u' tk kp => ⟨.str _, H, I.kept kp, ⟨_, rfl⟩, q⟩) hl
  | tuple h1 h2 h3 h4 => exact repr_of_reads' (.tuple h1 h2 h3 h4) hs hm hg (by omega) (fun _ _ e => e) (fun h' u' tk kp => ⟨.str _, H, I.kept kp, ⟨_, rfl⟩, q⟩) hl
  | dict h1 h2 h3 h4 h5 => exact repr_of_reads' (.dict h1 h2 h3 h4 h5) hs hm hg (by omega) (fun _ _ e => e) (fun h' u' tk kp => ⟨.str _, H, I.kept kp, ⟨_, rfl⟩, q⟩) hl
/-- repr of a list of a datum, twice -/
def rRepr2 (K : PySem.W.Frag) : List V → Hp → VK → Prop := fun xs H Q => ∃ p v d, xs = [.ref p] ∧ p ≠ sysModules ∧ H p = some (.lst [v, v]) ∧ Th K H v d ∧ (PyData.list [d, d]).showable = true ∧ (PyData.list [d, d]).shown.length ≤ sizeLine ∧ (PyData.list [d, d]).depth ≤ 8 ∧ Q (.str (PyData.list [d, d]).shown) H
theorem call_repr2 (hg : X.A.guards = some []) (hu : X.A.units + 64 < cLine) : CallR X (.builtin "repr") (rRepr2 X.K) := by
  intro pins s σ H xs us Q I r h
  obtain ⟨p, v, d, rfl, hp, hH, t, hs, hl, hd, q⟩ := h
  obtain ⟨u, rfl, ru⟩ := vals1 r
  cases (show u = Value.ref p from ru)
  obtain ⟨its, rv, ⟨o, n, ho, hc, _, hdat⟩, _⟩ := I.list (SqL.of hH)
  cases rv with
  | cons r1 r2 =>
    cases r2 with
    | cons r2 r3 =>
      cases r3
      obtain ⟨as, d1, m1⟩ := t.reads I r1
      obtain ⟨bs, d2, m2⟩ := t.reads I r2
      have rd : Reads s.heap (.ref p) (.list [d, d]) _ := .list ho hc hdat (.cons d1 (.cons d2 .nil))
      refine repr_of_reads' rd hs (fun hh z => ?_) hg (by omega) (fun _ _ e => e) (fun h' u' tk kp => ⟨.str _, H, I.kept kp, ⟨_, rfl⟩, q⟩) hl
      have hdd : d.hasDict = true := by
        have z : (d.hasDict || (d.hasDict || false)) = true := by simpa only [PyData.hasDict, PyData.hasDictAll] using hh
        simpa using z
      rcases List.mem_cons.mp z with e | e
      · exact hp e.symm
      · rcases List.mem_append.mp e with e | e
        · exact m1 hdd e
        · rcases List.mem_append.mp e with e | e
          · exact m2 hdd e
          · cases e
end
end K34
set_option Elab.async false
set_option linter.all false
set_option maxRecDepth 100000
set_option maxHeartbeats 4000000
/-! a def's promise where no guard runs: FnOk's twin, its body, its call, the law's call -/
namespace K34
open PySem PySem.Spec PyProof.Rows L2
structure FnG (P : Program) (w : World) (K : PySem.W.Frag) (mg : Str → Option Value) (base : Heap) (k : Nat) (f : Addr) (fd : FuncData) (ps : List Str) (sp : Sp) : Prop where
  len : ∀ vs H Q E, sp vs H Q E → vs.length = ps.length
  go : ∀ (A : Around) (outer : List Env) (s : Shared) (H : Hp) (args : Args) (us : List Value) (vs : List V) (Q : VK) (E : XK), A.guards = some [] → Room k A → Env0 P w K mg base A outer s H → BindsTo s fd args (ps.zip us) → Vals vs us → sp vs H Q E →
    codeAny (model P w) A (.call (.ref f) args) (CR CX0 outer P w H s Q E) s
section
variable {P : Program} {w : World} {K : PySem.W.Frag} {mg : Str → Option Value} {base : Heap} {x qual : Str} {params : Arguments} {body : List Stmt} {scope : Scope} {dvs : List V} {kws : List (Str × V)} {f : Addr} {fd : FuncData}
theorem okGl {N ps : List Str} {k : Nat} {sp : Sp} {oc dV kV doc pm cdv ct : Value} {od an : Option Addr} {osl : Array (Option Value)} (lk : K.lookup f = some ⟨oc, od, .func (PySem.W.fnOf x qual params body scope dV kV doc pm an cdv ct), osl⟩) (hcd : PySem.W.codeIn K cdv qual = true)
    (S : FnScope N ps scope) (len : ∀ vs H Q E, sp vs H Q E → vs.length = ps.length)
    (hbody : ∀ (A : Around) (outer : List Env) (s : Shared) (H : Hp) (vs : List V) (Q : VK) (E : XK), A.guards = some [] → Room k (A.deeper (envOfC qual scope s.heap.objs.size f cdv)) → sp vs H Q E →
      ∃ t, PSs (cxOf CX0 P w K mg base N qual scope f cdv A outer s H E) body t ∧ t { nx := fun _ H' => Q .non H', rt := Q } (start N vs) H) : FnG P w K mg base (k + 1) f (PySem.W.fnOf x qual params body scope dV kV doc pm an cdv ct) ps sp := by
  refine ⟨len, fun A outer s H args us vs Q E hga hro e0 hb r hsp => ?_⟩
  have hl := len _ _ _ _ hsp
  have kx : K.In s.heap := e0.mod.kin.keeps fun b o e => (e0.bs b o e).1
  have lim : s.heap.NoLimit := e0.mod.nolimit.keeps fun b o e => (e0.bs b o e).1
  have hk : ∀ y ∈ ps.zip us, scope.names.lookup y.1 = some .local ∨ (scope.names.lookup y.1 = some .cell ∧ ((cellsFrom (s.heap.objs.size + 1) scope.names []).lookup y.1).isSome = true) := fun ⟨n, v⟩ hy => by
    rcases S.par n (List.of_mem_zip hy).1 with z | z
    · exact .inl z
    · exact .inr ⟨z, PySem.W.cellsFrom_some _ _ _ (.inl z)⟩
  refine codeAny_call_function hro.depth (kx _ _ lk) rfl S.co S.gen rfl (PySem.W.codeRec_of kx hcd) (hb _ _ _ _ ?_)
  refine wpAny_newFunctionEnv_cells S.kind hk fun env he s1 z => ?_
  subst he
  refine ⟨lim.keeps z.toInCall.keep, codeAny_func ?_⟩
  obtain ⟨t, ht, hq⟩ := hbody A outer s H vs Q E hga (hro.deeper _) hsp
  have I : Inv (cxOf CX0 P w K mg base N qual scope f cdv A outer s H E) [] (start N vs) H s1 := inv_start S hro.hd e0 hl r z
  refine wpAny_mono (ht.run [] s1 (start N vs) H _ I hq) (fun fl s' hs => ?_) fun e s' hs => hs
  have fin : ∀ {σ' : L2.St} {H' : Hp} {v : V} {u : Value}, Inv (cxOf CX0 P w K mg base N qual scope f cdv A outer s H E) [] σ' H' s' → RelV v u → Q v H' → CE outer P w H s Q u s' :=
    fun {σ' H' v u} J rv q => ⟨v, H', J.os, J.bare, J.base, J.hok, rv, q⟩
  cases fl with
  | ret u =>
    obtain ⟨v, σ', H', J, rv, q⟩ := hs
    exact fin J rv q
  | next =>
    obtain ⟨σ', H', J, q⟩ := hs
    exact fin (v := V.non) (u := Value.none) J rfl q
  | brk =>
    obtain ⟨_, _, _, q⟩ := hs
    exact False.elim q
  | cont =>
    obtain ⟨_, _, _, q⟩ := hs
    exact False.elim q
theorem okG {N ps : List Str} {k : Nat} {sp : Sp} (F : FunD K x qual params body scope dvs kws f fd) (S : FnScope N ps scope) (len : ∀ vs H Q E, sp vs H Q E → vs.length = ps.length)
    (hbody : ∀ (cdv : Value) (A : Around) (outer : List Env) (s : Shared) (H : Hp) (vs : List V) (Q : VK) (E : XK), A.guards = some [] → Room k (A.deeper (envOfC qual scope s.heap.objs.size f cdv)) → sp vs H Q E →
      ∃ t, PSs (cxOf CX0 P w K mg base N qual scope f cdv A outer s H E) body t ∧ t { nx := fun _ H' => Q .non H', rt := Q } (start N vs) H) : FnG P w K mg base (k + 1) f fd ps sp := by
  obtain ⟨oc, od, dV, kV, doc, pm, an, cdv, ct, osl, rfl, lk, hcd, _, _⟩ := F.ex
  exact okGl lk hcd S len fun A outer s H vs Q E hga hr hsp => hbody cdv A outer s H vs Q E hga hr hsp
end
section
variable {X : Cx} {k : Nat} {f : Addr} {fd : FuncData} {ps : List Str} {sp : Sp} {x : Str} {p pos : Pos} {e : Expr} {es : List Expr} {t : TA}
theorem pe_callG (F : FnG X.prog X.w X.K X.mg X.base k f fd ps sp) (hga : X.A.guards = some []) (hr : Room k X.A) (hg : Gl X x) (hm : X.mg x = some (.ref f)) (hk : PySem.W.keepIn X.K (.ref f) = true) (hb : Binds X.K fd ps [])
    (ha : PA X (e :: es) t) (hdb : (x == ("__debug__" : Str)) = false := by decide) (he : starEach (e :: es) X.env = (false, eval e X.env) :: starEach es X.env := by rfl) (hpl : (backTo pos (starEach es X.env)).any (·.1) = false := by rfl) :
    PE X (.Call (.Name x p) (e :: es) [] pos) (tCall sp [] E0 t) := by
  refine ⟨fun pins s σ H Q I h => ?_⟩
  refine wpAny_Call_Name_kw (ld_glob I hg hm ?_ hdb)
  refine PySem.W.callWith_K (h₀ := X.base) I.ok.mod.kin hk (thn (ha.run pos pins s σ H _ I h) fun us s1 ⟨vs, H1, I1, r, q⟩ => ⟨I1.kIn, ?_⟩) he hpl
  have r2 : Vals (vs ++ []) (us ++ []) := r.append .nil
  have hl : (us ++ []).length = ps.length := by rw [← r2.length]; exact F.len _ _ _ _ q
  show wpAny _ _ (call (.ref f) us) _ _ _
  refine wpAny_call (codeAny_mono (F.go X.A X.stack s1 H1 ⟨us, []⟩ (us ++ []) (vs ++ []) Q E0 hga hr I1.env0 (hb s1 us I1.kIn hl) r2 q) fun r s' hq => ?_)
  cases r with
  | error e => exact False.elim hq
  | ok fl =>
    cases fl with
    | ret u => exact I1.after hq
    | next => exact False.elim hq
    | brk => exact False.elim hq
    | cont => exact False.elim hq
end
/-- the law's def at the heap behind the top -/
theorem law_G {P : Program} {w : World} {K : PySem.W.Frag} {mg mb : Str → Option Value} {k : Nat} {fa a : Addr} {fd : FuncData} {x : Str} {sp : Sp} {s1 : Shared} {vs : List Value} {ns : List Int}
    (kx : K.In s1.heap) (hns : s1.heap.Ns mainGlobals mg) (hb : s1.heap.Ns builtinsNs mb) (hbb : ∀ y : Str, y ≠ "__name__" → mb y = bootBuiltins y) (hlim : s1.heap.NoLimit) (hg : s1.gens = #[])
    (ha : s1.heap.get? a = some { cls := .type "list", data := .seq vs.toArray }) (hi : IntsAre vs ns) (hl : ns.length ≤ sizeLine) (hr : Room k callerA)
    (F : ∀ base : Heap, K.In base → base.Ns mainGlobals mg → FnG P w K mg base k fa fd [x] sp) (hbd : ∀ (s : Shared) (u : Value), BindsTo s fd ⟨[u], []⟩ [(x, u)])
    (hsp : ∀ H : Hp, Only H → SqL K H a (ns.map V.int) → sp [.ref a] H (fun v _ => v = .bl true) fun _ _ _ => False) :
    codeAny (model P w) callerA (.call (.ref fa) ⟨[.ref a], []⟩) (fun r s' => r = .ok (.ret (.bool true)) ∧ OldK s1.heap s'.heap ∧ s'.os = s1.os ∧ AllBare s'.gens) s1 := by
  have rv := vals_ints hi
  have lv := hi.length
  have core : ∀ H : Hp, Only H → SqL K H a (ns.map V.int) → HOk P w H s1.heap → (∀ b, H b ≠ none → b = a) → (H a ≠ none → K.lookup a = none) →
      codeAny (model P w) callerA (.call (.ref fa) ⟨[.ref a], []⟩) (fun r s' => r = .ok (.ret (.bool true)) ∧ OldK s1.heap s'.heap ∧ s'.os = s1.os ∧ AllBare s'.gens) s1 := by
    intro H hO hS hok hA hK
    have bo : ∀ {b : Addr} {o : Obj}, s1.heap.get? b = some o → H b = none → (hidT s1.heap H).get? b = some o := fun e n => hidT_get e n
    have nA : ∀ {b : Addr} {o : Obj} {es : Array DictEntry} {ep : Nat}, s1.heap.get? b = some o → o.data = .dict es ep → H b = none := fun {b o es ep} e d => by
      cases q : H b with
      | none => rfl
      | some u =>
        have e' : b = a := hA b (by rw [q]; simp)
        subst e'
        rw [ha] at e; cases e
        have d' : Data.seq vs.toArray _ = Data.dict es ep := d
        cases d'
    have nsK : ∀ {b : Addr} {m : Str → Option Value}, s1.heap.Ns b m → (hidT s1.heap H).Ns b m := fun {b m} ⟨o, es, ep, e, d, r⟩ => ⟨o, es, ep, bo e (nA e d), d, r⟩
    have hKb : K.In (hidT s1.heap H) := fun b o e => bo (kx b o e) (by
      cases q : H b with
      | none => rfl
      | some u =>
        have e' : b = a := hA b (by rw [q]; simp)
        subst e'
        rw [hK (by rw [q]; simp)] at e; cases e)
    have hM : Mod K mg (hidT s1.heap H) := ⟨hKb, nsK hns, ⟨mb, nsK hb, hbb⟩, let ⟨mc, h1, h2⟩ := hlim; ⟨mc, nsK h1, h2⟩⟩
    have e0 : Env0 P w K mg (hidT s1.heap H) callerA [] s1 H := ⟨rfl, hM, fun b o e => of_hidT e, Nat.le_of_eq (hidT_size _ _), trivial, fun b hb => absurd (show b ∈ ([] : List Addr) from hb) (by simp), hok, .of_eq hg⟩
    refine codeAny_mono ((F _ hKb (nsK hns)).go callerA [] s1 H ⟨[.ref a], []⟩ [.ref a] [.ref a] _ _ rfl hr e0 (hbd s1 (.ref a)) (.cons rfl .nil) (hsp H hO hS)) fun r s' h => ?_
    cases r with
    | error e => exact False.elim h
    | ok fl =>
      cases fl with
      | next => exact False.elim h
      | brk => exact False.elim h
      | cont => exact False.elim h
      | ret u =>
        obtain ⟨v, H', os, bare, un, hok', r', q⟩ := h
        have q' : v = .bl true := q
        subst q'
        obtain rfl : u = Value.bool true := r'
        refine ⟨rfl, OldK.of_keep fun b o e => ?_, os, bare⟩
        cases q : H b with
        | none => exact un.keep b o e q (by intro z; exact absurd (show b ∈ ([] : List Addr) from z) (by simp)) (by simp)
        | some u =>
          rcases hO b with z | ⟨ob, xs, z⟩
          · rw [q] at z; cases z
          · have z2 := un.frzs b ob _ z
            obtain ⟨e1, _⟩ := hok b _ z
            obtain ⟨e2, _⟩ := hok' b _ z2
            rw [e] at e1; cases e1
            exact e2
  cases hk : K.lookup a with
  | some o =>
    have e := kx a o hk
    rw [ha] at e
    cases e
    refine core (fun _ => none) (fun _ => .inl rfl) (.inr ⟨_, vs.toArray, _, hk, rfl, rfl, rfl, by rw [List.size_toArray, lv]; exact hl, by simpa using rv⟩) (fun b u z => by have z' : (none : Option HO) = some u := z; cases z') (fun b z => absurd rfl z) fun z => absurd rfl z
  | none =>
    refine core (fun b => if b = a then some (.frz { cls := .type "list", data := .seq vs.toArray } (.lst (ns.map V.int))) else none) (fun b => ?_) (.inl (.inr ⟨{ cls := .type "list", data := .seq vs.toArray }, if_pos rfl⟩)) (fun b u z => ?_) (fun b z => ?_) fun _ => hk
    · by_cases hb : b = a
      · exact .inr ⟨_, _, if_pos hb⟩
      · exact .inl (if_neg hb)
    · by_cases hb : b = a
      · have z' := (if_pos hb).symm.trans z
        cases z'
        subst hb
        exact ⟨ha, by rw [List.length_map]; exact hl, vs, _, rv, ha⟩
      · have z' := (if_neg hb).symm.trans z
        cases z'
    · by_cases hb : b = a
      · exact hb
      · exact absurd (if_neg hb) z
/-- a law: F gives the written part, the function object, the promise over every base -/
theorem walk_G {l : PySem.W.OpenLaw} {n k : Nat} {q : Program} {loose : List Str} {XP : (Str → Option Value) → Heap → Prop} {YP : World → Heap → Prop} {d : DefRec} {x : Str}
    (hn : l.most = some n) (hn2 : n ≤ sizeLine) (hdf : d.params.defaults = []) (hr : Room k callerA)
    (F : ∀ (w : World) (mg : Str → Option Value) (fa : Addr) (h : Heap), YP w h → h.Ns mainGlobals mg → mg d.name = some (.ref fa) →
      ∃ (K : PySem.W.Frag) (fd : FuncData) (sp : Sp), K.In h ∧ (∀ (s : Shared) (u : Value), BindsTo s fd ⟨[u], []⟩ [(x, u)]) ∧
        (∀ (H : Hp) (a : Addr) (ns : List Int), ns.length ≤ n → Only H → SqL K H a (ns.map V.int) → sp [.ref a] H (fun v _ => v = .bl true) fun _ _ _ => False) ∧
        ∀ base : Heap, K.In base → base.Ns mainGlobals mg → FnG l.prog w K mg base k fa fd [x] sp) :
    PySem.W.WalkO q loose XP YP l.row.toRowW d [] (fun f vs => PySem.call f vs) := by
  refine Att.attach_call hn hdf fun w s0 s1 mg mb fa o pm cd doc a vs ns G Y ho hd hcd hmg hobj hints hlen hg => ?_
  obtain ⟨K, fd, sp, kx, hb, hsp, hF⟩ := F w mg fa _ Y G.T.g hmg
  exact law_G kx G.T.g G.T.b G.T.builtins G.T.nolimit hg hobj hints (Nat.le_trans hlen hn2) hr hF hb fun H hO hS => hsp H a ns hlen hO hS
end K34
set_option Elab.async false
set_option linter.all false
set_option maxRecDepth 100000
set_option maxHeartbeats 4000000
namespace K01
open PySem PySem.Spec PyProof.Rows L2
abbrev FnP (K : PySem.W.Frag) (x : Str) (st : Stmt) (f : Addr) (fd : FuncData) : Prop := FunD K x x (defArgs st) (defBody st) (defScope st) [] [] f fd
/-! ### the pen -/
def penK (c : Addr) (t l : Int) : List (Key × V) := [(.inr "cells", .ref c), (.inr "turn", .int t), (.inr "left", .int l)]
theorem pen_cells (c : Addr) (t l : Int) : valV (penK c t l) (.inr ("cells" : Str)) = some (.ref c) := by kernel_rfl
theorem pen_turn (c : Addr) (t l : Int) : valV (penK c t l) (.inr ("turn" : Str)) = some (.int t) := by kernel_rfl
theorem pen_left (c : Addr) (t l : Int) : valV (penK c t l) (.inr ("left" : Str)) = some (.int l) := by kernel_rfl
theorem put_turn (c : Addr) (t l z : Int) : putK (penK c t l) (.inr ("turn" : Str)) (.int z) = penK c z l := by kernel_rfl
theorem put_left (c : Addr) (t l z : Int) : putK (penK c t l) (.inr ("left" : Str)) (.int z) = penK c t z := by kernel_rfl
/-- a pen stands at p, its cells at c -/
structure PenAt (H : Hp) (p c : Addr) (ns : List Int) (t l : Int) : Prop where
  d : H p = some (.dK (penK c t l))
  c : H c = some (.lst (ns.map .int))
  ht : 0 ≤ t
  hl : 0 ≤ l
  hn : ns.length ≤ 63
theorem get_cells {H : Hp} {p c : Addr} {t l : Int} (h : H p = some (.dK (penK c t l))) : DGet H p (.str "cells") (some (.ref c)) := by
  have g := DGet.k (k := Sum.inr ("cells" : Str)) h
  rw [pen_cells] at g
  exact g
theorem get_turn {H : Hp} {p c : Addr} {t l : Int} (h : H p = some (.dK (penK c t l))) : DGet H p (.str "turn") (some (.int t)) := by
  have g := DGet.k (k := Sum.inr ("turn" : Str)) h
  rw [pen_turn] at g
  exact g
theorem get_left {H : Hp} {p c : Addr} {t l : Int} (h : H p = some (.dK (penK c t l))) : DGet H p (.str "left") (some (.int l)) := by
  have g := DGet.k (k := Sum.inr ("left" : Str)) h
  rw [pen_left] at g
  exact g
theorem set_turn {H : Hp} {p c : Addr} {t l : Int} (h : H p = some (.dK (penK c t l))) (z : Int) : DPut H p (.str "turn") (.int z) (upd H p (.dK (penK c z l))) := by
  have g := DPut.k (k := Sum.inr ("turn" : Str)) (v := .int z) h (show 3 < sizeLine from by decide)
  rw [put_turn] at g
  exact g
theorem set_left {H : Hp} {p c : Addr} {t l : Int} (h : H p = some (.dK (penK c t l))) (z : Int) : DPut H p (.str "left") (.int z) (upd H p (.dK (penK c t z))) := by
  have g := DPut.k (k := Sum.inr ("left" : Str)) (v := .int z) h (show 3 < sizeLine from by decide)
  rw [put_left] at g
  exact g
/-- all that was tracked is as it was, but for what stands at p -/
def But (p : Addr) (H H' : Hp) : Prop := ∀ b o, b ≠ p → H b = some o → H' b = some o
theorem But.refl (p : Addr) (H : Hp) : But p H H := fun _ _ _ h => h
theorem But.trans {p : Addr} {H H1 H2 : Hp} (a : But p H H1) (b : But p H1 H2) : But p H H2 := fun c o n h => b c o n (a c o n h)
theorem But.of {p : Addr} {H H' : Hp} (a : Same H H') : But p H H' := fun c o _ h => a c o h
theorem But.put {p : Addr} {H H' : Hp} {o : HO} (a : But p H H') : But p H (upd H' p o) := fun c u n h => by rw [upd_ne n]; exact a c u n h
theorem But.new {p q : Addr} {H H' : Hp} {o : HO} (a : But p H H') (n : H q = none) : But p H (upd H' q o) := fun c u n' h => by
  rw [upd_ne (ne_of_none h n)]
  exact a c u n' h
theorem But.anew {p q : Addr} {H H' : Hp} {o : HO} (a : But p H H') (n : H' q = none) : But p H (upd H' q o) := fun c u n' h => by
  have h' := a c u n' h
  rw [upd_ne (ne_of_none h' n)]
  exact h'
theorem same_new {q : Addr} {H H' : Hp} {o : HO} (a : Same H H') (n : H' q = none) : Same H (upd H' q o) := fun c u h => by
  rw [upd_ne (ne_of_none (a c u h) n)]
  exact a c u h
theorem itT {A B : Prop} {c : Bool} (hc : c = true) (h : A) : if c = true then A else B := by
  subst hc
  exact iteT h
theorem itF {A B : Prop} {c : Bool} (hc : c = false) (h : B) : if c = true then A else B := by
  subst hc
  exact iteF h
def spDraw : Sp := fun vs H Q _ => ∃ (p c : Addr) (ns : List Int) (t l m : Int), vs = [.ref p, .int m] ∧ PenAt H p c ns t l ∧ t < 1000000000000 ∧ 0 < m ∧ m < 1073741824 ∧
  ∀ (k t' l' : Int) (H' : Hp), 0 ≤ k → k < m → t' ≤ t + 1 → PenAt H' p c ns t' l' → But p H H' → Q (.int k) H'
theorem scDraw : FnScope ["_law_pen_here", "_law_many", "_law_digit", "_law_turn", "_law_cell", "_law_primes", "_law_prime", "_law_drawn"] ["_law_pen_here", "_law_many"] (defScope sDraw) :=
  ⟨rfl, rfl, rfl, by decide +kernel, rfl, by decide +kernel, by decide +kernel⟩
structure TxB (mg : Str → Option Value) : Prop where
  int : mg "int" = none
  len : mg "len" = none
  abs : mg "abs" = none
  list : mg "list" = none
theorem can_ints : ∀ ns : List Int, PyData.canLayAll0 (ns.map PyData.int) = true
  | [] => rfl
  | n :: r => by
    show (PyData.canLay0 (.int n) && PyData.canLayAll0 (r.map PyData.int)) = true
    rw [can_ints r]
    rfl
theorem depth_ints : ∀ ns : List Int, PyData.depthAll (ns.map PyData.int) ≤ 1
  | [] => by decide
  | n :: r => by
    have := depth_ints r
    show max (PyData.depth (.int n)) (PyData.depthAll (r.map PyData.int)) ≤ 1
    refine Nat.max_le.mpr ⟨?_, this⟩
    rw [PyData.depth]
    all_goals decide
theorem shaped_ints (ns : List Int) : SeqAt.shaped (.list (ns.map PyData.int)) = true := by
  have h1 : PyData.canLay0 (.list (ns.map PyData.int)) = true := can_ints ns
  have h2 : (PyData.list (ns.map PyData.int)).depth ≤ 64 := by
    have := depth_ints ns
    rw [PyData.depth]
    omega
  show (PyData.canLay0 (.list (ns.map PyData.int)) && decide ((PyData.list (ns.map PyData.int)).depth ≤ 64)) = true
  rw [h1, decide_eq_true h2]
  rfl
theorem dp_ints {K : PySem.W.Frag} {H : Hp} : ∀ ns : List Int, DpAll K H (ns.map V.int) (ns.map PyData.int)
  | [] => .nil
  | n :: r => .cons (.int n) (dp_ints r)
theorem eqv_nil (ns : List Int) : PyData.eqv (.list (ns.map PyData.int)) (.list []) = ns.isEmpty := by
  cases ns with
  | nil => rfl
  | cons n r => rfl
theorem len_pos {ns : List Int} (h : ns ≠ []) : (0 : Int) < ((ns.map V.int).length : Int) := by
  have hl : 0 < ns.length := List.length_pos_iff.mpr h
  rw [List.length_map]
  omega
theorem cell_at {ns : List Int} {t : Int} (ht : 0 ≤ t) (h : ns ≠ []) : ∃ z, atI (ns.map V.int) (t % ((ns.map V.int).length : Int)) = some (.int z) := by
  rw [List.length_map]
  have hl : 0 < ns.length := List.length_pos_iff.mpr h
  have h0 : 0 ≤ t % (ns.length : Int) := Int.emod_nonneg _ (by omega)
  have h1 : t % (ns.length : Int) < ns.length := Int.emod_lt_of_pos _ (by omega)
  obtain ⟨j, hj⟩ : ∃ j : Nat, t % (ns.length : Int) = (j : Int) := ⟨(t % (ns.length : Int)).toNat, by omega⟩
  have hjl : j < ns.length := by omega
  refine ⟨ns[j], ?_⟩
  rw [hj]
  exact atI_nat (by rw [List.getElem?_map, List.getElem?_eq_getElem hjl]; rfl)
def primes : List Int := [2147483629, 2147483647, 2147483587, 2147483563, 2147483579]
theorem prime_at {t : Int} (ht : 0 ≤ t) : ∃ z, atI (primes.map V.int) (t % 5) = some (.int z) ∧ 2147483500 < z ∧ z < 2147483648 := by
  have h0 : 0 ≤ t % 5 := Int.emod_nonneg _ (by omega)
  have h1 : t % 5 < 5 := Int.emod_lt_of_pos _ (by omega)
  have hc : t % 5 = 0 ∨ t % 5 = 1 ∨ t % 5 = 2 ∨ t % 5 = 3 ∨ t % 5 = 4 := by omega
  rcases hc with e | e | e | e | e <;> rw [e]
  · exact ⟨2147483629, rfl, by decide, by decide⟩
  · exact ⟨2147483647, rfl, by decide, by decide⟩
  · exact ⟨2147483587, rfl, by decide, by decide⟩
  · exact ⟨2147483563, rfl, by decide, by decide⟩
  · exact ⟨2147483579, rfl, by decide, by decide⟩
theorem hu64_of {A : Around} {k : Nat} (hr : Room k A) : A.units + 64 < cLine := hr.units
section
variable {P : Program} {w : World} {K : PySem.W.Frag} {mg : Str → Option Value} {base : Heap} {f : Addr} {fd : FuncData}
theorem ok_draw (F : FnP K "_law_draw" sDraw f fd) (T : TxB mg) : FnOk P w K mg base CX0 1 f fd ["_law_pen_here", "_law_many"] spDraw := by
  refine F.ok scDraw (fun vs H Q E h => ?_) (fun cdv A outer s H vs Q E hr h => ?_)
  · obtain ⟨p, c, ns, t, l, m, rfl, _⟩ := h
    rfl
  · obtain ⟨p, c, ns, t, l, m, rfl, D, ht, m0, m1, k⟩ := h
    have hu := hu_of hr
    have hu64 := hu64_of hr
    have nd := scDraw.nd
    refine ⟨_, PSs.nox (pss_cons (ps_if (pt_cmpR op_gt (pe_dget hu (pv 0) pe_str (fun _ _ => rfl)) pe_int (nomark _))
        (pss_cons (ps_set (i := 2) nd rfl (Or.inl rfl) (pe_op op_mod (pe_callTy call_int1 (by rfl) T.int (by decide +kernel) (pa_cons (pe_dget hu (pv 0) pe_str (fun _ _ => rfl)) pa_nil)) (pv 1)))
      (pss_cons (ps_dput hu (pv 0) pe_str (pe_op op_fdiv (pe_dget hu (pv 0) pe_str (fun _ _ => rfl)) (pv 1)) rfl)
      (pss_one (ps_ret (pv 2))))) pss_nil)
      (pss_cons (ps_set (i := 3) nd rfl (Or.inl rfl) (pe_dget hu (pv 0) pe_str (fun _ _ => rfl)))
      (pss_cons (ps_dput hu (pv 0) pe_str (pe_op op_add (pv 3) pe_int) rfl)
      (pss_cons (ps_set (i := 4) nd rfl (Or.inl rfl) (pe_op op_add (pe_op op_mul pe_int (pv 3)) pe_int))
      (pss_cons (ps_if (pt_cmpR (op_neD hu64) (pe_dget hu (pv 0) pe_str (fun _ _ => rfl)) (pe_lst pa_nil) (nomark _))
        (pss_one (ps_set (i := 4) nd rfl (Or.inl rfl) (pe_ix ix_list (pe_dget hu (pv 0) pe_str (fun _ _ => rfl)) (pe_op op_mod (pe_callTy call_int1 (by rfl) T.int (by decide +kernel) (pa_cons (pv 3) pa_nil)) (pe_callB call_len_seq (by rfl) T.len PySem.boot_len (pa_cons (pe_dget hu (pv 0) pe_str (fun _ _ => rfl)) pa_nil))) (fun _ _ => rfl)))) pss_nil)
      (pss_cons (ps_if (PW.pt (pw_and (pt_cmpR op_lt (pv 3) (pe_callB call_len_seq (by rfl) T.len PySem.boot_len (pa_cons (pe_dget hu (pv 0) pe_str (fun _ _ => rfl)) pa_nil)) (nomark _)) (pw_and1 (pt_cmpR op_ge (pe_callB call_abs (by rfl) T.abs (by decide +kernel) (pa_cons (pv 4) pa_nil)) (pe_op op_pow pe_int pe_int) (nomark _)))))
        (pss_cons (ps_dput hu (pv 0) pe_str (pe_op op_fdiv (pe_op op_sub (pe_callB call_abs (by rfl) T.abs (by decide +kernel) (pa_cons (pv 4) pa_nil)) (pe_op op_pow pe_int pe_int)) (pv 1)) rfl)
      (pss_one (ps_ret (pe_op op_mod (pe_op op_sub (pe_callB call_abs (by rfl) T.abs (by decide +kernel) (pa_cons (pv 4) pa_nil)) (pe_op op_pow pe_int pe_int)) (pv 1))))) pss_nil)
      (pss_cons (ps_set (i := 5) nd rfl (Or.inl rfl) (pe_lst (pa_cons pe_int (pa_cons pe_int (pa_cons pe_int (pa_cons pe_int (pa_cons pe_int pa_nil)))))))
      (pss_cons (ps_set (i := 6) nd rfl (Or.inl rfl) (pe_ix ix_list (pv 5) (pe_op op_mod (pe_callTy call_int1 (by rfl) T.int (by decide +kernel) (pa_cons (pv 3) pa_nil)) pe_int) (fun _ _ => rfl)))
      (pss_cons (ps_set (i := 7) nd rfl (Or.inl rfl) (pe_op op_mod (pe_callTy call_int1 (by rfl) T.int (by decide +kernel) (pa_cons (pe_op op_add (pe_op op_add (pe_op op_mul (pe_op op_mod (pe_callTy call_int1 (by rfl) T.int (by decide +kernel) (pa_cons (pv 4) pa_nil)) (pv 6)) pe_int) (pe_op op_mul (pv 3) (pe_op op_add (pe_op op_mul pe_int (pv 3)) pe_int))) pe_int) pa_nil)) (pv 6)))
      (pss_cons (ps_set (i := 7) nd rfl (Or.inl rfl) (pe_op op_mod (pe_callTy call_int1 (by rfl) T.int (by decide +kernel) (pa_cons (pe_op op_mul (pv 7) (pe_op op_add (pv 7) pe_int)) pa_nil)) (pe_ix ix_list (pv 5) (pe_op op_mod (pe_callTy call_int1 (by rfl) T.int (by decide +kernel) (pa_cons (pe_op op_add (pv 3) pe_int) pa_nil)) pe_int) (fun _ _ => rfl))))
      (pss_one (ps_ret (pe_op op_mod (pe_callTy call_int1 (by rfl) T.int (by decide +kernel) (pa_cons (pe_op op_fdiv (pe_op op_mod (pe_callTy call_int1 (by rfl) T.int (by decide +kernel) (pa_cons (pe_op op_add (pe_op op_add (pe_op op_mul (pv 7) (pv 7)) (pe_op op_mul pe_int (pv 7))) (pv 3)) pa_nil)) pe_int) pe_int) pa_nil)) (pv 1)))))))))))))), ?_⟩
    have hpc : c ≠ p := ne_of D.c D.d (by intro z; cases z)
    have reP : ∀ {H' : Hp} {t' l' : Int}, But p H H' → 0 ≤ t' → 0 ≤ l' → H' p = some (.dK (penK c t' l')) → PenAt H' p c ns t' l' := fun b h1 h2 h3 => ⟨h3, b c _ hpc D.c, h1, h2, D.hn⟩
    -- left > 0
    refine ⟨_, rfl, p, .int l, rfl, get_left D.d, _, _, rfl, rfl, _, rfl, ?_⟩
    refine ite2 (fun _ => ?_) (fun _ => ?_)
    · refine ⟨_, rfl, p, .int l, rfl, get_left D.d, .inl ⟨l, rfl, _, rfl, _, _, rfl, rfl, m0, ?_⟩⟩
      refine ⟨_, rfl, p, .int l, rfl, get_left D.d, _, rfl, _, _, rfl, rfl, ⟨m0, m1⟩, _, rfl, p, _, rfl, set_left D.d _, ?_⟩
      refine ⟨_, rfl, ?_⟩
      have b : But p H (upd H p (.dK (penK c t (l / m)))) := (But.refl p H).put
      exact k (l % m) t (l / m) _ (Int.emod_nonneg _ (by omega)) (Int.emod_lt_of_pos _ m0) (by omega) (reP b D.ht (Int.ediv_nonneg D.hl (by omega)) upd_same) b
    · refine ⟨_, rfl, p, .int t, rfl, get_turn D.d, ?_⟩
      refine ⟨_, rfl, _, _, rfl, rfl, _, rfl, p, _, rfl, set_turn D.d _, ?_⟩
      have b1 : But p H (upd H p (.dK (penK c (t + 1) l))) := (But.refl p H).put
      generalize hH1 : upd H p (.dK (penK c (t + 1) l)) = H1 at b1 ⊢
      have d1 : H1 p = some (.dK (penK c (t + 1) l)) := by rw [← hH1]; exact upd_same
      have D1 := reP b1 (by have := D.ht; omega) D.hl d1
      refine ⟨_, rfl, _, _, rfl, rfl, .inl ⟨by decide, by decide⟩, _, _, rfl, rfl, ?_⟩
      refine ⟨_, rfl, p, .ref c, rfl, get_cells d1, (by show 0 ≤ sizeLine; decide), fun q hq => ⟨.list (ns.map .int), .list [], .lst (SqL.of (by rw [upd_ne (ne_of_none D1.c hq)]; exact D1.c)) (dp_ints ns), .lst (SqL.of upd_same) .nil, shaped_ints ns, rfl, _, rfl, ?_⟩⟩
      have b2 : But p H (upd H1 q (.lst [])) := b1.anew hq
      have d2 : (upd H1 q (.lst [])) p = some (.dK (penK c (t + 1) l)) := by rw [upd_ne (ne_of_none d1 hq)]; exact d1
      generalize upd H1 q (.lst []) = H2 at b2 d2 ⊢
      have D2 := reP b2 (by have := D.ht; omega) D.hl d2
      have c2 := D2.c
      have t0 := D.ht
      rw [eqv_nil]
      by_cases hns : ns = []
      all_goals
        first
          | (refine itF (by rw [hns]; rfl) ?_
             dsimp only
             generalize 43 * t + 19 = z)
          | (refine itT (by cases ns with | nil => exact absurd rfl hns | cons _ _ => rfl) ?_
             obtain ⟨z, hz⟩ := cell_at (ns := ns) t0 hns
             refine ⟨_, rfl, p, .ref c, rfl, get_cells d2, _, rfl, .inl ⟨t, rfl, _, rfl, p, .ref c, rfl, get_cells d2, c, ns.map V.int, rfl, .inl (SqL.of c2), _, _, rfl, rfl, len_pos hns, c, ns.map V.int, _, .int z, rfl, rfl, SqL.of c2, hz, ?_⟩⟩)
        refine ⟨_, rfl, _, rfl, p, .ref c, rfl, get_cells d2, c, _, rfl, .inl (SqL.of c2), _, _, rfl, rfl, _, rfl, ?_⟩
        refine ite2 (fun _ => ?_) (fun _ => ?_)
        · refine ⟨_, rfl, _, rfl, _, _, rfl, rfl, ⟨by decide, by decide, by decide⟩, _, _, rfl, rfl, _, rfl, ?_⟩
          refine ite2 (fun hge => ?_) (fun _ => ?_)
          · have hge' := of_decide_eq_true hge
            refine ⟨_, rfl, _, rfl, _, _, rfl, rfl, ⟨by decide, by decide, by decide⟩, _, _, rfl, rfl, _, rfl, _, _, rfl, rfl, ⟨m0, m1⟩, _, rfl, p, _, rfl, set_left d2 _, ?_⟩
            refine ⟨_, rfl, _, rfl, _, _, rfl, rfl, ⟨by decide, by decide, by decide⟩, _, _, rfl, rfl, _, rfl, _, _, rfl, rfl, m0, ?_⟩
            have b3 := b2.put (o := .dK (penK c (t + 1) (((if z < 0 then -z else z) - 10 ^ (18 : Int).toNat) / m)))
            exact k _ (t + 1) _ _ (Int.emod_nonneg _ (by omega)) (Int.emod_lt_of_pos _ m0) (Int.le_refl _) (reP b3 (by omega) (Int.ediv_nonneg (Int.sub_nonneg_of_le hge') (by omega)) upd_same) b3
          · obtain ⟨pr, hpr, p0, p1⟩ := prime_at t0
            obtain ⟨ps, hps, p2, p3⟩ := prime_at (t := t + 2) (by omega)
            refine ⟨(by show 5 ≤ sizeLine; decide), fun q5 h5 => ?_⟩
            have b3 := b2.anew (o := .lst (primes.map V.int)) h5
            have d3 : (upd H2 q5 (.lst (primes.map V.int))) p = some (.dK (penK c (t + 1) l)) := by rw [upd_ne (ne_of_none d2 h5)]; exact d2
            have l5 : SqL K (upd H2 q5 (.lst (primes.map V.int))) q5 (primes.map V.int) := SqL.of upd_same
            refine ⟨_, rfl, _, rfl, .inl ⟨t, rfl, _, _, rfl, rfl, (by show (0 : Int) < 5; decide), q5, _, _, .int pr, rfl, rfl, l5, hpr, ?_⟩⟩
            have e0 := Int.emod_nonneg z (b := pr) (by omega)
            have e1 := Int.emod_lt_of_pos z (b := pr) (by omega)
            refine ⟨_, rfl, .inl ⟨z, rfl, _, rfl, _, _, rfl, rfl, (by show 0 < pr; omega), _, _, rfl, rfl, .inl ⟨by omega, by omega⟩, _, rfl, _, rfl, _, _, rfl, rfl, .inl ⟨by decide, by decide⟩, _, _, rfl, rfl, _, _, rfl, rfl, .inl ⟨by omega, by omega⟩, _, _, rfl, rfl, _, _, rfl, rfl, .inl ⟨_, rfl, _, rfl, _, _, rfl, rfl, (by show 0 < pr; omega), ?_⟩⟩⟩
            dsimp only
            generalize hd : (z % pr * 39373 + t * (30011 * t + 8117) + 23) % pr = d
            have f0 : 0 ≤ d := by rw [← hd]; exact Int.emod_nonneg _ (by omega)
            have f1 : d < pr := by rw [← hd]; exact Int.emod_lt_of_pos _ (by omega)
            refine ⟨_, rfl, _, rfl, _, _, rfl, rfl, _, _, rfl, rfl, .inl ⟨by omega, by omega⟩, .inl ⟨_, rfl, _, rfl, _, rfl, _, _, rfl, rfl, .inl ⟨_, rfl, _, _, rfl, rfl, (by show (0 : Int) < 5; decide), q5, _, _, .int ps, rfl, rfl, l5, hps, _, _, rfl, rfl, (by show 0 < ps; omega), ?_⟩⟩⟩
            dsimp only
            generalize hg : d * (d + 69621) % ps = g
            have g0 : 0 ≤ g := by rw [← hg]; exact Int.emod_nonneg _ (by omega)
            have g1 : g < ps := by rw [← hg]; exact Int.emod_lt_of_pos _ (by omega)
            refine ⟨_, rfl, _, rfl, _, _, rfl, rfl, .inl ⟨by omega, by omega⟩, _, rfl, _, _, rfl, rfl, .inl ⟨by decide, by decide⟩, _, _, rfl, rfl, _, rfl, _, _, rfl, rfl, .inl ⟨_, rfl, _, _, rfl, rfl, (by show (0 : Int) < 2147483549; decide), _, _, rfl, rfl, ⟨by decide, by decide⟩, .inl ⟨_, rfl, _, rfl, _, _, rfl, rfl, m0, ?_⟩⟩⟩
            exact k _ (t + 1) l _ (Int.emod_nonneg _ (by omega)) (Int.emod_lt_of_pos _ m0) (Int.le_refl _) (reP b3 (by omega) D.hl d3) b3
        · refine iteF ?_
          obtain ⟨pr, hpr, p0, p1⟩ := prime_at t0
          obtain ⟨ps, hps, p2, p3⟩ := prime_at (t := t + 2) (by omega)
          refine ⟨(by show 5 ≤ sizeLine; decide), fun q5 h5 => ?_⟩
          have b3 := b2.anew (o := .lst (primes.map V.int)) h5
          have d3 : (upd H2 q5 (.lst (primes.map V.int))) p = some (.dK (penK c (t + 1) l)) := by rw [upd_ne (ne_of_none d2 h5)]; exact d2
          have l5 : SqL K (upd H2 q5 (.lst (primes.map V.int))) q5 (primes.map V.int) := SqL.of upd_same
          refine ⟨_, rfl, _, rfl, .inl ⟨t, rfl, _, _, rfl, rfl, (by show (0 : Int) < 5; decide), q5, _, _, .int pr, rfl, rfl, l5, hpr, ?_⟩⟩
          have e0 := Int.emod_nonneg z (b := pr) (by omega)
          have e1 := Int.emod_lt_of_pos z (b := pr) (by omega)
          refine ⟨_, rfl, .inl ⟨z, rfl, _, rfl, _, _, rfl, rfl, (by show 0 < pr; omega), _, _, rfl, rfl, .inl ⟨by omega, by omega⟩, _, rfl, _, rfl, _, _, rfl, rfl, .inl ⟨by decide, by decide⟩, _, _, rfl, rfl, _, _, rfl, rfl, .inl ⟨by omega, by omega⟩, _, _, rfl, rfl, _, _, rfl, rfl, .inl ⟨_, rfl, _, rfl, _, _, rfl, rfl, (by show 0 < pr; omega), ?_⟩⟩⟩
          dsimp only
          generalize hd : (z % pr * 39373 + t * (30011 * t + 8117) + 23) % pr = d
          have f0 : 0 ≤ d := by rw [← hd]; exact Int.emod_nonneg _ (by omega)
          have f1 : d < pr := by rw [← hd]; exact Int.emod_lt_of_pos _ (by omega)
          refine ⟨_, rfl, _, rfl, _, _, rfl, rfl, _, _, rfl, rfl, .inl ⟨by omega, by omega⟩, .inl ⟨_, rfl, _, rfl, _, rfl, _, _, rfl, rfl, .inl ⟨_, rfl, _, _, rfl, rfl, (by show (0 : Int) < 5; decide), q5, _, _, .int ps, rfl, rfl, l5, hps, _, _, rfl, rfl, (by show 0 < ps; omega), ?_⟩⟩⟩
          dsimp only
          generalize hg : d * (d + 69621) % ps = g
          have g0 : 0 ≤ g := by rw [← hg]; exact Int.emod_nonneg _ (by omega)
          have g1 : g < ps := by rw [← hg]; exact Int.emod_lt_of_pos _ (by omega)
          refine ⟨_, rfl, _, rfl, _, _, rfl, rfl, .inl ⟨by omega, by omega⟩, _, rfl, _, _, rfl, rfl, .inl ⟨by decide, by decide⟩, _, _, rfl, rfl, _, rfl, _, _, rfl, rfl, .inl ⟨_, rfl, _, _, rfl, rfl, (by show (0 : Int) < 2147483549; decide), _, _, rfl, rfl, ⟨by decide, by decide⟩, .inl ⟨_, rfl, _, rfl, _, _, rfl, rfl, m0, ?_⟩⟩⟩
          exact k _ (t + 1) l _ (Int.emod_nonneg _ (by omega)) (Int.emod_lt_of_pos _ m0) (Int.le_refl _) (reP b3 (by omega) D.hl d3) b3
end
end K01
set_option Elab.async false
set_option linter.all false
set_option maxRecDepth 100000
set_option maxHeartbeats 4000000
namespace K01
open K34 PySem PySem.Spec PyProof.Rows L2
theorem cut_ints (ns : List Int) (lo hi : Option Int) : ∃ ms : List Int, cutV (ns.map V.int) lo hi = ms.map V.int ∧ ms.length ≤ ns.length := by
  refine ⟨(ns.drop (HT.sIx (ns.map V.int).length 0 lo)).take (HT.sIx (ns.map V.int).length (ns.map V.int).length hi - HT.sIx (ns.map V.int).length 0 lo), ?_, ?_⟩
  · unfold cutV
    rw [List.map_take, List.map_drop]
  · rw [List.length_take, List.length_drop]
    omega
theorem But.seq {K : PySem.W.Frag} {p o : Addr} {H H' : Hp} {xs : List V} {kvs : List (Key × V)} (b : But p H H') (hp : H p = some (.dK kvs)) (h : SqL K H o xs) : SqL K H' o xs := by
  rcases h with (h | ⟨u, h⟩) | h
  · exact .inl (.inl (b _ _ (ne_of h hp (by intro z; cases z)) h))
  · exact .inl (.inr ⟨u, b _ _ (ne_of h hp (by intro z; cases z)) h⟩)
  · exact .inr h
theorem up {H : Hp} {q b : Addr} {o u : HO} (h : H b = some u) (n : H q = none) : upd H q o b = some u := by rw [upd_ne (ne_of_none h n)]; exact h
def spPen (K : PySem.W.Frag) : Sp := fun vs H Q _ => ∃ (a : Addr) (ns : List Int), vs = [.ref a] ∧ SqL K H a (ns.map V.int) ∧ ns.length ≤ 63 ∧ ∀ (p c : Addr) (ms : List Int) (H' : Hp), PenAt H' p c ms 0 0 → Same H H' → Q (.ref p) H'
theorem scPen : FnScope ["_law_script"] ["_law_script"] (defScope sPen) := ⟨rfl, rfl, rfl, by decide +kernel, rfl, by decide +kernel, by decide +kernel⟩
def spPick (K : PySem.W.Frag) : Sp := fun vs H Q _ => ∃ (p c o : Addr) (ns : List Int) (t l : Int) (xs : List V), vs = [.ref p, .ref o] ∧ PenAt H p c ns t l ∧ t < 1000000000000 ∧ SqL K H o xs ∧ xs ≠ [] ∧ xs.length < 1000000 ∧
  ∀ (x : V) (t' l' : Int) (H' : Hp), x ∈ xs → t' ≤ t + 1 → PenAt H' p c ns t' l' → But p H H' → Q x H'
theorem scPick : FnScope ["_law_pen_here", "_law_options"] ["_law_pen_here", "_law_options"] (defScope sPick) := ⟨rfl, rfl, rfl, by decide +kernel, rfl, by decide +kernel, by decide +kernel⟩
section
variable {P : Program} {w : World} {K : PySem.W.Frag} {mg : Str → Option Value} {base : Heap} {f fD : Addr} {fd fdD : FuncData}
theorem merge_pen (c : Addr) : mergeK [] [((.inr ("cells" : Str) : Key), V.ref c), (.inr ("turn" : Str), .int 0), (.inr ("left" : Str), .int 0)] = penK c 0 0 := by kernel_rfl
theorem ok_pen (F : FnP K "_law_pen" sPen f fd) (T : TxB mg) : FnOk P w K mg base CX0 1 f fd ["_law_script"] (spPen K) := by
  refine F.ok scPen (fun vs H Q E h => ?_) (fun cdv A outer s H vs Q E hr h => ?_)
  · obtain ⟨a, ns, rfl, _⟩ := h
    rfl
  · obtain ⟨a, ns, rfl, hs, hn, k⟩ := h
    have hu := hu_of hr
    have nd := scPen.nd
    refine ⟨_, PSs.nox (pss_one (ps_ret (pe_disp (pps_cons pe_str (pe_callTy call_list_of (by rfl) T.list (by decide +kernel) (pa_cons (pe_slice sl_list (pv 0) po_none (po_some pe_int)) pa_nil)) (pps_cons pe_str pe_int (pps_cons pe_str pe_int pps_nil))) (by rfl) (by rfl) (fun z => by cases z) (by decide)))), ?_⟩
    refine fun p hp => ?_
    have s1 : Same H (upd H p (.dK [])) := same_new (Same.refl H) hp
    have d1 : (upd H p (.dK [])) p = some (.dK []) := upd_same
    generalize upd H p (.dK []) = H1 at s1 d1 ⊢
    refine ⟨_, rfl, _, rfl, a, _, rfl, s1.seq hs, fun q hq => ?_⟩
    obtain ⟨ms, e1, e2⟩ := cut_ints ns none (some 63)
    have s2 : Same H1 (upd H1 q (.lst (cutV (ns.map V.int) none (some 63)))) := same_new (Same.refl H1) hq
    have l2 : (upd H1 q (.lst (cutV (ns.map V.int) none (some 63)))) q = some (.lst (ms.map V.int)) := by rw [e1]; exact upd_same
    generalize upd H1 q (.lst (cutV (ns.map V.int) none (some 63))) = H2 at s2 l2 ⊢
    refine ⟨q, _, rfl, .inl (SqL.of l2), fun c hc => ?_⟩
    have s3 : Same H2 (upd H2 c (.lst (ms.map V.int))) := same_new (Same.refl H2) hc
    have l3 : (upd H2 c (.lst (ms.map V.int))) c = some (.lst (ms.map V.int)) := upd_same
    have d3 := s3 _ _ (s2 _ _ d1)
    have sA : Same H (upd H2 c (.lst (ms.map V.int))) := (s1.trans s2).trans s3
    have hpp := hp
    generalize upd H2 c (.lst (ms.map V.int)) = H3 at s3 l3 d3 sA ⊢
    refine ⟨d3, [((.inr ("cells" : Str) : Key), V.ref c), (.inr ("turn" : Str), .int 0), (.inr ("left" : Str), .int 0)], rfl, (by show 3 ≤ 15; decide), ?_⟩
    refine k p c ms _ ⟨by rw [merge_pen]; exact upd_same, ?_, Int.le_refl _, Int.le_refl _, by omega⟩ (fun b o e => ?_)
    · rw [upd_ne (ne_of l3 d3 (by intro z; cases z))]
      exact l3
    · rw [upd_ne (ne_of_none e hp)]
      exact sA b o e
theorem ok_pick (F : FnP K "_law_pick" sPick f fd) (T : TxB mg) (FD : FnP K "_law_draw" sDraw fD fdD) (gD : mg "_law_draw" = some (.ref fD)) : FnOk P w K mg base CX0 2 f fd ["_law_pen_here", "_law_options"] (spPick K) := by
  have GD : FnOk P w K mg base CX0 1 fD fdD ["_law_pen_here", "_law_many"] spDraw := ok_draw FD T
  have bD : Binds K fdD ["_law_pen_here", "_law_many"] [] := FD.bindsN fun _ _ _ _ _ _ us hl => match us, hl with | [_, _], _ => rfl
  have kD := FD.kp
  refine F.ok scPick (fun vs H Q E h => ?_) (fun cdv A outer s H vs Q E hr h => ?_)
  · obtain ⟨p, c, o, ns, t, l, xs, rfl, _⟩ := h
    rfl
  · obtain ⟨p, c, o, ns, t, l, xs, rfl, D, ht, hs, hx, hl, k⟩ := h
    have hu := hu_of hr
    have nd := scPick.nd
    refine ⟨_, PSs.nox (pss_one (ps_ret (pe_ix ix_list (pv 1) (pe_call GD hr rfl gD kD bD .nil pass0 (pa_cons (pv 0) (pa_cons (pe_callB call_len_seq (by rfl) T.len PySem.boot_len (pa_cons (pv 1) pa_nil)) pa_nil))) (fun _ _ => rfl)))), ?_⟩
    have hpos : 0 < xs.length := List.length_pos_iff.mpr hx
    refine ⟨_, rfl, _, rfl, _, rfl, o, xs, rfl, .inl hs, p, c, ns, t, l, _, rfl, D, ht, by omega, by omega, fun j t' l' H' j0 j1 h1 D' b => ?_⟩
    obtain ⟨n, rfl⟩ : ∃ n : Nat, j = (n : Int) := ⟨j.toNat, by omega⟩
    have hjl : n < xs.length := by omega
    exact ⟨o, xs, (n : Int), xs[n], rfl, rfl, b.seq D.d hs, atI_nat (List.getElem?_eq_getElem hjl), k _ t' l' H' (List.getElem_mem hjl) h1 D' b⟩
end
end K01
set_option Elab.async false
set_option linter.all false
set_option maxRecDepth 100000
set_option maxHeartbeats 4000000
namespace K01
open K34 PySem PySem.Spec PyProof.Rows L2
/-! ### any value: its type, what is asked of it -/
def tyName : PyData → String
  | .none => "NoneType" | .bool _ => "bool" | .int _ => "int" | .str _ => "str" | .list _ => "list" | .tuple _ => "tuple" | .dict _ => "dict"
def isS : PyData → Bool
  | .str _ => true | _ => false
def isB : PyData → Bool
  | .bool _ => true | _ => false
def isI : PyData → Bool
  | .bool _ => true | .int _ => true | _ => false
theorem th_ty {K : PySem.W.Frag} {H : Hp} {v : V} {d : PyData} (t : Th K H v d) : TyX K H v (.type (tyName d)) := by
  cases t with
  | dp h n =>
    cases h with
    | non => exact .base .non
    | bl b => exact .base (.bl b)
    | int i => exact .base (.int i)
    | str x => exact .base (.str x)
    | lst h _ =>
      rcases h with (h | ⟨o, h⟩) | ⟨o, its, n, hk, hc, _⟩
      · exact .base (.lst h)
      · exact .base (.frz h)
      · exact .kList hk hc
    | tup h _ =>
      rcases h with (h | ⟨o, h⟩) | ⟨o, its, n, hk, hc, _⟩
      · exact .base (.tup h)
      · exact .fTuple h
      · exact .kTuple hk hc
  | d0 h => exact .base (.dK h)
  | d1 h => exact .base (.dK h)
theorem kit_str : ∀ d : PyData, kitB (tyName d) "str" = some (isS d)
  | .none => (by decide +kernel : kitB "NoneType" "str" = some false)
  | .bool _ => (by decide +kernel : kitB "bool" "str" = some false)
  | .int _ => (by decide +kernel : kitB "int" "str" = some false)
  | .str _ => (by decide +kernel : kitB "str" "str" = some true)
  | .list _ => (by decide +kernel : kitB "list" "str" = some false)
  | .tuple _ => (by decide +kernel : kitB "tuple" "str" = some false)
  | .dict _ => (by decide +kernel : kitB "dict" "str" = some false)
theorem kit_bool : ∀ d : PyData, kitB (tyName d) "bool" = some (isB d)
  | .none => (by decide +kernel : kitB "NoneType" "bool" = some false)
  | .bool _ => (by decide +kernel : kitB "bool" "bool" = some true)
  | .int _ => (by decide +kernel : kitB "int" "bool" = some false)
  | .str _ => (by decide +kernel : kitB "str" "bool" = some false)
  | .list _ => (by decide +kernel : kitB "list" "bool" = some false)
  | .tuple _ => (by decide +kernel : kitB "tuple" "bool" = some false)
  | .dict _ => (by decide +kernel : kitB "dict" "bool" = some false)
theorem kit_int : ∀ d : PyData, kitB (tyName d) "int" = some (isI d)
  | .none => (by decide +kernel : kitB "NoneType" "int" = some false)
  | .bool _ => (by decide +kernel : kitB "bool" "int" = some true)
  | .int _ => (by decide +kernel : kitB "int" "int" = some true)
  | .str _ => (by decide +kernel : kitB "str" "int" = some false)
  | .list _ => (by decide +kernel : kitB "list" "int" = some false)
  | .tuple _ => (by decide +kernel : kitB "tuple" "int" = some false)
  | .dict _ => (by decide +kernel : kitB "dict" "int" = some false)
theorem th_str {K : PySem.W.Frag} {H : Hp} {v : V} {x : Str} (t : Th K H v (.str x)) : v = .str x := by
  cases t with
  | dp h n => cases h; rfl
theorem th_int {K : PySem.W.Frag} {H : Hp} {v : V} {i : Int} (t : Th K H v (.int i)) : v = .int i := by
  cases t with
  | dp h n => cases h; rfl
theorem th_bool {K : PySem.W.Frag} {H : Hp} {v : V} {b : Bool} (t : Th K H v (.bool b)) : v = .bl b := by
  cases t with
  | dp h n => cases h; rfl
theorem th_none {K : PySem.W.Frag} {H : Hp} {v : V} (t : Th K H v .none) : v = .non := by
  cases t with
  | dp h n => cases h; rfl
/-- a sign from a to z; a word; a number -/
def lowN (c : Nat) : Bool := decide (97 ≤ c) && decide (c ≤ 122)
def wordS (x : Str) : Bool := decide (1 ≤ x.length) && (decide (x.length ≤ 8) && x.cps.toList.all lowN)
def isW : PyData → Bool
  | .str x => wordS x | _ => false
def isN : PyData → Bool
  | .int i => decide (-(10 ^ 30) ≤ i) && decide (i ≤ 10 ^ 30) | _ => false
/-- texts are not long -/
def sOk : PyData → Bool
  | .str x => decide (x.length ≤ 1000) && PyData.strOk x | _ => true
structure TxW (mg : Str → Option Value) : Prop extends TxB mg where
  isi : mg "isinstance" = none
  str : mg "str" = none
  bool : mg "bool" = none
  all : mg "all" = none
  maxN : ∃ t, mg "MAX_NUMBER" = some (.int 1000000000000000000000000000000 t)
  maxL : ∃ t, mg "MAX_LETTERS" = some (.int 8 t)
def spNum (K : PySem.W.Frag) : Sp := fun vs H Q _ => ∃ (v : V) (d : PyData), vs = [v] ∧ Th K H v d ∧ Q (.bl (isN d)) H
def spWord (K : PySem.W.Frag) : Sp := fun vs H Q _ => ∃ (v : V) (d : PyData), vs = [v] ∧ Th K H v d ∧ sOk d = true ∧ ∀ H', Same H H' → Q (.bl (isW d)) H'
theorem scNum : FnScope ["value"] ["value"] (defScope sIsNumber) := ⟨rfl, rfl, rfl, by decide +kernel, rfl, by decide +kernel, by decide +kernel⟩
theorem scWord : FnScope ["value", "letter"] ["value"] (defScope sIsWord) := ⟨rfl, rfl, rfl, by decide +kernel, rfl, by decide +kernel, by decide +kernel⟩
theorem sgn_ge (c : Nat) : (!decide ((⟨#[c]⟩ : Str).cps.toList < ("a" : Str).cps.toList)) = decide (97 ≤ c) := by
  have e : ("a" : Str).cps.toList = [97] := by decide +kernel
  rw [e]
  show (!decide ([c] < [97])) = _
  by_cases h : 97 ≤ c
  · rw [decide_eq_true h, decide_eq_false (by intro z; rcases List.cons_lt_cons_iff.mp z with q | ⟨_, q⟩ <;> first | omega | exact absurd q (by simp))]
    rfl
  · rw [decide_eq_false h, decide_eq_true (List.cons_lt_cons_iff.mpr (.inl (by omega)))]
    rfl
theorem sgn_le (c : Nat) : (!decide (("z" : Str).cps.toList < (⟨#[c]⟩ : Str).cps.toList)) = decide (c ≤ 122) := by
  have e : ("z" : Str).cps.toList = [122] := by decide +kernel
  rw [e]
  show (!decide ([122] < [c])) = _
  by_cases h : c ≤ 122
  · rw [decide_eq_true h, decide_eq_false (by intro z; rcases List.cons_lt_cons_iff.mp z with q | ⟨_, q⟩ <;> first | omega | exact absurd q (by simp))]
    rfl
  · rw [decide_eq_false h, decide_eq_true (List.cons_lt_cons_iff.mpr (.inl (by omega)))]
    rfl
section
variable {P : Program} {w : World} {K : PySem.W.Frag} {mg : Str → Option Value} {base : Heap} {f fW : Addr} {fd fdW : FuncData}
theorem ok_num (F : FnP K "is_number" sIsNumber f fd) (T : TxW mg) : FnOk P w K mg base CX0 1 f fd ["value"] (spNum K) := by
  refine F.ok scNum (fun vs H Q E h => ?_) (fun cdv A outer s H vs Q E hr h => ?_)
  · obtain ⟨v, d, rfl, _⟩ := h
    rfl
  · obtain ⟨v, d, rfl, t, k⟩ := h
    have nd := scNum.nd
    obtain ⟨tN, hmaxN⟩ := T.maxN
    refine ⟨_, PSs.nox (pss_cons (ps_if (PW.pt (pw_or (pt_val (pe_callB call_isi (by rfl) T.isi (by decide +kernel) (pa_cons (pv 0) (pa_cons (pe_bltn (v := .ty "bool") (by rfl) T.bool (by decide +kernel) rfl) pa_nil)))) (pw_or1 (pt_not (pt_val (pe_callB call_isi (by rfl) T.isi (by decide +kernel) (pa_cons (pv 0) (pa_cons (pe_bltn (v := .ty "int") (by rfl) T.int (by decide +kernel) rfl) pa_nil))))))))
        (pss_one (ps_ret pe_bl)) pss_nil)
      (pss_one (ps_ret (pe_chain op_le op_le (pe_un un_neg (pe_glob (v := .int 1000000000000000000000000000000) rfl hmaxN ⟨_, rfl⟩)) (pv 0) (pe_glob (v := .int 1000000000000000000000000000000) rfl hmaxN ⟨_, rfl⟩))))), ?_⟩
    refine ⟨_, rfl, v, .ty "bool", .type (tyName d), _, isB d, rfl, .ty _, th_ty t, kit_ty (kit_bool d), _, rfl, ?_⟩
    cases hb : isB d with
    | true =>
      refine iteT ?_
      refine iteT ?_
      have e : isN d = false := by cases d <;> first | rfl | cases hb
      rw [e] at k
      exact k
    | false =>
      refine iteF ?_
      refine ⟨_, rfl, v, .ty "int", .type (tyName d), _, isI d, rfl, .ty _, th_ty t, kit_ty (kit_int d), _, rfl, ?_⟩
      cases hi : isI d with
      | false =>
        refine iteT ?_
        have e : isN d = false := by cases d <;> first | rfl | cases hi
        rw [e] at k
        exact k
      | true =>
        refine iteF ?_
        obtain ⟨i, rfl⟩ : ∃ i, d = .int i := by cases d <;> first | exact ⟨_, rfl⟩ | exact Bool.noConfusion hb | exact Bool.noConfusion hi
        cases th_int t
        refine ⟨_, rfl, _, rfl, _, _, rfl, rfl, _, rfl, ?_⟩
        refine ite2 (fun h1 => ?_) (fun h1 => ?_)
        · refine ⟨_, _, rfl, rfl, ?_⟩
          have h1 := of_decide_eq_true h1
          have e : isN (.int i) = decide (i ≤ 1000000000000000000000000000000) := by
            show (decide (-(10 ^ 30) ≤ i) && decide (i ≤ 10 ^ 30)) = _
            rw [decide_eq_true (by omega), Bool.true_and]
            rfl
          rw [e] at k
          exact k
        · have h1 := of_decide_eq_false (Bool.eq_false_iff.mpr h1)
          have e : isN (.int i) = false := by
            show (decide (-(10 ^ 30) ≤ i) && decide (i ≤ 10 ^ 30)) = false
            rw [decide_eq_false (by omega), Bool.false_and]
          rw [e] at k
          exact k
theorem ok_word (F : FnP K "is_word" sIsWord f fd) (T : TxW mg) : FnOk P w K mg base CX0 1 f fd ["value"] (spWord K) := by
  refine F.ok scWord (fun vs H Q E h => ?_) (fun cdv A outer s H vs Q E hr h => ?_)
  · obtain ⟨v, d, rfl, _⟩ := h
    rfl
  · obtain ⟨v, d, rfl, t, so, k⟩ := h
    have nd := scWord.nd
    obtain ⟨tL, hmaxL⟩ := T.maxL
    refine ⟨_, PSs.nox (pss_cons (ps_if (PW.pt (pw_or (pt_not (pt_val (pe_callB call_isi (by rfl) T.isi (by decide +kernel) (pa_cons (pv 0) (pa_cons (pe_bltn (v := .ty "str") (by rfl) T.str (by decide +kernel) rfl) pa_nil))))) (pw_or1 (pt_not (pt_chain op_le op_le pe_int (pe_callB call_len_str (by rfl) T.len (by decide +kernel) (pa_cons (pv 0) pa_nil)) (pe_glob (v := .int 8) rfl hmaxL ⟨_, rfl⟩))))))
        (pss_one (ps_ret pe_bl)) pss_nil)
      (pss_one (ps_ret (pe_callB (cr_all rfl) (by rfl) T.all (by decide +kernel) (pa_cons (pe_lc (own := [("letter", 1)]) (g := gName 1) (tt := tYes) rfl nd (pi_str (pv 0)) (blkOk_by (N := ["value", "letter"]) (sc := defScope sIsWord) (by decide +kernel)) (fun _ _ _ _ _ => pg_name (i := 1) nd rfl (Or.inl rfl)) (fun _ _ _ _ _ => pts_nil) (fun _ _ _ _ _ => pe_chain op_le_str op_le_str pe_str (pv 1) pe_str)) pa_nil))))), ?_⟩
    refine ⟨_, rfl, v, .ty "str", .type (tyName d), _, isS d, rfl, .ty _, th_ty t, kit_ty (kit_str d), _, rfl, ?_⟩
    have no : isW d = false → Q (.bl false) H := fun e => by
      have k := k H (Same.refl H)
      rw [e] at k
      exact k
    cases hs : isS d with
    | false =>
      refine iteT ?_
      refine iteT ?_
      exact no (by cases d <;> first | rfl | exact Bool.noConfusion hs)
    | true =>
      refine iteF ?_
      obtain ⟨x, rfl⟩ : ∃ x, d = .str x := by cases d <;> first | exact ⟨_, rfl⟩ | exact Bool.noConfusion hs
      cases th_str t
      have hx : x.length ≤ 1000 := of_decide_eq_true (Bool.and_eq_true_iff.mp so).1
      have hz : x.length ≤ sizeLine := by rw [sizeLine_eq]; omega
      refine ⟨_, rfl, _, rfl, hz, _, _, rfl, rfl, _, rfl, ?_⟩
      refine ite2 (fun h1 => ?_) (fun h1 => ?_)
      · have h1 := of_decide_eq_true h1
        refine ⟨_, _, rfl, rfl, _, rfl, ?_⟩
        refine ite2 (fun h2 => ?_) (fun h2 => ?_)
        · refine no ?_
          have h2 : decide ((x.length : Int) ≤ 8) = false := by simpa using h2
          have h2 := of_decide_eq_false h2
          show wordS x = false
          unfold wordS
          rw [decide_eq_false (show ¬ x.length ≤ 8 by omega), Bool.false_and, Bool.and_false]
        · have h2 : decide ((x.length : Int) ≤ 8) = true := by simpa using h2
          have h2 := of_decide_eq_true h2
          have e : isW (.str x) = x.cps.toList.all lowN := by
            show wordS x = _
            unfold wordS
            rw [decide_eq_true (show 1 ≤ x.length by omega), decide_eq_true (show x.length ≤ 8 by omega), Bool.true_and, Bool.true_and]
          refine ⟨_, rfl, x, rfl, fun D hD => ?_⟩
          refine lc_it (walk_str (z := x)) (fun i H6 => H6 D = some (.lst (((x.cps.toList.take i).map lowN).map V.bl)) ∧ Same H H6) ⟨upd_same, same_new (Same.refl H) hD⟩ (fun _ _ _ _ => True.intro) ?_ ?_
          · rintro i v' H6 H7 hi ⟨h3, h4⟩ ⟨rfl, c, hc, rfl⟩
            refine ⟨rfl, ?_⟩
            unfold tYes
            dsimp only
            refine iteT ?_
            have hDf : H D = none := hD
            have hcl : x.cps.toList[i]? = some c := by
              rw [Array.getElem?_toList]
              exact hc
            have more : ∀ b : Bool, b = lowN c → ∃ acc, H7 D = some (HO.lst acc) ∧ acc.length < sizeLine ∧ (upd H7 D (HO.lst (acc ++ [V.bl b]))) D = some (HO.lst (((x.cps.toList.take (i + 1)).map lowN).map V.bl)) ∧ Same H (upd H7 D (HO.lst (acc ++ [V.bl b]))) := by
              rintro b rfl
              refine ⟨_, h3, ?_, ?_, fun a o e' => ?_⟩
              · rw [List.length_map, List.length_map, List.length_take, sizeLine_eq]
                have : i < x.length := hi
                omega
              · rw [upd_same, List.take_add_one, hcl, List.map_append, List.map_append]
                rfl
              · rw [upd_ne (ne_of_none e' hDf)]
                exact h4 a o e'
            refine ⟨_, rfl, _, _, rfl, rfl, _, rfl, ?_⟩
            have g1 := sgn_ge c
            have g2 := sgn_le c
            rw [g1]
            by_cases q : 97 ≤ c
            · rw [decide_eq_true q]
              refine iteT ?_
              refine ⟨_, _, rfl, rfl, ?_⟩
              refine more _ ?_
              rw [g2]
              unfold lowN
              rw [decide_eq_true q, Bool.true_and]
            · rw [decide_eq_false q]
              refine iteF ?_
              refine more _ ?_
              unfold lowN
              rw [decide_eq_false q, Bool.false_and]
          · rintro H6 ⟨h3, h4⟩
            refine ⟨D, x.cps.toList.map lowN, rfl, ?_, ?_⟩
            · have e2 : x.cps.toList.take x.cps.size = x.cps.toList := by rw [← Array.length_toList, List.take_length]
              rw [e2] at h3
              exact SqL.of h3
            · have k := k H6 h4
              rw [e] at k
              rw [List.all_map]
              exact k
      · have h1 := of_decide_eq_false (Bool.eq_false_iff.mpr h1)
        have no' := no (by
          show wordS x = false
          unfold wordS
          rw [decide_eq_false (show ¬ 1 ≤ x.length by omega), Bool.false_and])
        refine ⟨false, rfl, ?_⟩
        dsimp only
        refine iteT ?_
        exact no'
end
end K01
set_option Elab.async false
set_option linter.all false
set_option maxRecDepth 100000
set_option maxHeartbeats 4000000
namespace K01
open K34 PySem PySem.Spec PyProof.Rows L2
def isNm : PyData → Bool
  | .str x => wordS x && !reserved.contains x | _ => false
structure TxN (K : PySem.W.Frag) (mg : Str → Option Value) : Prop extends TxW mg where
  gR : mg "RESERVED" = some (.ref (He.ga K "RESERVED"))
  tR : ∀ H : Hp, SqT K H (He.ga K "RESERVED") (reserved.map V.str)
def spName (K : PySem.W.Frag) : Sp := fun vs H Q _ => ∃ (v : V) (d : PyData), vs = [v] ∧ Th K H v d ∧ sOk d = true ∧ ∀ H', Same H H' → Q (.bl (isNm d)) H'
def spOf (K : PySem.W.Frag) : Sp := fun vs H Q _ => ∃ (z : Str) (v : V) (d : PyData), vs = [.str z, v] ∧ Th K H v d ∧ sOk d = true ∧ ∀ H', Same H H' → Q (.bl (if z = "word" then isW d else isN d)) H'
theorem scName : FnScope ["value"] ["value"] (defScope sIsName) := ⟨rfl, rfl, rfl, by decide +kernel, rfl, by decide +kernel, by decide +kernel⟩
theorem scLWord : FnScope ["_law_thing", "_law_sign"] ["_law_thing"] (defScope sLIsWord) := ⟨rfl, rfl, rfl, by decide +kernel, rfl, by decide +kernel, by decide +kernel⟩
theorem scOf : FnScope ["_law_sort", "_law_thing"] ["_law_sort", "_law_thing"] (defScope sIsOf) := ⟨rfl, rfl, rfl, by decide +kernel, rfl, by decide +kernel, by decide +kernel⟩
theorem inV_strs (x : Str) : ∀ l : List Str, inV (.str x) (l.map V.str) = l.contains x
  | [] => rfl
  | y :: r => by
    have ih := inV_strs x r
    show ((y == x) || inV (.str x) (r.map V.str)) = _
    rw [ih, List.contains_cons, Bool.beq_comm]
theorem flat_strs : ∀ l : List Str, (l.map V.str).all flatV = true
  | [] => rfl
  | _ :: r => flat_strs r
theorem abc_mem (c : Nat) : decide (c ∈ ("abcdefghijklmnopqrstuvwxyz" : Str).cps.toList) = lowN c := by
  have e : ("abcdefghijklmnopqrstuvwxyz" : Str).cps.toList = List.range' 97 26 := by decide +kernel
  rw [e]
  unfold lowN
  by_cases h : 97 ≤ c ∧ c ≤ 122
  · rw [decide_eq_true h.1, decide_eq_true h.2, decide_eq_true (List.mem_range'_1.mpr ⟨h.1, by omega⟩)]
    rfl
  · rw [decide_eq_false (fun z => h (by have := List.mem_range'_1.mp z; omega))]
    by_cases h1 : 97 ≤ c
    · rw [decide_eq_true h1, decide_eq_false (by omega)]
      rfl
    · rw [decide_eq_false h1]
      rfl
/-- the signs that are not from a to z -/
def odd (l : List Nat) : List Nat := l.filter fun c => !lowN c
def sgn (c : Nat) : V := .str ⟨#[c]⟩
theorem dp_sgn {K : PySem.W.Frag} {H : Hp} : ∀ l : List Nat, DpAll K H (l.map sgn) (l.map fun c => PyData.str ⟨#[c]⟩)
  | [] => .nil
  | c :: r => .cons (.str _) (dp_sgn r)
theorem can_sgn : ∀ l : List Nat, (∀ c ∈ l, c < 0x110000) → PyData.canLayAll0 (l.map fun c => PyData.str ⟨#[c]⟩) = true
  | [], _ => rfl
  | n :: r, h => by
    show (PyData.canLay0 (.str ⟨#[n]⟩) && PyData.canLayAll0 (r.map fun c => PyData.str ⟨#[c]⟩)) = true
    rw [can_sgn r fun c hc => h c (List.mem_cons_of_mem _ hc), Bool.and_true]
    show PyData.strOk ⟨#[n]⟩ = true
    unfold PyData.strOk
    simp [h n List.mem_cons_self]
theorem depth_sgn : ∀ l : List Nat, PyData.depthAll (l.map fun c => PyData.str ⟨#[c]⟩) ≤ 1
  | [] => by decide
  | n :: r => by
    have := depth_sgn r
    show max (PyData.depth (.str ⟨#[n]⟩)) (PyData.depthAll (r.map fun c => PyData.str ⟨#[c]⟩)) ≤ 1
    refine Nat.max_le.mpr ⟨?_, this⟩
    rw [PyData.depth]
    all_goals decide
theorem shaped_sgn (l : List Nat) (h : ∀ c ∈ l, c < 0x110000) : SeqAt.shaped (.list (l.map fun c => PyData.str ⟨#[c]⟩)) = true := by
  have h1 : PyData.canLay0 (.list (l.map fun c => PyData.str ⟨#[c]⟩)) = true := can_sgn l h
  have h2 : (PyData.list (l.map fun c => PyData.str ⟨#[c]⟩)).depth ≤ 64 := by
    have := depth_sgn l
    rw [PyData.depth]
    omega
  show (PyData.canLay0 (.list (l.map fun c => PyData.str ⟨#[c]⟩)) && decide ((PyData.list (l.map fun c => PyData.str ⟨#[c]⟩)).depth ≤ 64)) = true
  rw [h1, decide_eq_true h2]
  rfl
theorem eqv_sgn (l : List Nat) : PyData.eqv (.list (l.map fun c => PyData.str ⟨#[c]⟩)) (.list []) = l.isEmpty := by
  cases l with
  | nil => rfl
  | cons n r => rfl
theorem odd_none (l : List Nat) : (odd l).isEmpty = l.all lowN := by
  induction l with
  | nil => rfl
  | cons c r ih =>
    unfold odd at ih ⊢
    rw [List.filter_cons, List.all_cons]
    cases lowN c with
    | true => simpa using ih
    | false => rfl
section
variable {P : Program} {w : World} {K : PySem.W.Frag} {mg : Str → Option Value} {base : Heap} {f fW : Addr} {fd fdW : FuncData}
theorem ok_name (F : FnP K "is_name" sIsName f fd) (T : TxN K mg) (FW : FnP K "is_word" sIsWord fW fdW) (gW : mg "is_word" = some (.ref fW)) : FnOk P w K mg base CX0 2 f fd ["value"] (spName K) := by
  have GW : FnOk P w K mg base CX0 1 fW fdW ["value"] (spWord K) := ok_word FW T.toTxW
  have bW : Binds K fdW ["value"] [] := FW.bindsN fun _ _ _ _ _ _ us hl => match us, hl with | [_], _ => rfl
  have kW := FW.kp
  have gR := T.gR
  refine F.ok scName (fun vs H Q E h => ?_) (fun cdv A outer s H vs Q E hr h => ?_)
  · obtain ⟨v, d, rfl, _⟩ := h
    rfl
  · obtain ⟨v, d, rfl, t, so, k⟩ := h
    have nd := scName.nd
    refine ⟨_, PSs.nox (pss_one (ps_ret (pe_and (pe_call GW hr rfl gW kW bW .nil pass0 (pa_cons (pv 0) pa_nil)) (pe_one (pe_cmpR op_notIn_seq (pv 0) (pe_glob (v := .ref (He.ga K "RESERVED")) rfl gR rfl) (by rfl)))))), ?_⟩
    refine ⟨_, rfl, v, d, rfl, t, so, fun H' sm => ⟨_, rfl, ?_⟩⟩
    cases hw : isW d with
    | false =>
      have e : isNm d = false := by cases d <;> first | rfl | (show (_ && _) = false; rw [show wordS _ = false from hw]; rfl)
      have k := k H' sm
      rw [e] at k
      refine iteF ?_
      exact k
    | true =>
      obtain ⟨x, rfl⟩ : ∃ x, d = .str x := by cases d <;> first | exact ⟨_, rfl⟩ | exact Bool.noConfusion hw
      cases th_str t
      refine iteT ?_
      refine ⟨_, rfl, _, _, rfl, .inr (T.tR H'), rfl, flat_strs _, ?_⟩
      have e : isNm (.str x) = !inV (.str x) (reserved.map V.str) := by
        rw [inV_strs]
        show (wordS x && !reserved.contains x) = _
        rw [show wordS x = true from hw]
        rfl
      have k := k H' sm
      rw [e] at k
      exact k
theorem ok_lword (F : FnP K "_law_is_word" sLIsWord f fd) (T : TxW mg) : FnOk P w K mg base CX0 1 f fd ["_law_thing"] (spWord K) := by
  refine F.ok scLWord (fun vs H Q E h => ?_) (fun cdv A outer s H vs Q E hr h => ?_)
  · obtain ⟨v, d, rfl, _⟩ := h
    rfl
  · obtain ⟨v, d, rfl, t, so, k⟩ := h
    have nd := scLWord.nd
    have hu64 := hu64_of hr
    refine ⟨_, PSs.nox (pss_cons (ps_if (PW.pt (pw_or (pt_not (pt_val (pe_callB call_isi (by rfl) T.isi (by decide +kernel) (pa_cons (pv 0) (pa_cons (pe_bltn (v := .ty "str") (by rfl) T.str (by decide +kernel) rfl) pa_nil))))) (pw_or1 (pt_not (pt_chain op_le op_le pe_int (pe_callB call_len_str (by rfl) T.len (by decide +kernel) (pa_cons (pv 0) pa_nil)) pe_int)))))
        (pss_one (ps_ret pe_bl)) pss_nil)
      (pss_one (ps_ret (pe_cmpR (op_eqD hu64) (pe_lc (own := [("_law_sign", 1)]) (g := gName 1) rfl nd (pi_str (pv 0)) (blkOk_by (N := ["_law_thing", "_law_sign"]) (sc := defScope sLIsWord) (by decide +kernel)) (fun _ _ _ _ _ => pg_name (i := 1) nd rfl (Or.inl rfl)) (fun _ _ _ _ _ => pts_one (pt_cmpR op_notIn_sign (pv 1) pe_str (by rfl))) (fun _ _ _ _ _ => pv 1)) (pe_lst pa_nil) (nomark _))))), ?_⟩
    refine ⟨_, rfl, v, .ty "str", .type (tyName d), _, isS d, rfl, .ty _, th_ty t, kit_ty (kit_str d), _, rfl, ?_⟩
    have no : isW d = false → Q (.bl false) H := fun e => by
      have k := k H (Same.refl H)
      rw [e] at k
      exact k
    cases hs : isS d with
    | false =>
      refine iteT ?_
      refine iteT ?_
      exact no (by cases d <;> first | rfl | exact Bool.noConfusion hs)
    | true =>
      refine iteF ?_
      obtain ⟨x, rfl⟩ : ∃ x, d = .str x := by cases d <;> first | exact ⟨_, rfl⟩ | exact Bool.noConfusion hs
      cases th_str t
      have hx : x.length ≤ 1000 := of_decide_eq_true (Bool.and_eq_true_iff.mp so).1
      have hok : PyData.strOk x = true := (Bool.and_eq_true_iff.mp so).2
      have hcp : ∀ c ∈ x.cps.toList, c < 0x110000 := fun c hc => by
        unfold PyData.strOk at hok
        have := (Array.all_eq_true_iff_forall_mem.mp hok) c (by simpa using hc)
        simpa using this
      have hz : x.length ≤ sizeLine := by rw [sizeLine_eq]; omega
      refine ⟨_, rfl, _, rfl, hz, _, _, rfl, rfl, _, rfl, ?_⟩
      refine ite2 (fun h1 => ?_) (fun h1 => ?_)
      · have h1 := of_decide_eq_true h1
        refine ⟨_, _, rfl, rfl, _, rfl, ?_⟩
        refine ite2 (fun h2 => ?_) (fun h2 => ?_)
        · refine no ?_
          have h2 : decide ((x.length : Int) ≤ 8) = false := by simpa using h2
          have h2 := of_decide_eq_false h2
          show wordS x = false
          unfold wordS
          rw [decide_eq_false (show ¬ x.length ≤ 8 by omega), Bool.false_and, Bool.and_false]
        · have h2 : decide ((x.length : Int) ≤ 8) = true := by simpa using h2
          have h2 := of_decide_eq_true h2
          have e : isW (.str x) = x.cps.toList.all lowN := by
            show wordS x = _
            unfold wordS
            rw [decide_eq_true (show 1 ≤ x.length by omega), decide_eq_true (show x.length ≤ 8 by omega), Bool.true_and, Bool.true_and]
          refine ⟨_, rfl, x, rfl, fun D hD => ?_⟩
          have hDf : H D = none := hD
          refine lc_it (walk_str (z := x)) (fun i H6 => H6 D = some (.lst ((odd (x.cps.toList.take i)).map sgn)) ∧ Same H H6) ⟨upd_same, same_new (Same.refl H) hD⟩ (fun _ _ _ _ => True.intro) ?_ ?_
          · rintro i v' H6 H7 hi ⟨h3, h4⟩ ⟨rfl, c, hc, rfl⟩
            refine ⟨rfl, ?_⟩
            have hcl : x.cps.toList[i]? = some c := by
              rw [Array.getElem?_toList]
              exact hc
            have tk : x.cps.toList.take (i + 1) = x.cps.toList.take i ++ [c] := by rw [List.take_add_one, hcl]; rfl
            refine ⟨_, rfl, c, _, rfl, rfl, _, rfl, ?_⟩
            rw [abc_mem c]
            cases hl : lowN c with
            | true =>
              refine iteF ?_
              refine ⟨?_, h4⟩
              rw [tk]
              unfold odd
              rw [List.filter_append, List.filter_cons, hl]
              simpa [odd] using h3
            | false =>
              refine iteT ?_
              refine ⟨_, rfl, _, h3, ?_, ?_, fun a o e' => ?_⟩
              · rw [List.length_map, sizeLine_eq]
                have q1 : (odd (x.cps.toList.take i)).length ≤ (x.cps.toList.take i).length := List.length_filter_le _ _
                have q2 : (x.cps.toList.take i).length ≤ i := List.length_take_le _ _
                have : i < x.length := hi
                omega
              · rw [upd_same, tk]
                unfold odd
                rw [List.filter_append, List.filter_cons, hl]
                simp [sgn]
              · rw [upd_ne (ne_of_none e' hDf)]
                exact h4 a o e'
          · rintro H6 ⟨h3, h4⟩
            have e2 : x.cps.toList.take x.cps.size = x.cps.toList := by rw [← Array.length_toList, List.take_length]
            rw [e2] at h3
            refine ⟨(by show 0 ≤ sizeLine; decide), fun q hq => ⟨.list ((odd x.cps.toList).map fun c => PyData.str ⟨#[c]⟩), .list [], .lst (SqL.of (up h3 hq)) (dp_sgn _), .lst (SqL.of upd_same) .nil, shaped_sgn _ (fun c hc => hcp c ((List.mem_filter.mp hc).1)), rfl, ?_⟩⟩
            rw [eqv_sgn, odd_none, ← e]
            exact k _ (same_new h4 hq)
      · have h1 := of_decide_eq_false (Bool.eq_false_iff.mpr h1)
        have no' := no (by
          show wordS x = false
          unfold wordS
          rw [decide_eq_false (show ¬ 1 ≤ x.length by omega), Bool.false_and])
        refine ⟨false, rfl, ?_⟩
        dsimp only
        refine iteT ?_
        exact no'
theorem ok_of (F : FnP K "_law_is_of" sIsOf f fd) (T : TxW mg) (FW : FnP K "_law_is_word" sLIsWord fW fdW) (gW : mg "_law_is_word" = some (.ref fW)) : FnOk P w K mg base CX0 2 f fd ["_law_sort", "_law_thing"] (spOf K) := by
  have GW : FnOk P w K mg base CX0 1 fW fdW ["_law_thing"] (spWord K) := ok_lword FW T
  have bW : Binds K fdW ["_law_thing"] [] := FW.bindsN fun _ _ _ _ _ _ us hl => match us, hl with | [_], _ => rfl
  have kW := FW.kp
  refine F.ok scOf (fun vs H Q E h => ?_) (fun cdv A outer s H vs Q E hr h => ?_)
  · obtain ⟨z, v, d, rfl, _⟩ := h
    rfl
  · obtain ⟨z, v, d, rfl, t, so, k⟩ := h
    have nd := scOf.nd
    refine ⟨_, PSs.nox (pss_cons (ps_if (pt_cmpR op_eq (pv 0) pe_str (nomark _)) (pss_one (ps_ret (pe_call GW hr rfl gW kW bW .nil pass0 (pa_cons (pv 1) pa_nil)))) pss_nil)
      (pss_one (ps_ret (pe_and (pe_callB call_isi (by rfl) T.isi (by decide +kernel) (pa_cons (pv 1) (pa_cons (pe_bltn (v := .ty "int") (by rfl) T.int (by decide +kernel) rfl) pa_nil))) (pe_and (pe_not (pe_callB call_isi (by rfl) T.isi (by decide +kernel) (pa_cons (pv 1) (pa_cons (pe_bltn (v := .ty "bool") (by rfl) T.bool (by decide +kernel) rfl) pa_nil)))) (pe_one (pe_cmpR op_le (pe_callB call_abs (by rfl) T.abs (by decide +kernel) (pa_cons (pv 1) pa_nil)) (pe_op op_pow pe_int pe_int) (nomark _)))))))), ?_⟩
    refine ⟨_, rfl, rfl, _, rfl, ?_⟩
    refine ite2 (fun h1 => ?_) (fun h1 => ?_)
    · have h1 : V.str z = V.str "word" := of_decide_eq_true h1
      have hz : z = "word" := V.str.inj h1
      refine ⟨_, rfl, v, d, rfl, t, so, fun H' sm => ?_⟩
      have k := k H' sm
      rw [if_pos hz] at k
      exact k
    · have hz : z ≠ "word" := fun e => h1 (decide_eq_true (congrArg V.str e))
      have k := k H (Same.refl H)
      rw [if_neg hz] at k
      refine ⟨_, rfl, v, .ty "int", .type (tyName d), _, isI d, rfl, .ty _, th_ty t, kit_ty (kit_int d), _, rfl, ?_⟩
      cases hi : isI d with
      | false =>
        refine iteF ?_
        have e : isN d = false := by cases d <;> first | rfl | exact Bool.noConfusion hi
        rw [e] at k
        exact k
      | true =>
        refine iteT ?_
        refine ⟨_, rfl, v, .ty "bool", .type (tyName d), _, isB d, rfl, .ty _, th_ty t, kit_ty (kit_bool d), _, rfl, _, rfl, ?_⟩
        cases hb : isB d with
        | true =>
          refine iteF ?_
          have e : isN d = false := by cases d <;> first | rfl | exact Bool.noConfusion hb
          rw [e] at k
          exact k
        | false =>
          refine iteT ?_
          obtain ⟨i, rfl⟩ : ∃ i, d = .int i := by cases d <;> first | exact ⟨_, rfl⟩ | exact Bool.noConfusion hb | exact Bool.noConfusion hi
          cases th_int t
          refine ⟨_, rfl, _, rfl, _, _, rfl, rfl, ⟨by decide, by decide, by decide⟩, _, _, rfl, rfl, ?_⟩
          have e : isN (.int i) = decide ((if i < 0 then -i else i) ≤ 10 ^ (30 : Int).toNat) := by
            show (decide (-(10 ^ 30) ≤ i) && decide (i ≤ 10 ^ 30)) = _
            have e30 : (10 : Int) ^ (30 : Int).toNat = 1000000000000000000000000000000 := by decide +kernel
            rw [e30]
            by_cases h : i < 0
            · rw [if_pos h]
              by_cases h2 : -i ≤ 1000000000000000000000000000000
              · rw [decide_eq_true h2, decide_eq_true (by omega), decide_eq_true (by omega)]
                rfl
              · rw [decide_eq_false h2, decide_eq_false (by omega), Bool.false_and]
            · rw [if_neg h]
              by_cases h2 : i ≤ 1000000000000000000000000000000
              · rw [decide_eq_true h2, decide_eq_true (by omega), decide_eq_true (by omega)]
                rfl
              · rw [decide_eq_false h2, decide_eq_false (show ¬ i ≤ 10 ^ 30 by omega), Bool.and_false]
          rw [e] at k
          exact k
end
end K01
set_option Elab.async false
set_option linter.all false
set_option maxRecDepth 100000
set_option maxHeartbeats 4000000
/-! a text and a dict: unequal; any value in a tuple of texts -/
namespace K01S
open PySem PySem.SeqAt PySem.Builtin
open AutoSeq1 (wpAny_loadPart')
open MeetsSeq
theorem str_declines_dict (b : Str) (u : Tok) (l : Addr) (o : Obj) (es : Array DictEntry) (n : Nat) (hd : o.data = .dict es n) :
    Meets (Builtin.«str.__eq__» ⟨[.str b u, .ref l], []⟩) (fun _ R s => s.heap.get? l = some o ∧ R (.ok (.ret .notImplemented)) s) :=
  .of_wp fun prog w A R s h => by
    obtain ⟨hp, g, d, tk, os⟩ := s
    obtain ⟨hl, h⟩ := h
    obtain ⟨oc, od, dt, sl⟩ := o
    simp only at hd
    subst hd
    wp_walk using wpAny_loadPart' hl, wpAny_load hl
    exact ⟨_, rfl, h⟩
theorem dict_declines_str (b : Str) (u : Tok) (l : Addr) (o : Obj) (es : Array DictEntry) (n : Nat) (hc : o.cls = .type "dict") (hd : o.data = .dict es n) :
    Meets (Builtin.«dict.__eq__» ⟨[.ref l, .str b u], []⟩) (fun _ R s => s.heap.get? l = some o ∧ R (.ok (.ret .notImplemented)) s) :=
  .of_wp fun prog w A R s h => by
    obtain ⟨hp, g, d, tk, os⟩ := s
    obtain ⟨hl, h⟩ := h
    obtain ⟨oc, od, dt, sl⟩ := o
    simp only at hd hc
    subst hd hc
    have f1 : isSubtype (.type "str") (.type "dict") = pure false := by rw [isSubtype_type]; kernel_rfl
    unfold Builtin.«dict.__eq__»
    wp_walk using wpAny_loadPart' hl, wpAny_load hl
    exact ⟨_, rfl, h⟩
section
variable {A : Around} {s : Shared}
theorem rc_str_dict {l : Addr} {o : Obj} {es : Array DictEntry} {n : Nat} (b : Str) (u : Tok) (ho : s.heap.get? l = some o) (hc : o.cls = .type "dict") (hd : o.data = .dict es n) (hu : A.units < cLine) : RcAt A s (.str b u) (.ref l) false := fun prog w E Q h =>
  rc_eq_decline_or (k := false) (typeIs_str s b u) ⟨_, ho, hc⟩ (by decide) F.sub_dict_str F.slot_str_eq F.slot_dict_eq_refl
    (fun _ hq => call_meets F.slot_str_eq (typeIs_str s b u) F.entry_str_eq (F.args_str_eq_2 _ _) (str_declines_dict b u l o es n hd) ⟨ho, hq⟩)
    (fun _ hq => call_meets F.slot_dict_eq_refl ⟨_, ho, hc⟩ F.entry_dict_eq (F.args_dict_eq_2 _ _) (dict_declines_str b u l o es n hc hd) ⟨ho, hq⟩)
    (fun _ hq => wpAny_of_eq (rfl : isSame (.str b u) (.ref l) = pure false) hq) (.inr hu) h
theorem eq_str_dict {l : Addr} {o : Obj} {es : Array DictEntry} {n : Nat} (b : Str) (u : Tok) (ho : s.heap.get? l = some o) (hc : o.cls = .type "dict") (hd : o.data = .dict es n) (hu : A.units < cLine) : EqAt A s (.str b u) (.ref l) false := fun prog w E Q h => by
  unfold eqBool
  refine wpAny_holding ?_
  refine wpAny_ite_split (fun hab => absurd (eq_of_beq hab) nofun) (fun _ => ?_)
  exact wpAny_bind (rc_str_dict b u ho hc hd hu prog w E _ (wpAny_truthy_bool h))
end
end K01S
namespace K01
open K34 PySem PySem.Spec PyProof.Rows L2
def isIn (d : PyData) (ss : List Str) : Bool := match d with
  | .str x => ss.contains x | _ => false
def eqS (d : PyData) (u : Value) : Bool := match u with
  | .str z _ => (match d with
    | .str x => z == x | _ => false)
  | _ => false
section
variable {X : Cx} {pins : List (Addr × Obj)} {σ : L2.St} {H : Hp} {s : Shared}
theorem th_eqAt {v : V} {u : Value} {d : PyData} (I : Inv X pins σ H s) (t : Th X.K H v d) (r : RelV v u) (A : Around) (hu : A.units < cLine) (z : Str) (k : Tok) : SeqAt.EqAt A s (.str z k) u (eqS d (.str z k)) := by
  have kd : ∀ {a : Addr} {kvs : List (Key × V)}, H a = some (.dK kvs) → SeqAt.EqAt A s (.str z k) (.ref a) false := fun {a kvs} h => by
    obtain ⟨_, hn, vs, rel, o, es, ep, ho, hx, hd, he⟩ := dk_of I.hok h
    exact K01S.eq_str_dict z k ho hx.1 hd hu
  cases t with
  | dp h n =>
    cases h with
    | non => cases (show u = Value.none from r); exact SeqAt.EqAt.str_none z k
    | bl b => cases (show u = Value.bool b from r); exact SeqAt.EqAt.str_bool z k b
    | int i => obtain ⟨t, q⟩ := (show ∃ t, u = Value.int i t from r); cases q; exact SeqAt.EqAt.str_int z k i t
    | str y => obtain ⟨t, q⟩ := (show ∃ t, u = Value.str y t from r); cases q; exact SeqAt.EqAt.str_str z k y t
    | @lst a xs ds h _ =>
      cases (show u = Value.ref a from r)
      obtain ⟨its, rv, pl, hz⟩ := I.list h
      exact SeqAt.EqAt.str_list z k pl.isList hu
    | @tup a xs ds h _ =>
      cases (show u = Value.ref a from r)
      obtain ⟨its, rv, pl, hz⟩ := I.tuple h
      exact SeqAt.EqAt.str_tuple z k pl hu
  | @d0 a h => cases (show u = Value.ref a from r); exact kd h
  | @d1 a h => cases (show u = Value.ref a from r); exact kd h
theorem any_eqS (d : PyData) : ∀ {ss : List Str} {us : List Value}, Vals (ss.map V.str) us → us.any (eqS d) = isIn d ss
  | [], _, r => by
    cases r
    cases d <;> rfl
  | z :: ss, _, r => by
    cases r with
    | cons r1 r2 =>
      obtain ⟨t, e⟩ := (show ∃ t, _ = Value.str z t from r1)
      subst e
      rw [List.any_cons, any_eqS d r2]
      cases d <;> first | rfl | (show (_ == _ || List.contains _ _) = List.contains _ _; rw [List.contains_cons, Bool.beq_comm])
theorem all_str : ∀ {ss : List Str} {us : List Value}, Vals (ss.map V.str) us → ∀ w ∈ us, ∃ z t, w = Value.str z t
  | [], _, r => by
    cases r
    intro w hw
    cases hw
  | z :: ss, _, r => by
    cases r with
    | cons r1 r2 =>
      obtain ⟨t, e⟩ := (show ∃ t, _ = Value.str z t from r1)
      intro w hw
      rcases List.mem_cons.mp hw with rfl | hw
      · exact ⟨z, t, e⟩
      · exact all_str r2 w hw
/-- x not in a tuple of texts, x any value -/
def rNotInS (K : PySem.W.Frag) : R2 := fun x y H Q => ∃ (p : Addr) (ss : List Str) (d : PyData), y = .ref p ∧ SqT K H p (ss.map V.str) ∧ Th K H x d ∧ Q (.bl (!isIn d ss)) H
theorem op_notInS (hu : X.A.in1.units < cLine) : OpR X (compareOp .NotIn) (rNotInS X.K) := by
  intro pins s σ H x y v u Q I rx ry h
  obtain ⟨p, ss, d, rfl, hq, t, q⟩ := h
  cases ry
  obtain ⟨its, r, pl, hz⟩ := I.tuple hq
  refine SeqAt.notIn_tupleAt (eqS d) pl (fun w hw => ?_) ⟨.bl _, H, I, rfl, ?_⟩
  · obtain ⟨z, k, rfl⟩ := all_str r w (by simpa using hw)
    exact th_eqAt I t rx _ hu z k
  · rw [show its.toArray.any (eqS d) = its.any (eqS d) by simp, any_eqS d r]
    exact q
end
end K01
set_option Elab.async false
set_option linter.all false
set_option maxRecDepth 100000
set_option maxHeartbeats 4000000
namespace K01
open K34 PySem PySem.Spec PyProof.Rows L2
theorem oex_of {K : PySem.W.Frag} {C : Addr} (T : EC K C .ve) : OexC K C := by
  obtain ⟨nm, q, N, bs, sn, sub, ab, col, dd, k0, k1, k2, k3, k5, hC⟩ := T.cls
  exact ⟨⟨nm, q, N, bs, _, sn, sub, ab, col, dd, k0, k1, k2, k3, k5, hC, by decide +kernel⟩, T.sa, T.at_.hs, T.ty, T.kC⟩
def sp1 (C : Addr) (f : Str) : Sp := fun vs H Q _ => ∃ (a : Addr) (v : V), vs = [.ref a, v] ∧ H a = some (exo a C none) ∧ ∀ dx, H dx = none → dx ≠ a → Q .non (upd (upd H dx (exd dx [(f, v)])) a (exo a C (some dx)))
theorem scEN : FnScope ["self", "value"] ["self", "value"] (defScope sEN) := ⟨rfl, rfl, rfl, by decide +kernel, rfl, by decide +kernel, by decide +kernel⟩
theorem scEK : FnScope ["self", "value"] ["self", "value"] (defScope sEK) := ⟨rfl, rfl, rfl, by decide +kernel, rfl, by decide +kernel, by decide +kernel⟩
theorem scInit : FnScope ["self", "name", "kind", "is_required"] ["self", "name", "kind", "is_required"] (defScope sInit) := ⟨rfl, rfl, rfl, by decide +kernel, rfl, by decide +kernel, by decide +kernel⟩
structure ColT (K : PySem.W.Frag) (mg : Str → Option Value) : Prop extends TxN K mg where
  g : mg "Column" = some (.ref (He.ga K "Column"))
  cl : Cls K (He.ga K "Column")
  nN : NoAttr K (He.ga K "Column") "_name"
  nK : NoAttr K (He.ga K "Column") "_kind"
  nR : NoAttr K (He.ga K "Column") "_is_required"
  gK : mg "KINDS" = some (.ref (He.ga K "KINDS"))
  tK : ∀ H : Hp, SqT K H (He.ga K "KINDS") (kinds.map V.str)
/-- the fields of a column -/
def colF (n k : V) (b : Bool) : List (Str × V) := [("_name", n), ("_kind", k), ("_is_required", .bl b)]
/-- what a raise leaves: the error's dict at d, all else as it was -/
def Rz (C : Addr) (v : V) (H : Hp) (E : XK) : Prop := ∀ d H', H d = none → Same H H' → H' d = some (.xd [(("value" : Str), v)]) → E (.ref C) (some d) H'
def spInit (K : PySem.W.Frag) : Sp := fun vs H Q E => ∃ (a dx : Addr) (n k : V) (dn dk : PyData) (b : Bool), vs = [.ref a, n, k, .bl b] ∧ H a = some (.ins (He.ga K "Column") dx []) ∧ Th K H n dn ∧ sOk dn = true ∧ Th K H k dk ∧
  (isNm dn = false → Rz (He.ga K "InvalidName") n H E) ∧ (isNm dn = true → isIn dk kinds = false → Rz (He.ga K "InvalidKind") k H E) ∧
  (isNm dn = true → isIn dk kinds = true → ∀ H', But a H H' → H' a = some (.ins (He.ga K "Column") dx (colF n k b)) → Q .non H')
section
variable {P : Program} {w : World} {K : PySem.W.Frag} {mg : Str → Option Value} {base : Heap} {f fW fN eN eK : Addr} {fd fdW fdN fdEN fdEK : FuncData}
theorem ok_eN {C : Addr} (F : FunD K "__init__" "InvalidName.__init__" (defArgs sEN) (defBody sEN) (defScope sEN) [] [] f fd) (T : EC K C .ve) (no : PySem.W.findIn K (.ref C) "value" = some none) :
    FnOk P w K mg base CX0 1 f fd ["self", "value"] (sp1 C "value") ∧ Binds K fd ["self", "value"] [] := by
  refine ⟨F.ok scEN (fun vs H Q E h => ?_) (fun cdv A outer s H vs Q E hr h => ⟨_, PSs.nox (pss_one (ps_st (k := .ve) (pv 0) (pv 1))), ?_⟩), F.bindsN fun _ _ _ _ _ _ us hl => match us, hl with | [_, _], _ => rfl⟩
  · obtain ⟨a, v, rfl, _⟩ := h
    rfl
  · obtain ⟨a, v, rfl, ha, q⟩ := h
    exact ⟨_, rfl, _, rfl, a, C, rfl, T, no, .inl ⟨ha, fun dx n ne => q dx n ne⟩⟩
theorem ok_eK {C : Addr} (F : FunD K "__init__" "InvalidKind.__init__" (defArgs sEK) (defBody sEK) (defScope sEK) [] [] f fd) (T : EC K C .ve) (no : PySem.W.findIn K (.ref C) "value" = some none) :
    FnOk P w K mg base CX0 1 f fd ["self", "value"] (sp1 C "value") ∧ Binds K fd ["self", "value"] [] := by
  refine ⟨F.ok scEK (fun vs H Q E h => ?_) (fun cdv A outer s H vs Q E hr h => ⟨_, PSs.nox (pss_one (ps_st (k := .ve) (pv 0) (pv 1))), ?_⟩), F.bindsN fun _ _ _ _ _ _ us hl => match us, hl with | [_, _], _ => rfl⟩
  · obtain ⟨a, v, rfl, _⟩ := h
    rfl
  · obtain ⟨a, v, rfl, ha, q⟩ := h
    exact ⟨_, rfl, _, rfl, a, C, rfl, T, no, .inl ⟨ha, fun dx n ne => q dx n ne⟩⟩
theorem rz_end {C a : Addr} {v : V} {H : Hp} {E : XK} (h : Rz C v H E) (ha : H a = none) : sp1 C "value" (.ref a :: ([v] ++ [])) (upd H a (exo a C none))
    (fun x H2 => x = .non ∧ ∃ (d : Addr) (fs : List (Str × V)), H2 a = some (exo a C (some d)) ∧ H2 d = some (exd d fs) ∧ H d = none ∧ E (.ref C) (some d) (upd (del H2 a) d (.xd fs))) (fun _ _ _ => False) := by
  refine ⟨a, v, rfl, upd_same, fun d hd ne => ⟨rfl, d, [("value", v)], upd_same, ?_, ?_, ?_⟩⟩
  · rw [upd_ne ne, upd_same]
  · rw [upd_ne ne] at hd
    exact hd
  · have hd0 : H d = none := by
      rw [upd_ne ne] at hd
      exact hd
    refine h d _ hd0 (fun b o e => ?_) upd_same
    have n1 : b ≠ a := ne_of_none e ha
    have n2 : b ≠ d := ne_of_none e hd0
    rw [upd_ne n2, del_ne n1, upd_ne n1, upd_ne n2, upd_ne n1]
    exact e
theorem ok_init (F : FunD K "__init__" "Column.__init__" (defArgs sInit) (defBody sInit) (defScope sInit) [] [(("is_required" : Str), V.bl false)] f fd) (T : ColT K mg) (FN : FnP K "is_name" sIsName fN fdN) (gN : mg "is_name" = some (.ref fN)) (FW : FnP K "is_word" sIsWord fW fdW) (gW : mg "is_word" = some (.ref fW))
    (MN : EM P w K mg base "InvalidName" (He.ga K "InvalidName") .ve eN fdEN ["self", "value"] (sp1 (He.ga K "InvalidName") "value")) (bN' : Binds K fdEN ["self", "value"] [])
    (MK : EM P w K mg base "InvalidKind" (He.ga K "InvalidKind") .ve eK fdEK ["self", "value"] (sp1 (He.ga K "InvalidKind") "value")) (bK : Binds K fdEK ["self", "value"] []) :
    FnOk P w K mg base (L2.CX P w) 3 f fd ["self", "name", "kind", "is_required"] (spInit K) := by
  have GN : FnOk P w K mg base CX0 2 fN fdN ["value"] (spName K) := ok_name FN T.toTxN FW gW
  have bN : Binds K fdN ["value"] [] := FN.bindsN fun _ _ _ _ _ _ us hl => match us, hl with | [_], _ => rfl
  have kN := FN.kp
  refine F.ok scInit (fun vs H Q E h => ?_) (fun cdv A outer s H vs Q E hr h => ?_)
  · obtain ⟨a, dx, n, k, dn, dk, b, rfl, _⟩ := h
    rfl
  · obtain ⟨a, dx, n, k, dn, dk, b, rfl, ha, tn, sn, tk, e1, e2, q⟩ := h
    have nd := scInit.nd
    have hr2 : Room 2 (A.deeper (envOfC "Column.__init__" (defScope sInit) s.heap.objs.size f cdv)) := hr.mono (by decide)
    have hu := hr.in1.units0
    refine ⟨_, (pss_cons (ps_if (pt_not (pt_val (pe_call GN hr rfl gN kN bN .nil pass0 (pa_cons (pv 1) pa_nil)))) (pss_one (ps_raise rfl (takes_of rfl rfl rfl rfl) (pmk_oex (oex_of MN.c) MN.init MN.ty MN.ok hr2 bN' .nil pass0 rfl MN.g (pa_cons (pv 1) pa_nil)))) pss_nil)
      (pss_cons (ps_if (pt_cmpR (op_notInS hu) (pv 2) (pe_glob (v := .ref (He.ga K "KINDS")) rfl T.gK rfl) (by rfl)) (pss_one (ps_raise rfl (takes_of rfl rfl rfl rfl) (pmk_oex (oex_of MK.c) MK.init MK.ty MK.ok hr2 bK .nil pass0 rfl MK.g (pa_cons (pv 2) pa_nil)))) pss_nil)
      (pss_cons (ps_fld (pv 0) (pv 1) rfl) (pss_cons (ps_fld (pv 0) (pv 2) rfl) (pss_one (ps_fld (pv 0) (pv 3) rfl)))))), ?_⟩
    refine ⟨_, rfl, n, dn, rfl, tn, sn, fun H1 s1 => ⟨_, rfl, ?_⟩⟩
    have ap : ∀ {H' : Hp}, Same H H' → H' a = some (.ins (He.ga K "Column") dx []) := fun s => s _ _ ha
    have rzS : ∀ {C : Addr} {v : V} {H' : Hp}, Rz C v H E → Same H H' → Rz C v H' E := fun {C v H'} r sm d H2 hd s2 h2 => r d H2 (by
      cases e : H d with
      | none => rfl
      | some o => rw [sm _ _ e] at hd; cases hd) (sm.trans s2) h2
    cases hn : isNm dn with
    | false =>
      refine iteT ?_
      exact ⟨_, rfl, by show 1 ≤ 1000; decide, fun a' ha' => rz_end (rzS (e1 hn) s1) ha'⟩
    | true =>
      refine iteF ?_
      refine ⟨_, rfl, _, kinds, dk, rfl, T.tK _, tk.same s1, _, rfl, ?_⟩
      cases hk : isIn dk kinds with
      | false =>
        refine iteT ?_
        exact ⟨_, rfl, by show 1 ≤ 1000; decide, fun a' ha' => rz_end (rzS (e2 hn hk) s1) ha'⟩
      | true =>
        refine iteF ?_
        refine ⟨_, rfl, _, rfl, a, _, dx, [], rfl, ap s1, T.cl, T.nN, (by decide), ?_⟩
        refine ⟨_, rfl, _, rfl, a, _, dx, _, rfl, upd_same, T.cl, T.nK, (by show 1 < 1000; decide), ?_⟩
        refine ⟨_, rfl, _, rfl, a, _, dx, _, rfl, upd_same, T.cl, T.nR, (by show 2 < 1000; decide), ?_⟩
        refine q hn hk _ (fun b' o nb e => ?_) ?_
        · rw [upd_ne nb, upd_ne nb, upd_ne nb]
          exact s1 _ _ e
        · rw [upd_same]
          rfl
/-! ### its attributes, what it is asked -/
def ColAt (K : PySem.W.Frag) (H : Hp) (a : Addr) (n k : Str) (b : Bool) : Prop := ∃ dx, H a = some (.ins (He.ga K "Column") dx (colF (.str n) (.str k) b))
theorem ColAt.same {H H' : Hp} {a : Addr} {n k : Str} {b : Bool} (c : ColAt K H a n k b) (s : Same H H') : ColAt K H' a n k b := by
  obtain ⟨dx, h⟩ := c
  exact ⟨dx, s _ _ h⟩
def spGet (K : PySem.W.Frag) (g : Str → Str → Bool → V) : Sp := fun vs H Q _ => ∃ (a : Addr) (n k : Str) (b : Bool), vs = [.ref a] ∧ ColAt K H a n k b ∧ Q (g n k b) H
theorem scGetN : FnScope ["self"] ["self"] (defScope sGetN) := ⟨rfl, rfl, rfl, by decide +kernel, rfl, by decide +kernel, by decide +kernel⟩
theorem scGetK : FnScope ["self"] ["self"] (defScope sGetK) := ⟨rfl, rfl, rfl, by decide +kernel, rfl, by decide +kernel, by decide +kernel⟩
theorem scGetR : FnScope ["self"] ["self"] (defScope sGetR) := ⟨rfl, rfl, rfl, by decide +kernel, rfl, by decide +kernel, by decide +kernel⟩
theorem scIsVal : FnScope ["self", "value"] ["self", "value"] (defScope sIsVal) := ⟨rfl, rfl, rfl, by decide +kernel, rfl, by decide +kernel, by decide +kernel⟩
theorem scEq : FnScope ["self", "other"] ["self", "other"] (defScope sEq) := ⟨rfl, rfl, rfl, by decide +kernel, rfl, by decide +kernel, by decide +kernel⟩
theorem ok_getN (F : FunD K "name" "Column.name" (defArgs sGetN) (defBody sGetN) (defScope sGetN) [] [] f fd) (T : ColT K mg) : FnOk P w K mg base CX0 1 f fd ["self"] (spGet K fun n _ _ => .str n) := by
  refine F.ok scGetN (fun vs H Q E h => ?_) (fun cdv A outer s H vs Q E hr h => ⟨_, PSs.nox (pss_one (ps_ret (pe_fld (pv 0) rfl))), ?_⟩)
  · obtain ⟨a, n, k, b, rfl, _⟩ := h
    rfl
  · obtain ⟨a, n, k, b, rfl, ⟨dx, ha⟩, q⟩ := h
    exact ⟨_, rfl, a, _, dx, _, _, rfl, ha, T.cl, T.nN, rfl, q⟩
theorem ok_getK (F : FunD K "kind" "Column.kind" (defArgs sGetK) (defBody sGetK) (defScope sGetK) [] [] f fd) (T : ColT K mg) : FnOk P w K mg base CX0 1 f fd ["self"] (spGet K fun _ k _ => .str k) := by
  refine F.ok scGetK (fun vs H Q E h => ?_) (fun cdv A outer s H vs Q E hr h => ⟨_, PSs.nox (pss_one (ps_ret (pe_fld (pv 0) rfl))), ?_⟩)
  · obtain ⟨a, n, k, b, rfl, _⟩ := h
    rfl
  · obtain ⟨a, n, k, b, rfl, ⟨dx, ha⟩, q⟩ := h
    exact ⟨_, rfl, a, _, dx, _, _, rfl, ha, T.cl, T.nK, rfl, q⟩
theorem ok_getR (F : FunD K "is_required" "Column.is_required" (defArgs sGetR) (defBody sGetR) (defScope sGetR) [] [] f fd) (T : ColT K mg) : FnOk P w K mg base CX0 1 f fd ["self"] (spGet K fun _ _ b => .bl b) := by
  refine F.ok scGetR (fun vs H Q E h => ?_) (fun cdv A outer s H vs Q E hr h => ⟨_, PSs.nox (pss_one (ps_ret (pe_fld (pv 0) rfl))), ?_⟩)
  · obtain ⟨a, n, k, b, rfl, _⟩ := h
    rfl
  · obtain ⟨a, n, k, b, rfl, ⟨dx, ha⟩, q⟩ := h
    exact ⟨_, rfl, a, _, dx, _, _, rfl, ha, T.cl, T.nR, rfl, q⟩
def isNo : PyData → Bool
  | .none => true | _ => false
theorem th_non {H : Hp} {v : V} {d : PyData} (t : Th K H v d) : decide (v = V.non) = isNo d := by
  cases t with
  | dp h n => cases h <;> rfl
  | d0 h => rfl
  | d1 h => rfl
def valOk (k : Str) (b : Bool) (d : PyData) : Bool := if isNo d = true then !b else if k = "number" then isN d else isW d
def spIsVal (K : PySem.W.Frag) : Sp := fun vs H Q _ => ∃ (a : Addr) (n k : Str) (b : Bool) (v : V) (d : PyData), vs = [.ref a, v] ∧ ColAt K H a n k b ∧ Th K H v d ∧ sOk d = true ∧ ∀ H', Same H H' → Q (.bl (valOk k b d)) H'
theorem ok_isval {fNu : Addr} {fdNu : FuncData} (F : FunD K "is_value" "Column.is_value" (defArgs sIsVal) (defBody sIsVal) (defScope sIsVal) [] [] f fd) (T : ColT K mg) (FNu : FnP K "is_number" sIsNumber fNu fdNu) (gNu : mg "is_number" = some (.ref fNu))
    (FW : FnP K "is_word" sIsWord fW fdW) (gW : mg "is_word" = some (.ref fW)) : FnOk P w K mg base CX0 2 f fd ["self", "value"] (spIsVal K) := by
  have GW : FnOk P w K mg base CX0 1 fW fdW ["value"] (spWord K) := ok_word FW T.toTxW
  have bW : Binds K fdW ["value"] [] := FW.bindsN fun _ _ _ _ _ _ us hl => match us, hl with | [_], _ => rfl
  have kW := FW.kp
  have GNu : FnOk P w K mg base CX0 1 fNu fdNu ["value"] (spNum K) := ok_num FNu T.toTxW
  have bNu : Binds K fdNu ["value"] [] := FNu.bindsN fun _ _ _ _ _ _ us hl => match us, hl with | [_], _ => rfl
  have kNu := FNu.kp
  refine F.ok scIsVal (fun vs H Q E h => ?_) (fun cdv A outer s H vs Q E hr h => ?_)
  · obtain ⟨a, n, k, b, v, d, rfl, _⟩ := h
    rfl
  · obtain ⟨a, n, k, b, v, d, rfl, ⟨dx, ha⟩, t, so, q⟩ := h
    have nd := scIsVal.nd
    refine ⟨_, PSs.nox (pss_cons (ps_if (pt_cmpR op_isN (pv 1) pe_non (nomark _)) (pss_one (ps_ret (pe_not (pe_fld (pv 0) rfl)))) pss_nil)
      (pss_cons (ps_if (pt_cmpR op_eq (pe_fld (pv 0) rfl) pe_str (nomark _)) (pss_one (ps_ret (pe_call GNu hr rfl gNu kNu bNu .nil pass0 (pa_cons (pv 1) pa_nil)))) pss_nil)
      (pss_one (ps_ret (pe_call GW hr rfl gW kW bW .nil pass0 (pa_cons (pv 1) pa_nil)))))), ?_⟩
    refine ⟨_, rfl, rfl, _, rfl, ?_⟩
    rw [th_non t]
    cases hn : isNo d with
    | true =>
      refine iteT ?_
      refine ⟨_, rfl, a, _, dx, _, _, rfl, ha, T.cl, T.nR, rfl, _, rfl, ?_⟩
      have q := q H (Same.refl H)
      unfold valOk at q
      rw [if_pos hn] at q
      exact q
    | false =>
      refine iteF ?_
      refine ⟨_, rfl, a, _, dx, _, _, rfl, ha, T.cl, T.nK, rfl, rfl, _, rfl, ?_⟩
      have e : valOk k b d = if k = "number" then isN d else isW d := by
        unfold valOk
        rw [if_neg (by rw [hn]; exact Bool.false_ne_true)]
      refine ite2 (fun h1 => ?_) (fun h1 => ?_)
      · have h1 : V.str k = V.str "number" := of_decide_eq_true h1
        have q := q H (Same.refl H)
        rw [e, if_pos (V.str.inj h1)] at q
        exact ⟨_, rfl, v, d, rfl, t, q⟩
      · have h1 : k ≠ "number" := fun z => h1 (decide_eq_true (congrArg V.str z))
        refine ⟨_, rfl, v, d, rfl, t, so, fun H' sm => ?_⟩
        have q := q H' sm
        rw [e, if_neg h1] at q
        exact q
end
end K01
set_option Elab.async false
set_option linter.all false
set_option maxRecDepth 100000
set_option maxHeartbeats 4000000
namespace K01
open K34 PySem PySem.Spec PyProof.Rows L2
structure ColI (K : PySem.W.Frag) (mg : Str → Option Value) : Prop extends ColT K mg where
  cC : (PySem.W.clsIn K (He.ga K "Column")).isSome = true
  tC : PySem.W.typeIn K (.ref (He.ga K "Column")) = some (.type "type")
  ha : PySem.W.findIn K (.ref (He.ga K "Column")) "__class__" = some (some (.builtin "object.__class__"))
  hn : PySem.W.specialIn K (.builtin "object.__class__") "__get__" = some (some (.builtin "getset_descriptor.__get__"))
  ht : PySem.W.takesIn K (.builtin "object.__class__") = some true
  hm : PySem.W.mroIn K (He.ga K "Column") (.type "object") = some true
section
variable {P : Program} {w : World} {K : PySem.W.Frag} {mg : Str → Option Value} {base : Heap} {f : Addr} {fd : FuncData}
theorem ColI.col (T : ColI K mg) {H : Hp} {a : Addr} {n k : Str} {b : Bool} (c : ColAt K H a n k b) : TyX K H (.ref a) (.ref (He.ga K "Column")) := by
  obtain ⟨dx, h⟩ := c
  exact .base (.ins h T.cl T.ha T.hn T.ht T.hm)
theorem ColI.self (T : ColI K mg) : PySem.W.kitOne K (.ref (He.ga K "Column")) (.ref (He.ga K "Column")) = some true := by
  unfold PySem.W.kitOne
  rw [if_pos (beq_self_eq_true _)]
theorem sub_ref {C : Addr} (d : PyData) : PySem.W.subIn K (.type (tyName d)) (.ref C) = some false := by
  have go : ∀ (t : String) (l : List String), fastBuiltinMro t = some (l.map Value.type) → PySem.W.subIn K (.type t) (.ref C) = some false := fun t l e => by
    show (fastBuiltinMro t).map (·.contains (.ref C)) = some false
    rw [e]
    show some ((l.map Value.type).contains (.ref C)) = some false
    refine congrArg some ?_
    clear e
    induction l with
    | nil => rfl
    | cons y r ih =>
      rw [List.map_cons, List.contains_cons, ih]
      rfl
  cases d with
  | none => exact go "NoneType" ["NoneType", "object"] (by decide +kernel)
  | bool _ => exact go "bool" ["bool", "int", "object"] (by decide +kernel)
  | int _ => exact go "int" ["int", "object"] (by decide +kernel)
  | str _ => exact go "str" ["str", "object"] (by decide +kernel)
  | list _ => exact go "list" ["list", "object"] (by decide +kernel)
  | tuple _ => exact go "tuple" ["tuple", "object"] (by decide +kernel)
  | dict _ => exact go "dict" ["dict", "object"] (by decide +kernel)
theorem ColI.other (T : ColI K mg) (d : PyData) : PySem.W.kitOne K (.type (tyName d)) (.ref (He.ga K "Column")) = some false := by
  unfold PySem.W.kitOne
  rw [if_neg (by intro z; exact nomatch (beq_iff_eq.mp z))]
  show (if ((PySem.W.clsIn K (He.ga K "Column")).isSome && PySem.W.typeIn K (.ref (He.ga K "Column")) == some (.type "type")) = true then PySem.W.subIn K (.type (tyName d)) (.ref (He.ga K "Column")) else none) = some false
  rw [if_pos (by rw [T.cC, T.tC]; rfl)]
  exact sub_ref d
def spEqC (K : PySem.W.Frag) : Sp := fun vs H Q _ => ∃ (a : Addr) (n k : Str) (b : Bool) (v : V), vs = [.ref a, v] ∧ ColAt K H a n k b ∧
  ((∃ d, Th K H v d ∧ Q (.bl false) H) ∨ ∃ (a2 : Addr) (n2 k2 : Str) (b2 : Bool), v = .ref a2 ∧ ColAt K H a2 n2 k2 b2 ∧ Q (.bl (decide (n = n2 ∧ k = k2 ∧ b = b2))) H)
theorem ok_eq (F : FunD K "__eq__" "Column.__eq__" (defArgs sEq) (defBody sEq) (defScope sEq) [] [] f fd) (T : ColI K mg) : FnOk P w K mg base CX0 1 f fd ["self", "other"] (spEqC K) := by
  refine F.ok scEq (fun vs H Q E h => ?_) (fun cdv A outer s H vs Q E hr h => ?_)
  · obtain ⟨a, n, k, b, v, rfl, _⟩ := h
    rfl
  · obtain ⟨a, n, k, b, v, rfl, c, h⟩ := h
    have nd := scEq.nd
    refine ⟨_, PSs.nox (pss_one (ps_ret (pe_and (pe_callB call_isi (by rfl) T.isi (by decide +kernel) (pa_cons (pv 1) (pa_cons (pe_glob (v := .ref (He.ga K "Column")) rfl T.g rfl) pa_nil))) (pe_and (pe_cmpR op_eq (pe_fld (pv 0) rfl) (pe_fld (pv 1) rfl) (nomark _)) (pe_and (pe_cmpR op_eq (pe_fld (pv 0) rfl) (pe_fld (pv 1) rfl) (nomark _)) (pe_one (pe_cmpR op_eq (pe_fld (pv 0) rfl) (pe_fld (pv 1) rfl) (nomark _)))))))), ?_⟩
    rcases h with ⟨d, t, q⟩ | ⟨a2, n2, k2, b2, rfl, c2, q⟩
    · refine ⟨_, rfl, v, .ref (He.ga K "Column"), .type (tyName d), _, false, rfl, .own _, th_ty t, T.other d, _, rfl, ?_⟩
      refine iteF ?_
      exact q
    · refine ⟨_, rfl, _, .ref (He.ga K "Column"), .ref (He.ga K "Column"), _, true, rfl, .own _, T.col c2, T.self, _, rfl, ?_⟩
      refine iteT ?_
      obtain ⟨dx, ha⟩ := c
      obtain ⟨dx2, ha2⟩ := c2
      refine ⟨_, rfl, a, _, dx, _, _, rfl, ha, T.cl, T.nN, rfl, _, rfl, a2, _, dx2, _, _, rfl, ha2, T.cl, T.nN, rfl, rfl, _, rfl, ?_⟩
      refine ite2 (fun h1 => ?_) (fun h1 => ?_)
      · have h1 : n = n2 := V.str.inj (of_decide_eq_true h1)
        refine ⟨_, rfl, a, _, dx, _, _, rfl, ha, T.cl, T.nK, rfl, _, rfl, a2, _, dx2, _, _, rfl, ha2, T.cl, T.nK, rfl, rfl, _, rfl, ?_⟩
        refine ite2 (fun h2 => ?_) (fun h2 => ?_)
        · have h2 : k = k2 := V.str.inj (of_decide_eq_true h2)
          refine ⟨_, rfl, a, _, dx, _, _, rfl, ha, T.cl, T.nR, rfl, _, rfl, a2, _, dx2, _, _, rfl, ha2, T.cl, T.nR, rfl, rfl, ?_⟩
          have e : decide (V.bl b = V.bl b2) = decide (n = n2 ∧ k = k2 ∧ b = b2) := by
            by_cases z : b = b2
            · rw [decide_eq_true (congrArg V.bl z), decide_eq_true ⟨h1, h2, z⟩]
            · rw [decide_eq_false (fun y => z (V.bl.inj y)), decide_eq_false (fun y => z y.2.2)]
          rw [e]
          exact q
        · have h2 : k ≠ k2 := fun z => h2 (decide_eq_true (congrArg V.str z))
          rw [decide_eq_false (fun y => h2 y.2.1)] at q
          exact q
      · have h1 : n ≠ n2 := fun z => h1 (decide_eq_true (congrArg V.str z))
        rw [decide_eq_false (fun y => h1 y.1)] at q
        exact q
end
end K01
set_option Elab.async false
set_option linter.all false
set_option maxRecDepth 100000
set_option maxHeartbeats 4000000
/-! == and != by an own __eq__: both answers -/
namespace K01S
open PySem PySem.Spec PySem.Calls PyProof.Rows PySem.W
section
variable {prog : Program} {w : World} {A : Around} {E : Value → Shared → Prop} {s : Shared} {K : Frag} {x C f : Addr} {ox : Obj} {od : Option Obj} {name : Str} {b tb : Value}
theorem ifBound_B {M : Model} {id : String} {args : List Value} {Q : Option Value → Shared → Prop} (X : K.In s.heap) (I : InstAt s.heap x ox C od) (hs : findIn K (.ref C) name = some (some (.builtin id))) (S : Slot "object" name id)
    (h : wpAny M A (call (.builtin id) (.ref x :: args)) (fun v => Q (some v)) E s) : wpAny M A (callSpecialIfBound? (.ref x) name args) Q E s := by
  simp only [callSpecialIfBound?, bindSpecialIfBound?]
  refine wpAny_holding (wpAny_bind (wpAny_bind (wpAny_bind (I.type.here ((looks_findIn X hs).here ?_)))))
  simp only [S.bind]
  refine wpAny_bind (wpAny_askSetting (wpAny_ite ?_))
  have fin : wpAny M A (call (.builtin id) ([.ref x] ++ args) >>= fun v => pure (some v)) Q E s := wpAny_bind (wpAny_mono h (fun v s' h' => wpAny_pure h') fun _ _ h' => h')
  split
  · exact wpAny_bind (wpAny_pure (wpAny_pure (by exact fin)))
  · exact wpAny_tryCatch (wpAny_bind (wpAny_pure (wpAny_pure (by exact fin))))
theorem objNe_K (X : K.In s.heap) (I : InstAt s.heap x ox C od) (hs : findIn K (.ref C) "__eq__" = some (some (.ref f))) (hf : isFn K (.ref f) = true) (hu : A.units < cLine) {Q : Fin → Shared → Prop}
    (hcall : wpAny (model prog w) A (call (.ref f) [.ref x, b]) (fun v s' => ∃ r, v = .bool r ∧ Q (.done (.ret (.bool (!r)))) s') E s) :
    wpAny (model prog w) A (Builtin.«object.__ne__» ⟨[.ref x, b], []⟩) Q E s := by
  obtain ⟨hp, g, d, t, os⟩ := s
  unfold Builtin.«object.__ne__»
  repeat (first
    | with_reducible refine wpAny_cRoomFor hu ?_
    | (refine wpAny_bind (m := callSpecialIfBound? (.ref x) (Str.ofString "__eq__") [b])
        (ifBound_K X I hs hf (wpAny_mono hcall (fun r s' hr => by
          obtain ⟨b, rfl, hq⟩ := hr
          repeat (first | exact hq | exact wpAny_pure hq | exact wpAny_truthy_bool hq | (refine wpAny_bind (m := truthy (.bool _)) (wpAny_truthy_bool ?_)) | wp_step)) fun _ _ e => e)))
    | wp_step)
theorem ne_K {Q : Value → Shared → Prop} (X : K.In s.heap) (I : InstAt s.heap x ox C od) (hb : Looks (model prog w) s.heap (typeOf b) tb) (hn : notFirst K C tb = true)
    (hne : findIn K (.ref C) "__ne__" = some (some (.builtin "object.__ne__"))) (hm : mroIn K C (.type "object") = some true) (hs : findIn K (.ref C) "__eq__" = some (some (.ref f))) (hf : isFn K (.ref f) = true)
    (hu : A.units < cLine) (hu1 : A.in1.units < cLine) (h : wpAny (model prog w) A.in1 (call (.ref f) [.ref x, b]) (fun v s' => ∃ r, v = .bool r ∧ Q (.bool (!r)) s') E s) : wpAny (model prog w) A (richCompare .NotEq (.ref x) b) Q E s := by
  have one : wpAny (model prog w) A (tryCompare (.ref x) (cmpInfo .NotEq).2.1 b) (fun r s' => ∃ v, r = some v ∧ Q v s') E s := by
    unfold tryCompare
    refine wpAny_bind (ifBound_B (id := "object.__ne__") X I hne F.cmp_object.ne (wpAny_call (codeAny_call_builtin F.cmp_object.ne.plain F.cmpEntry_ne
      (check_slot (owner := "object") (n := "__ne__") (rest := [b]) (kw := []) F.cmpKind_ne F.cmpSplit_ne (I.type.andThen (looks_subIn X hm)) (F.cmpArgs_ne _ _) (objNe_K X I hs hf hu1 (wpAny_mono h (fun v s' hv => ?_) fun _ _ e => e))))))
    obtain ⟨r, rfl, hq⟩ := hv
    first
      | exact ⟨r, rfl, wpAny_pure ⟨_, rfl, hq⟩⟩
      | exact ⟨r, rfl, wpAny_pure (wpAny_pure ⟨_, rfl, hq⟩)⟩
      | exact ⟨r, rfl, ⟨_, rfl, hq⟩⟩
  unfold richCompare
  simp only [oneThing_ref]
  refine wpAny_holding (wpAny_bind (wpAny_cRoomFor hu ?_))
  refine wpAny_bind (I.type.here (wpAny_bind (hb.here ?_)))
  split
  · rename_i q
    have e : subIn K tb (.ref C) = some false := by
      rcases Bool.or_eq_true_iff.mp hn with e | e
      · rw [beq_iff_eq.mp e] at q; simp at q
      · exact beq_iff_eq.mp e
    refine wpAny_bind ((looks_subIn X e).here ?_)
    simp only [Bool.false_eq_true, if_false]
    refine wpAny_bind (wpAny_mono one (fun r s' z => ?_) fun _ _ e => e)
    obtain ⟨v, rfl, hq⟩ := z
    exact wpAny_pure hq
  · refine wpAny_bind (wpAny_pure ?_)
    simp only [Bool.false_eq_true, if_false]
    refine wpAny_bind (wpAny_mono one (fun r s' z => ?_) fun _ _ e => e)
    obtain ⟨v, rfl, hq⟩ := z
    exact wpAny_pure hq
end
end K01S
namespace K01
open K34 PySem PySem.Spec PyProof.Rows L2
/-- what == says of a column and any value -/
def EqCol (K : PySem.W.Frag) (n k : Str) (b : Bool) (y : V) (H : Hp) (r : Bool) : Prop := (∃ d, Th K H y d ∧ r = false) ∨ ∃ (a2 : Addr) (n2 k2 : Str) (b2 : Bool), y = .ref a2 ∧ ColAt K H a2 n2 k2 b2 ∧ r = decide (n = n2 ∧ k = k2 ∧ b = b2)
def rEqC (K : PySem.W.Frag) (g : Bool → Bool) : R2 := fun x y H Q => ∃ (a : Addr) (n k : Str) (b r : Bool), x = .ref a ∧ ColAt K H a n k b ∧ EqCol K n k b y H r ∧ Q (.bl (g r)) H
structure ColE (P : Program) (w : World) (K : PySem.W.Frag) (mg : Str → Option Value) (base : Heap) (f : Addr) (fd : FuncData) : Prop where
  I : ColI K mg
  F : FnOk P w K mg base CX0 1 f fd ["self", "other"] (spEqC K)
  B : Binds K fd ["self", "other"] []
  e : PySem.W.findIn K (.ref (He.ga K "Column")) "__eq__" = some (some (.ref f))
  n : PySem.W.findIn K (.ref (He.ga K "Column")) "__ne__" = some (some (.builtin "object.__ne__"))
  fn : PySem.W.isFn K (.ref f) = true
section
variable {X : Cx} {f : Addr} {fd : FuncData} {pins : List (Addr × Obj)} {σ : L2.St} {H : Hp} {s : Shared}
theorem eq_call (T : ColE X.prog X.w X.K X.mg X.base f fd) (I : Inv X pins σ H s) {A : Around} (hr : Room 1 A) (e0 : Env0 X.prog X.w X.K X.mg X.base A X.stack s H) {a : Addr} {n k : Str} {b r : Bool} {y : V} {v : Value} (c : ColAt X.K H a n k b) (ry : RelV y v) (h : EqCol X.K n k b y H r) {Q : Value → Shared → Prop}
    (hq : ∀ s' H', Inv X pins σ H' s' → H' = H → Q (.bool r) s') : wpAny (model X.prog X.w) A (call (.ref f) [.ref a, v]) Q X.xe s := by
  have hsp : spEqC X.K [.ref a, y] H (fun z H' => z = .bl r ∧ H' = H) E0 := by
    refine ⟨a, n, k, b, y, rfl, c, ?_⟩
    rcases h with ⟨d, t, e⟩ | ⟨a2, n2, k2, b2, e1, c2, e⟩
    · exact .inl ⟨d, t, by rw [e], rfl⟩
    · exact .inr ⟨a2, n2, k2, b2, e1, c2, by rw [e], rfl⟩
  refine wpAny_call (codeAny_mono (T.F.run A X.stack s H ⟨[.ref a, v], []⟩ [.ref a, v] [.ref a, y] _ E0 hr e0 (by
    have z := T.B s [.ref a, v] I.kIn rfl
    simpa using z) (.cons rfl (.cons ry .nil)) hsp) fun r' s' hq' => ?_)
  cases r' with
  | error e => exact False.elim hq'
  | ok fl =>
    cases fl with
    | ret u =>
      obtain ⟨z, H', I', rz, ez, eH⟩ := I.after hq'
      subst ez
      cases rz
      exact hq s' H' I' eH
    | next => exact False.elim hq'
    | brk => exact False.elim hq'
    | cont => exact False.elim hq'
theorem eqcol_ty (T : ColI X.K X.mg) (I : Inv X pins σ H s) {n k : Str} {b r : Bool} {y : V} {v : Value} (ry : RelV y v) (h : EqCol X.K n k b y H r) : ∃ tb, PySem.W.Looks (model X.prog X.w) s.heap (typeOf v) tb ∧ PySem.W.notFirst X.K (He.ga X.K "Column") tb = true := by
  have go : ∀ {t : Value}, TyX X.K H y t → PySem.W.notFirst X.K (He.ga X.K "Column") t = true → ∃ tb, PySem.W.Looks (model X.prog X.w) s.heap (typeOf v) tb ∧ PySem.W.notFirst X.K (He.ga X.K "Column") tb = true := fun {t} ty e => by
    obtain ⟨P, Z, p, hx⟩ := kit_of I ry ty
    exact ⟨t, Z.ty _ _ I.kIn p, e⟩
  rcases h with ⟨d, t, e⟩ | ⟨a2, n2, k2, b2, e1, c2, e⟩
  · refine go (th_ty t) ?_
    unfold PySem.W.notFirst
    rw [sub_ref d, Bool.or_eq_true]
    exact .inr rfl
  · subst e1
    refine go (T.col c2) ?_
    unfold PySem.W.notFirst
    rw [beq_self_eq_true, Bool.true_or]
theorem op_eqC (T : ColE X.prog X.w X.K X.mg X.base f fd) (hr : Room 1 X.A) : OpR X (compareOp .Eq) (rEqC X.K id) := by
  intro pins s σ H x y v u Q I rx ry hq
  obtain ⟨a, n, k, b, r, rfl, c, h, q⟩ := hq
  cases rx
  show wpAny (model X.prog X.w) X.A (richCompare .Eq (.ref a) u) (EP X pins σ Q) X.xe s
  obtain ⟨dx, ha⟩ := id c
  obtain ⟨mA, J, _⟩ := ins_get I.hok ha
  obtain ⟨od, J, _⟩ := J.look
  obtain ⟨m, hF⟩ := I.fr
  obtain ⟨tb, hb, hn⟩ := eqcol_ty T.I I ry h
  refine PySem.W.cmp_K (op := .Eq) (tb := tb) hr.units0 hF I.ok.mod.kin J hb hn T.e T.fn ?_
  refine eq_call T I hr I.env0 c ry h fun s' H' I' e => ?_
  subst e
  exact ⟨.bl r, _, I', rfl, q⟩
theorem op_neC (T : ColE X.prog X.w X.K X.mg X.base f fd) (hr : Room 2 X.A) : OpR X (compareOp .NotEq) (rEqC X.K not) := by
  intro pins s σ H x y v u Q I rx ry hq
  obtain ⟨a, n, k, b, r, rfl, c, h, q⟩ := hq
  cases rx
  show wpAny (model X.prog X.w) X.A (richCompare .NotEq (.ref a) u) (EP X pins σ Q) X.xe s
  obtain ⟨dx, ha⟩ := id c
  obtain ⟨mA, J, _⟩ := ins_get I.hok ha
  obtain ⟨od, J, _⟩ := J.look
  obtain ⟨tb, hb, hn⟩ := eqcol_ty T.I I ry h
  refine K01S.ne_K (tb := tb) I.kIn J hb hn T.n T.I.hm T.e T.fn hr.units0 hr.in1.units0 ?_
  refine eq_call T I hr.in1 I.env0.in1 c ry h fun s' H' I' e => ?_
  subst e
  exact ⟨r, rfl, .bl (!r), _, I', rfl, q⟩
end
end K01
set_option Elab.async false
set_option linter.all false
set_option maxRecDepth 100000
set_option maxHeartbeats 4000000
namespace K01
open K34 PySem PySem.Spec PyProof.Rows L2
theorem up2 {H : Hp} {q b : Addr} {o1 o2 u : HO} (h : H b = some u) (n : H q = none) : upd (upd H q o1) q o2 b = some u := by rw [upd_upd]; exact up h n
theorem same_new2 {q : Addr} {H H' : Hp} {o1 o2 : HO} (a : Same H H') (n : H' q = none) : Same H (upd (upd H' q o1) q o2) := by rw [upd_upd]; exact same_new a n
theorem merge_a : some (HO.dK (mergeK [] [((.inr ("a" : Str) : Key), V.int 1)])) = some (HO.dK [(.inr "a", .int 1)]) := by kernel_rfl
theorem PenAt.same {H H' : Hp} {p c : Addr} {ns : List Int} {t l : Int} (D : PenAt H p c ns t l) (s : Same H H') : PenAt H' p c ns t l := ⟨s _ _ D.d, s _ _ D.c, D.ht, D.hl, D.hn⟩
/-- a datum whose writing is short -/
def dOk (d : PyData) : Bool := d.showable && (decide (d.shown.length ≤ 1000) && (decide (d.depth ≤ 8) && ((PyData.list [d, d]).showable && (decide ((PyData.list [d, d]).shown.length ≤ 1000) && decide ((PyData.list [d, d]).depth ≤ 8)))))
/-- .. as a name, a kind, a value that is asked for, too -/
def aOk (d : PyData) : Bool := (dOk d && PyData.strOk d.shown) && sOk d
def spAny (K : PySem.W.Frag) : Sp := fun vs H Q _ => ∃ (p c : Addr) (ns : List Int) (t l : Int), vs = [.ref p] ∧ PenAt H p c ns t l ∧ t < 1000000000000 ∧
  ∀ (v : V) (d : PyData) (t' l' : Int) (H' : Hp), Th K H' v d → aOk d = true → t' ≤ t + 1 → PenAt H' p c ns t' l' → But p H H' → Q v H'
theorem scAny : FnScope ["_law_pen_here", "_law_some"] ["_law_pen_here"] (defScope sAny) := ⟨rfl, rfl, rfl, by decide +kernel, rfl, by decide +kernel, by decide +kernel⟩
section
variable {P : Program} {w : World} {K : PySem.W.Frag} {mg : Str → Option Value} {base : Heap} {f fD fP : Addr} {fd fdD fdP : FuncData}
theorem ok_any (F : FnP K "_law_any_value" sAny f fd) (T : TxB mg) (FD : FnP K "_law_draw" sDraw fD fdD) (gD : mg "_law_draw" = some (.ref fD)) (FP : FnP K "_law_pick" sPick fP fdP) (gP : mg "_law_pick" = some (.ref fP)) : FnOk P w K mg base CX0 3 f fd ["_law_pen_here"] (spAny K) := by
  have GP : FnOk P w K mg base CX0 2 fP fdP ["_law_pen_here", "_law_options"] (spPick K) := ok_pick FP T FD gD
  have bP : Binds K fdP ["_law_pen_here", "_law_options"] [] := FP.bindsN fun _ _ _ _ _ _ us hl => match us, hl with | [_, _], _ => rfl
  have kP := FP.kp
  refine F.ok scAny (fun vs H Q E h => ?_) (fun cdv A outer s H vs Q E hr h => ?_)
  · obtain ⟨p, c, ns, t, l, rfl, _⟩ := h
    rfl
  · obtain ⟨p, c, ns, t, l, rfl, D, ht, k⟩ := h
    have hu := hu_of hr
    have nd := scAny.nd
    refine ⟨_, PSs.nox (pss_cons (ps_set (i := 1) nd rfl (Or.inl rfl) (pe_lst (pa_cons pe_non (pa_cons pe_bl (pa_cons pe_bl (pa_cons pe_int (pa_cons pe_int (pa_cons (pe_un un_neg pe_int) (pa_cons (pe_op op_add (pe_op op_pow pe_int pe_int) pe_int) (pa_cons pe_str (pa_cons pe_str (pa_cons pe_str (pa_cons pe_str (pa_cons (pe_tup pa_nil) (pa_cons (pe_tup (pa_cons pe_int pa_nil)) (pa_cons (pe_lst (pa_cons pe_int pa_nil)) (pa_cons pe_dnewK (pa_cons (pe_disp (pps_cons pe_str pe_int pps_nil) (by rfl) (by rfl) (fun z => by cases z) (by decide)) (pa_cons (pe_tup (pa_cons pe_non pa_nil)) pa_nil)))))))))))))))))))
      (pss_cons (ps_set (i := 1) nd rfl (Or.inl rfl) (pe_op op_cat (pv 1) (pe_lst (pa_cons pe_str (pa_cons (pe_op op_pow pe_int pe_int) (pa_cons (pe_tup (pa_cons pe_str pa_nil)) (pa_cons (pe_tup (pa_cons pe_str (pa_cons pe_str pa_nil))) (pa_cons (pe_tup (pa_cons pe_int (pa_cons pe_str pa_nil))) (pa_cons pe_str (pa_cons pe_str (pa_cons pe_str (pa_cons (pe_lst (pa_cons (pe_tup (pa_cons pe_str (pa_cons pe_int pa_nil))) pa_nil)) (pa_cons (pe_tup (pa_cons pe_str (pa_cons pe_int (pa_cons pe_int pa_nil)))) pa_nil)))))))))))))
      (pss_one (ps_ret (pe_call GP hr rfl gP kP bP .nil pass0 (pa_cons (pv 0) (pa_cons (pv 1) pa_nil))))))), ?_⟩
    have ss := Same.refl H
    have dp := D.d
    refine ⟨_, rfl, _, _, rfl, rfl, ⟨by decide, by decide, by decide⟩, _, _, rfl, rfl, (by show 0 ≤ sizeLine; decide), fun q1 n1 => ?_⟩
    have eq1 : q1 ≠ p := (ne_of_none dp n1).symm
    have dp := up (o := .tup []) dp n1
    have fq1 : (upd H q1 (.tup [])) q1 = some (.tup []) := upd_same
    have ss := same_new (o := .tup []) ss n1
    generalize (upd H q1 (.tup [])) = H1 at ss dp fq1 ⊢
    refine ⟨(by show 1 ≤ sizeLine; decide), fun q2 n2 => ?_⟩
    have eq2 : q2 ≠ p := (ne_of_none dp n2).symm
    have dp := up (o := .tup [.int 1]) dp n2
    have fq1 := up (o := .tup [.int 1]) fq1 n2
    have fq2 : (upd H1 q2 (.tup [.int 1])) q2 = some (.tup [.int 1]) := upd_same
    have ss := same_new (o := .tup [.int 1]) ss n2
    generalize (upd H1 q2 (.tup [.int 1])) = H2 at ss dp fq1 fq2 ⊢
    refine ⟨(by show 1 ≤ sizeLine; decide), fun q3 n3 => ?_⟩
    have eq3 : q3 ≠ p := (ne_of_none dp n3).symm
    have dp := up (o := .lst [.int 1]) dp n3
    have fq1 := up (o := .lst [.int 1]) fq1 n3
    have fq2 := up (o := .lst [.int 1]) fq2 n3
    have fq3 : (upd H2 q3 (.lst [.int 1])) q3 = some (.lst [.int 1]) := upd_same
    have ss := same_new (o := .lst [.int 1]) ss n3
    generalize (upd H2 q3 (.lst [.int 1])) = H3 at ss dp fq1 fq2 fq3 ⊢
    refine fun q4 n4 => ?_
    have eq4 : q4 ≠ p := (ne_of_none dp n4).symm
    have dp := up (o := .dK []) dp n4
    have fq1 := up (o := .dK []) fq1 n4
    have fq2 := up (o := .dK []) fq2 n4
    have fq3 := up (o := .dK []) fq3 n4
    have fq4 : (upd H3 q4 (.dK [])) q4 = some (.dK []) := upd_same
    have ss := same_new (o := .dK []) ss n4
    generalize (upd H3 q4 (.dK [])) = H4 at ss dp fq1 fq2 fq3 fq4 ⊢
    refine fun q5 n5 => ⟨upd_same, [((.inr ("a" : Str) : Key), V.int 1)], rfl, (by show 1 ≤ 15; decide), ?_⟩
    have eq5 : q5 ≠ p := (ne_of_none dp n5).symm
    have dp := up2 (u := _) (o1 := .dK []) (o2 := .dK (mergeK [] [((.inr ("a" : Str) : Key), V.int 1)])) dp n5
    have fq1 := up2 (u := _) (o1 := .dK []) (o2 := .dK (mergeK [] [((.inr ("a" : Str) : Key), V.int 1)])) fq1 n5
    have fq2 := up2 (u := _) (o1 := .dK []) (o2 := .dK (mergeK [] [((.inr ("a" : Str) : Key), V.int 1)])) fq2 n5
    have fq3 := up2 (u := _) (o1 := .dK []) (o2 := .dK (mergeK [] [((.inr ("a" : Str) : Key), V.int 1)])) fq3 n5
    have fq4 := up2 (u := _) (o1 := .dK []) (o2 := .dK (mergeK [] [((.inr ("a" : Str) : Key), V.int 1)])) fq4 n5
    have fq5 : (upd (upd H4 q5 (.dK [])) q5 (.dK (mergeK [] [((.inr ("a" : Str) : Key), V.int 1)]))) q5 = some (.dK [(.inr "a", .int 1)]) := upd_same.trans merge_a
    have ss := same_new2 (o1 := .dK []) (o2 := .dK (mergeK [] [((.inr ("a" : Str) : Key), V.int 1)])) ss n5
    generalize (upd (upd H4 q5 (.dK [])) q5 (.dK (mergeK [] [((.inr ("a" : Str) : Key), V.int 1)]))) = H5 at ss dp fq1 fq2 fq3 fq4 fq5 ⊢
    refine ⟨(by show 1 ≤ sizeLine; decide), fun q6 n6 => ?_⟩
    have eq6 : q6 ≠ p := (ne_of_none dp n6).symm
    have dp := up (o := .tup [.non]) dp n6
    have fq1 := up (o := .tup [.non]) fq1 n6
    have fq2 := up (o := .tup [.non]) fq2 n6
    have fq3 := up (o := .tup [.non]) fq3 n6
    have fq4 := up (o := .tup [.non]) fq4 n6
    have fq5 := up (o := .tup [.non]) fq5 n6
    have fq6 : (upd H5 q6 (.tup [.non])) q6 = some (.tup [.non]) := upd_same
    have ss := same_new (o := .tup [.non]) ss n6
    generalize (upd H5 q6 (.tup [.non])) = H6 at ss dp fq1 fq2 fq3 fq4 fq5 fq6 ⊢
    refine ⟨(by show 17 ≤ sizeLine; decide), fun q7 n7 => ?_⟩
    have eq7 : q7 ≠ p := (ne_of_none dp n7).symm
    have dp := up (o := .lst [.non, .bl true, .bl false, .int 0, .int 1, .int (-1), .int (10 ^ (30 : Int).toNat + 1), .str "", .str "a", .str "A", .str "and", .ref q1, .ref q2, .ref q3, .ref q4, .ref q5, .ref q6]) dp n7
    have fq1 := up (o := .lst [.non, .bl true, .bl false, .int 0, .int 1, .int (-1), .int (10 ^ (30 : Int).toNat + 1), .str "", .str "a", .str "A", .str "and", .ref q1, .ref q2, .ref q3, .ref q4, .ref q5, .ref q6]) fq1 n7
    have fq2 := up (o := .lst [.non, .bl true, .bl false, .int 0, .int 1, .int (-1), .int (10 ^ (30 : Int).toNat + 1), .str "", .str "a", .str "A", .str "and", .ref q1, .ref q2, .ref q3, .ref q4, .ref q5, .ref q6]) fq2 n7
    have fq3 := up (o := .lst [.non, .bl true, .bl false, .int 0, .int 1, .int (-1), .int (10 ^ (30 : Int).toNat + 1), .str "", .str "a", .str "A", .str "and", .ref q1, .ref q2, .ref q3, .ref q4, .ref q5, .ref q6]) fq3 n7
    have fq4 := up (o := .lst [.non, .bl true, .bl false, .int 0, .int 1, .int (-1), .int (10 ^ (30 : Int).toNat + 1), .str "", .str "a", .str "A", .str "and", .ref q1, .ref q2, .ref q3, .ref q4, .ref q5, .ref q6]) fq4 n7
    have fq5 := up (o := .lst [.non, .bl true, .bl false, .int 0, .int 1, .int (-1), .int (10 ^ (30 : Int).toNat + 1), .str "", .str "a", .str "A", .str "and", .ref q1, .ref q2, .ref q3, .ref q4, .ref q5, .ref q6]) fq5 n7
    have fq6 := up (o := .lst [.non, .bl true, .bl false, .int 0, .int 1, .int (-1), .int (10 ^ (30 : Int).toNat + 1), .str "", .str "a", .str "A", .str "and", .ref q1, .ref q2, .ref q3, .ref q4, .ref q5, .ref q6]) fq6 n7
    have fq7 : (upd H6 q7 (.lst [.non, .bl true, .bl false, .int 0, .int 1, .int (-1), .int (10 ^ (30 : Int).toNat + 1), .str "", .str "a", .str "A", .str "and", .ref q1, .ref q2, .ref q3, .ref q4, .ref q5, .ref q6])) q7 = some (.lst [.non, .bl true, .bl false, .int 0, .int 1, .int (-1), .int (10 ^ (30 : Int).toNat + 1), .str "", .str "a", .str "A", .str "and", .ref q1, .ref q2, .ref q3, .ref q4, .ref q5, .ref q6]) := upd_same
    have ss := same_new (o := .lst [.non, .bl true, .bl false, .int 0, .int 1, .int (-1), .int (10 ^ (30 : Int).toNat + 1), .str "", .str "a", .str "A", .str "and", .ref q1, .ref q2, .ref q3, .ref q4, .ref q5, .ref q6]) ss n7
    generalize (upd H6 q7 (.lst [.non, .bl true, .bl false, .int 0, .int 1, .int (-1), .int (10 ^ (30 : Int).toNat + 1), .str "", .str "a", .str "A", .str "and", .ref q1, .ref q2, .ref q3, .ref q4, .ref q5, .ref q6])) = H7 at ss dp fq1 fq2 fq3 fq4 fq5 fq6 fq7 ⊢
    refine ⟨_, rfl, _, _, rfl, rfl, ⟨by decide, by decide, by decide⟩, (by show 1 ≤ sizeLine; decide), fun q8 n8 => ?_⟩
    have eq8 : q8 ≠ p := (ne_of_none dp n8).symm
    have dp := up (o := .tup [.str "-"]) dp n8
    have fq1 := up (o := .tup [.str "-"]) fq1 n8
    have fq2 := up (o := .tup [.str "-"]) fq2 n8
    have fq3 := up (o := .tup [.str "-"]) fq3 n8
    have fq4 := up (o := .tup [.str "-"]) fq4 n8
    have fq5 := up (o := .tup [.str "-"]) fq5 n8
    have fq6 := up (o := .tup [.str "-"]) fq6 n8
    have fq7 := up (o := .tup [.str "-"]) fq7 n8
    have fq8 : (upd H7 q8 (.tup [.str "-"])) q8 = some (.tup [.str "-"]) := upd_same
    have ss := same_new (o := .tup [.str "-"]) ss n8
    generalize (upd H7 q8 (.tup [.str "-"])) = H8 at ss dp fq1 fq2 fq3 fq4 fq5 fq6 fq7 fq8 ⊢
    refine ⟨(by show 2 ≤ sizeLine; decide), fun q9 n9 => ?_⟩
    have eq9 : q9 ≠ p := (ne_of_none dp n9).symm
    have dp := up (o := .tup [.str "+", .str "-"]) dp n9
    have fq1 := up (o := .tup [.str "+", .str "-"]) fq1 n9
    have fq2 := up (o := .tup [.str "+", .str "-"]) fq2 n9
    have fq3 := up (o := .tup [.str "+", .str "-"]) fq3 n9
    have fq4 := up (o := .tup [.str "+", .str "-"]) fq4 n9
    have fq5 := up (o := .tup [.str "+", .str "-"]) fq5 n9
    have fq6 := up (o := .tup [.str "+", .str "-"]) fq6 n9
    have fq7 := up (o := .tup [.str "+", .str "-"]) fq7 n9
    have fq8 := up (o := .tup [.str "+", .str "-"]) fq8 n9
    have fq9 : (upd H8 q9 (.tup [.str "+", .str "-"])) q9 = some (.tup [.str "+", .str "-"]) := upd_same
    have ss := same_new (o := .tup [.str "+", .str "-"]) ss n9
    generalize (upd H8 q9 (.tup [.str "+", .str "-"])) = H9 at ss dp fq1 fq2 fq3 fq4 fq5 fq6 fq7 fq8 fq9 ⊢
    refine ⟨(by show 2 ≤ sizeLine; decide), fun q10 n10 => ?_⟩
    have eq10 : q10 ≠ p := (ne_of_none dp n10).symm
    have dp := up (o := .tup [.int 1, .str "a"]) dp n10
    have fq1 := up (o := .tup [.int 1, .str "a"]) fq1 n10
    have fq2 := up (o := .tup [.int 1, .str "a"]) fq2 n10
    have fq3 := up (o := .tup [.int 1, .str "a"]) fq3 n10
    have fq4 := up (o := .tup [.int 1, .str "a"]) fq4 n10
    have fq5 := up (o := .tup [.int 1, .str "a"]) fq5 n10
    have fq6 := up (o := .tup [.int 1, .str "a"]) fq6 n10
    have fq7 := up (o := .tup [.int 1, .str "a"]) fq7 n10
    have fq8 := up (o := .tup [.int 1, .str "a"]) fq8 n10
    have fq9 := up (o := .tup [.int 1, .str "a"]) fq9 n10
    have fq10 : (upd H9 q10 (.tup [.int 1, .str "a"])) q10 = some (.tup [.int 1, .str "a"]) := upd_same
    have ss := same_new (o := .tup [.int 1, .str "a"]) ss n10
    generalize (upd H9 q10 (.tup [.int 1, .str "a"])) = H10 at ss dp fq1 fq2 fq3 fq4 fq5 fq6 fq7 fq8 fq9 fq10 ⊢
    refine ⟨(by show 2 ≤ sizeLine; decide), fun q11 n11 => ?_⟩
    have eq11 : q11 ≠ p := (ne_of_none dp n11).symm
    have dp := up (o := .tup [.str "a", .int 1]) dp n11
    have fq1 := up (o := .tup [.str "a", .int 1]) fq1 n11
    have fq2 := up (o := .tup [.str "a", .int 1]) fq2 n11
    have fq3 := up (o := .tup [.str "a", .int 1]) fq3 n11
    have fq4 := up (o := .tup [.str "a", .int 1]) fq4 n11
    have fq5 := up (o := .tup [.str "a", .int 1]) fq5 n11
    have fq6 := up (o := .tup [.str "a", .int 1]) fq6 n11
    have fq7 := up (o := .tup [.str "a", .int 1]) fq7 n11
    have fq8 := up (o := .tup [.str "a", .int 1]) fq8 n11
    have fq9 := up (o := .tup [.str "a", .int 1]) fq9 n11
    have fq10 := up (o := .tup [.str "a", .int 1]) fq10 n11
    have fq11 : (upd H10 q11 (.tup [.str "a", .int 1])) q11 = some (.tup [.str "a", .int 1]) := upd_same
    have ss := same_new (o := .tup [.str "a", .int 1]) ss n11
    generalize (upd H10 q11 (.tup [.str "a", .int 1])) = H11 at ss dp fq1 fq2 fq3 fq4 fq5 fq6 fq7 fq8 fq9 fq10 fq11 ⊢
    refine ⟨(by show 1 ≤ sizeLine; decide), fun q12 n12 => ?_⟩
    have eq12 : q12 ≠ p := (ne_of_none dp n12).symm
    have dp := up (o := .lst [.ref q11]) dp n12
    have fq1 := up (o := .lst [.ref q11]) fq1 n12
    have fq2 := up (o := .lst [.ref q11]) fq2 n12
    have fq3 := up (o := .lst [.ref q11]) fq3 n12
    have fq4 := up (o := .lst [.ref q11]) fq4 n12
    have fq5 := up (o := .lst [.ref q11]) fq5 n12
    have fq6 := up (o := .lst [.ref q11]) fq6 n12
    have fq7 := up (o := .lst [.ref q11]) fq7 n12
    have fq8 := up (o := .lst [.ref q11]) fq8 n12
    have fq9 := up (o := .lst [.ref q11]) fq9 n12
    have fq10 := up (o := .lst [.ref q11]) fq10 n12
    have fq11 := up (o := .lst [.ref q11]) fq11 n12
    have fq12 : (upd H11 q12 (.lst [.ref q11])) q12 = some (.lst [.ref q11]) := upd_same
    have ss := same_new (o := .lst [.ref q11]) ss n12
    generalize (upd H11 q12 (.lst [.ref q11])) = H12 at ss dp fq1 fq2 fq3 fq4 fq5 fq6 fq7 fq8 fq9 fq10 fq11 fq12 ⊢
    refine ⟨(by show 3 ≤ sizeLine; decide), fun q13 n13 => ?_⟩
    have eq13 : q13 ≠ p := (ne_of_none dp n13).symm
    have dp := up (o := .tup [.str "a", .int 1, .int 2]) dp n13
    have fq1 := up (o := .tup [.str "a", .int 1, .int 2]) fq1 n13
    have fq2 := up (o := .tup [.str "a", .int 1, .int 2]) fq2 n13
    have fq3 := up (o := .tup [.str "a", .int 1, .int 2]) fq3 n13
    have fq4 := up (o := .tup [.str "a", .int 1, .int 2]) fq4 n13
    have fq5 := up (o := .tup [.str "a", .int 1, .int 2]) fq5 n13
    have fq6 := up (o := .tup [.str "a", .int 1, .int 2]) fq6 n13
    have fq7 := up (o := .tup [.str "a", .int 1, .int 2]) fq7 n13
    have fq8 := up (o := .tup [.str "a", .int 1, .int 2]) fq8 n13
    have fq9 := up (o := .tup [.str "a", .int 1, .int 2]) fq9 n13
    have fq10 := up (o := .tup [.str "a", .int 1, .int 2]) fq10 n13
    have fq11 := up (o := .tup [.str "a", .int 1, .int 2]) fq11 n13
    have fq12 := up (o := .tup [.str "a", .int 1, .int 2]) fq12 n13
    have fq13 : (upd H12 q13 (.tup [.str "a", .int 1, .int 2])) q13 = some (.tup [.str "a", .int 1, .int 2]) := upd_same
    have ss := same_new (o := .tup [.str "a", .int 1, .int 2]) ss n13
    generalize (upd H12 q13 (.tup [.str "a", .int 1, .int 2])) = H13 at ss dp fq1 fq2 fq3 fq4 fq5 fq6 fq7 fq8 fq9 fq10 fq11 fq12 fq13 ⊢
    refine ⟨(by show 10 ≤ sizeLine; decide), fun q14 n14 => ?_⟩
    have eq14 : q14 ≠ p := (ne_of_none dp n14).symm
    have dp := up (o := .lst [.str "null", .int (10 ^ (59 : Int).toNat), .ref q8, .ref q9, .ref q10, .str "'a", .str " ", .str "a b", .ref q12, .ref q13]) dp n14
    have fq1 := up (o := .lst [.str "null", .int (10 ^ (59 : Int).toNat), .ref q8, .ref q9, .ref q10, .str "'a", .str " ", .str "a b", .ref q12, .ref q13]) fq1 n14
    have fq2 := up (o := .lst [.str "null", .int (10 ^ (59 : Int).toNat), .ref q8, .ref q9, .ref q10, .str "'a", .str " ", .str "a b", .ref q12, .ref q13]) fq2 n14
    have fq3 := up (o := .lst [.str "null", .int (10 ^ (59 : Int).toNat), .ref q8, .ref q9, .ref q10, .str "'a", .str " ", .str "a b", .ref q12, .ref q13]) fq3 n14
    have fq4 := up (o := .lst [.str "null", .int (10 ^ (59 : Int).toNat), .ref q8, .ref q9, .ref q10, .str "'a", .str " ", .str "a b", .ref q12, .ref q13]) fq4 n14
    have fq5 := up (o := .lst [.str "null", .int (10 ^ (59 : Int).toNat), .ref q8, .ref q9, .ref q10, .str "'a", .str " ", .str "a b", .ref q12, .ref q13]) fq5 n14
    have fq6 := up (o := .lst [.str "null", .int (10 ^ (59 : Int).toNat), .ref q8, .ref q9, .ref q10, .str "'a", .str " ", .str "a b", .ref q12, .ref q13]) fq6 n14
    have fq7 := up (o := .lst [.str "null", .int (10 ^ (59 : Int).toNat), .ref q8, .ref q9, .ref q10, .str "'a", .str " ", .str "a b", .ref q12, .ref q13]) fq7 n14
    have fq8 := up (o := .lst [.str "null", .int (10 ^ (59 : Int).toNat), .ref q8, .ref q9, .ref q10, .str "'a", .str " ", .str "a b", .ref q12, .ref q13]) fq8 n14
    have fq9 := up (o := .lst [.str "null", .int (10 ^ (59 : Int).toNat), .ref q8, .ref q9, .ref q10, .str "'a", .str " ", .str "a b", .ref q12, .ref q13]) fq9 n14
    have fq10 := up (o := .lst [.str "null", .int (10 ^ (59 : Int).toNat), .ref q8, .ref q9, .ref q10, .str "'a", .str " ", .str "a b", .ref q12, .ref q13]) fq10 n14
    have fq11 := up (o := .lst [.str "null", .int (10 ^ (59 : Int).toNat), .ref q8, .ref q9, .ref q10, .str "'a", .str " ", .str "a b", .ref q12, .ref q13]) fq11 n14
    have fq12 := up (o := .lst [.str "null", .int (10 ^ (59 : Int).toNat), .ref q8, .ref q9, .ref q10, .str "'a", .str " ", .str "a b", .ref q12, .ref q13]) fq12 n14
    have fq13 := up (o := .lst [.str "null", .int (10 ^ (59 : Int).toNat), .ref q8, .ref q9, .ref q10, .str "'a", .str " ", .str "a b", .ref q12, .ref q13]) fq13 n14
    have fq14 : (upd H13 q14 (.lst [.str "null", .int (10 ^ (59 : Int).toNat), .ref q8, .ref q9, .ref q10, .str "'a", .str " ", .str "a b", .ref q12, .ref q13])) q14 = some (.lst [.str "null", .int (10 ^ (59 : Int).toNat), .ref q8, .ref q9, .ref q10, .str "'a", .str " ", .str "a b", .ref q12, .ref q13]) := upd_same
    have ss := same_new (o := .lst [.str "null", .int (10 ^ (59 : Int).toNat), .ref q8, .ref q9, .ref q10, .str "'a", .str " ", .str "a b", .ref q12, .ref q13]) ss n14
    generalize (upd H13 q14 (.lst [.str "null", .int (10 ^ (59 : Int).toNat), .ref q8, .ref q9, .ref q10, .str "'a", .str " ", .str "a b", .ref q12, .ref q13])) = H14 at ss dp fq1 fq2 fq3 fq4 fq5 fq6 fq7 fq8 fq9 fq10 fq11 fq12 fq13 fq14 ⊢
    refine ⟨q7, q14, _, _, rfl, rfl, fq7, fq14, (by show 27 ≤ sizeLine; decide), fun q15 n15 => ?_⟩
    have eq15 : q15 ≠ p := (ne_of_none dp n15).symm
    have dp := up (o := .lst ([.non, .bl true, .bl false, .int 0, .int 1, .int (-1), .int (10 ^ (30 : Int).toNat + 1), .str "", .str "a", .str "A", .str "and", .ref q1, .ref q2, .ref q3, .ref q4, .ref q5, .ref q6] ++ [.str "null", .int (10 ^ (59 : Int).toNat), .ref q8, .ref q9, .ref q10, .str "'a", .str " ", .str "a b", .ref q12, .ref q13])) dp n15
    have fq1 := up (o := .lst ([.non, .bl true, .bl false, .int 0, .int 1, .int (-1), .int (10 ^ (30 : Int).toNat + 1), .str "", .str "a", .str "A", .str "and", .ref q1, .ref q2, .ref q3, .ref q4, .ref q5, .ref q6] ++ [.str "null", .int (10 ^ (59 : Int).toNat), .ref q8, .ref q9, .ref q10, .str "'a", .str " ", .str "a b", .ref q12, .ref q13])) fq1 n15
    have fq2 := up (o := .lst ([.non, .bl true, .bl false, .int 0, .int 1, .int (-1), .int (10 ^ (30 : Int).toNat + 1), .str "", .str "a", .str "A", .str "and", .ref q1, .ref q2, .ref q3, .ref q4, .ref q5, .ref q6] ++ [.str "null", .int (10 ^ (59 : Int).toNat), .ref q8, .ref q9, .ref q10, .str "'a", .str " ", .str "a b", .ref q12, .ref q13])) fq2 n15
    have fq3 := up (o := .lst ([.non, .bl true, .bl false, .int 0, .int 1, .int (-1), .int (10 ^ (30 : Int).toNat + 1), .str "", .str "a", .str "A", .str "and", .ref q1, .ref q2, .ref q3, .ref q4, .ref q5, .ref q6] ++ [.str "null", .int (10 ^ (59 : Int).toNat), .ref q8, .ref q9, .ref q10, .str "'a", .str " ", .str "a b", .ref q12, .ref q13])) fq3 n15
    have fq4 := up (o := .lst ([.non, .bl true, .bl false, .int 0, .int 1, .int (-1), .int (10 ^ (30 : Int).toNat + 1), .str "", .str "a", .str "A", .str "and", .ref q1, .ref q2, .ref q3, .ref q4, .ref q5, .ref q6] ++ [.str "null", .int (10 ^ (59 : Int).toNat), .ref q8, .ref q9, .ref q10, .str "'a", .str " ", .str "a b", .ref q12, .ref q13])) fq4 n15
    have fq5 := up (o := .lst ([.non, .bl true, .bl false, .int 0, .int 1, .int (-1), .int (10 ^ (30 : Int).toNat + 1), .str "", .str "a", .str "A", .str "and", .ref q1, .ref q2, .ref q3, .ref q4, .ref q5, .ref q6] ++ [.str "null", .int (10 ^ (59 : Int).toNat), .ref q8, .ref q9, .ref q10, .str "'a", .str " ", .str "a b", .ref q12, .ref q13])) fq5 n15
    have fq6 := up (o := .lst ([.non, .bl true, .bl false, .int 0, .int 1, .int (-1), .int (10 ^ (30 : Int).toNat + 1), .str "", .str "a", .str "A", .str "and", .ref q1, .ref q2, .ref q3, .ref q4, .ref q5, .ref q6] ++ [.str "null", .int (10 ^ (59 : Int).toNat), .ref q8, .ref q9, .ref q10, .str "'a", .str " ", .str "a b", .ref q12, .ref q13])) fq6 n15
    have fq7 := up (o := .lst ([.non, .bl true, .bl false, .int 0, .int 1, .int (-1), .int (10 ^ (30 : Int).toNat + 1), .str "", .str "a", .str "A", .str "and", .ref q1, .ref q2, .ref q3, .ref q4, .ref q5, .ref q6] ++ [.str "null", .int (10 ^ (59 : Int).toNat), .ref q8, .ref q9, .ref q10, .str "'a", .str " ", .str "a b", .ref q12, .ref q13])) fq7 n15
    have fq8 := up (o := .lst ([.non, .bl true, .bl false, .int 0, .int 1, .int (-1), .int (10 ^ (30 : Int).toNat + 1), .str "", .str "a", .str "A", .str "and", .ref q1, .ref q2, .ref q3, .ref q4, .ref q5, .ref q6] ++ [.str "null", .int (10 ^ (59 : Int).toNat), .ref q8, .ref q9, .ref q10, .str "'a", .str " ", .str "a b", .ref q12, .ref q13])) fq8 n15
    have fq9 := up (o := .lst ([.non, .bl true, .bl false, .int 0, .int 1, .int (-1), .int (10 ^ (30 : Int).toNat + 1), .str "", .str "a", .str "A", .str "and", .ref q1, .ref q2, .ref q3, .ref q4, .ref q5, .ref q6] ++ [.str "null", .int (10 ^ (59 : Int).toNat), .ref q8, .ref q9, .ref q10, .str "'a", .str " ", .str "a b", .ref q12, .ref q13])) fq9 n15
    have fq10 := up (o := .lst ([.non, .bl true, .bl false, .int 0, .int 1, .int (-1), .int (10 ^ (30 : Int).toNat + 1), .str "", .str "a", .str "A", .str "and", .ref q1, .ref q2, .ref q3, .ref q4, .ref q5, .ref q6] ++ [.str "null", .int (10 ^ (59 : Int).toNat), .ref q8, .ref q9, .ref q10, .str "'a", .str " ", .str "a b", .ref q12, .ref q13])) fq10 n15
    have fq11 := up (o := .lst ([.non, .bl true, .bl false, .int 0, .int 1, .int (-1), .int (10 ^ (30 : Int).toNat + 1), .str "", .str "a", .str "A", .str "and", .ref q1, .ref q2, .ref q3, .ref q4, .ref q5, .ref q6] ++ [.str "null", .int (10 ^ (59 : Int).toNat), .ref q8, .ref q9, .ref q10, .str "'a", .str " ", .str "a b", .ref q12, .ref q13])) fq11 n15
    have fq12 := up (o := .lst ([.non, .bl true, .bl false, .int 0, .int 1, .int (-1), .int (10 ^ (30 : Int).toNat + 1), .str "", .str "a", .str "A", .str "and", .ref q1, .ref q2, .ref q3, .ref q4, .ref q5, .ref q6] ++ [.str "null", .int (10 ^ (59 : Int).toNat), .ref q8, .ref q9, .ref q10, .str "'a", .str " ", .str "a b", .ref q12, .ref q13])) fq12 n15
    have fq13 := up (o := .lst ([.non, .bl true, .bl false, .int 0, .int 1, .int (-1), .int (10 ^ (30 : Int).toNat + 1), .str "", .str "a", .str "A", .str "and", .ref q1, .ref q2, .ref q3, .ref q4, .ref q5, .ref q6] ++ [.str "null", .int (10 ^ (59 : Int).toNat), .ref q8, .ref q9, .ref q10, .str "'a", .str " ", .str "a b", .ref q12, .ref q13])) fq13 n15
    have fq14 := up (o := .lst ([.non, .bl true, .bl false, .int 0, .int 1, .int (-1), .int (10 ^ (30 : Int).toNat + 1), .str "", .str "a", .str "A", .str "and", .ref q1, .ref q2, .ref q3, .ref q4, .ref q5, .ref q6] ++ [.str "null", .int (10 ^ (59 : Int).toNat), .ref q8, .ref q9, .ref q10, .str "'a", .str " ", .str "a b", .ref q12, .ref q13])) fq14 n15
    have fq15 : (upd H14 q15 (.lst ([.non, .bl true, .bl false, .int 0, .int 1, .int (-1), .int (10 ^ (30 : Int).toNat + 1), .str "", .str "a", .str "A", .str "and", .ref q1, .ref q2, .ref q3, .ref q4, .ref q5, .ref q6] ++ [.str "null", .int (10 ^ (59 : Int).toNat), .ref q8, .ref q9, .ref q10, .str "'a", .str " ", .str "a b", .ref q12, .ref q13]))) q15 = some (.lst ([.non, .bl true, .bl false, .int 0, .int 1, .int (-1), .int (10 ^ (30 : Int).toNat + 1), .str "", .str "a", .str "A", .str "and", .ref q1, .ref q2, .ref q3, .ref q4, .ref q5, .ref q6] ++ [.str "null", .int (10 ^ (59 : Int).toNat), .ref q8, .ref q9, .ref q10, .str "'a", .str " ", .str "a b", .ref q12, .ref q13])) := upd_same
    have ss := same_new (o := .lst ([.non, .bl true, .bl false, .int 0, .int 1, .int (-1), .int (10 ^ (30 : Int).toNat + 1), .str "", .str "a", .str "A", .str "and", .ref q1, .ref q2, .ref q3, .ref q4, .ref q5, .ref q6] ++ [.str "null", .int (10 ^ (59 : Int).toNat), .ref q8, .ref q9, .ref q10, .str "'a", .str " ", .str "a b", .ref q12, .ref q13])) ss n15
    generalize (upd H14 q15 (.lst ([.non, .bl true, .bl false, .int 0, .int 1, .int (-1), .int (10 ^ (30 : Int).toNat + 1), .str "", .str "a", .str "A", .str "and", .ref q1, .ref q2, .ref q3, .ref q4, .ref q5, .ref q6] ++ [.str "null", .int (10 ^ (59 : Int).toNat), .ref q8, .ref q9, .ref q10, .str "'a", .str " ", .str "a b", .ref q12, .ref q13]))) = H15 at ss dp fq1 fq2 fq3 fq4 fq5 fq6 fq7 fq8 fq9 fq10 fq11 fq12 fq13 fq14 fq15 ⊢
    refine ⟨_, rfl, _, rfl, p, c, q15, ns, t, l, _, rfl, D.same ss, ht, SqL.of fq15, (by simp), (by show 27 < 1000000; decide), fun x t' l' H' hx h1 D' b => ?_⟩
    have bb : But p H H' := (But.of ss).trans b
    have gq1 := b _ _ eq1 fq1
    have gq2 := b _ _ eq2 fq2
    have gq3 := b _ _ eq3 fq3
    have gq4 := b _ _ eq4 fq4
    have gq5 := b _ _ eq5 fq5
    have gq6 := b _ _ eq6 fq6
    have gq8 := b _ _ eq8 fq8
    have gq9 := b _ _ eq9 fq9
    have gq10 := b _ _ eq10 fq10
    have gq11 := b _ _ eq11 fq11
    have gq12 := b _ _ eq12 fq12
    have gq13 := b _ _ eq13 fq13
    rcases List.mem_cons.mp hx with rfl | hx
    · exact k _ (.none) t' l' H' (.dp .non rfl) (by decide +kernel) h1 D' bb
    rcases List.mem_cons.mp hx with rfl | hx
    · exact k _ (.bool true) t' l' H' (.dp (.bl _) rfl) (by decide +kernel) h1 D' bb
    rcases List.mem_cons.mp hx with rfl | hx
    · exact k _ (.bool false) t' l' H' (.dp (.bl _) rfl) (by decide +kernel) h1 D' bb
    rcases List.mem_cons.mp hx with rfl | hx
    · exact k _ (.int 0) t' l' H' (.dp (.int _) rfl) (by decide +kernel) h1 D' bb
    rcases List.mem_cons.mp hx with rfl | hx
    · exact k _ (.int 1) t' l' H' (.dp (.int _) rfl) (by decide +kernel) h1 D' bb
    rcases List.mem_cons.mp hx with rfl | hx
    · exact k _ (.int (-1)) t' l' H' (.dp (.int _) rfl) (by decide +kernel) h1 D' bb
    rcases List.mem_cons.mp hx with rfl | hx
    · exact k _ (.int (10 ^ (30 : Int).toNat + 1)) t' l' H' (.dp (.int _) rfl) (by decide +kernel) h1 D' bb
    rcases List.mem_cons.mp hx with rfl | hx
    · exact k _ (.str "") t' l' H' (.dp (.str _) rfl) (by decide +kernel) h1 D' bb
    rcases List.mem_cons.mp hx with rfl | hx
    · exact k _ (.str "a") t' l' H' (.dp (.str _) rfl) (by decide +kernel) h1 D' bb
    rcases List.mem_cons.mp hx with rfl | hx
    · exact k _ (.str "A") t' l' H' (.dp (.str _) rfl) (by decide +kernel) h1 D' bb
    rcases List.mem_cons.mp hx with rfl | hx
    · exact k _ (.str "and") t' l' H' (.dp (.str _) rfl) (by decide +kernel) h1 D' bb
    rcases List.mem_cons.mp hx with rfl | hx
    · exact k _ (.tuple []) t' l' H' (.dp (.tup (SqT.of gq1) .nil) rfl) (by decide +kernel) h1 D' bb
    rcases List.mem_cons.mp hx with rfl | hx
    · exact k _ (.tuple [.int 1]) t' l' H' (.dp (.tup (SqT.of gq2) (.cons (.int _) .nil)) rfl) (by decide +kernel) h1 D' bb
    rcases List.mem_cons.mp hx with rfl | hx
    · exact k _ (.list [.int 1]) t' l' H' (.dp (.lst (SqL.of gq3) (.cons (.int _) .nil)) rfl) (by decide +kernel) h1 D' bb
    rcases List.mem_cons.mp hx with rfl | hx
    · exact k _ (.dict []) t' l' H' (.d0 gq4) (by decide +kernel) h1 D' bb
    rcases List.mem_cons.mp hx with rfl | hx
    · exact k _ (.dict [(.str "a", .int 1)]) t' l' H' (.d1 gq5) (by decide +kernel) h1 D' bb
    rcases List.mem_cons.mp hx with rfl | hx
    · exact k _ (.tuple [.none]) t' l' H' (.dp (.tup (SqT.of gq6) (.cons .non .nil)) rfl) (by decide +kernel) h1 D' bb
    rcases List.mem_cons.mp hx with rfl | hx
    · exact k _ (.str "null") t' l' H' (.dp (.str _) rfl) (by decide +kernel) h1 D' bb
    rcases List.mem_cons.mp hx with rfl | hx
    · exact k _ (.int (10 ^ (59 : Int).toNat)) t' l' H' (.dp (.int _) rfl) (by decide +kernel) h1 D' bb
    rcases List.mem_cons.mp hx with rfl | hx
    · exact k _ (.tuple [.str "-"]) t' l' H' (.dp (.tup (SqT.of gq8) (.cons (.str _) .nil)) rfl) (by decide +kernel) h1 D' bb
    rcases List.mem_cons.mp hx with rfl | hx
    · exact k _ (.tuple [.str "+", .str "-"]) t' l' H' (.dp (.tup (SqT.of gq9) (.cons (.str _) (.cons (.str _) .nil))) rfl) (by decide +kernel) h1 D' bb
    rcases List.mem_cons.mp hx with rfl | hx
    · exact k _ (.tuple [.int 1, .str "a"]) t' l' H' (.dp (.tup (SqT.of gq10) (.cons (.int _) (.cons (.str _) .nil))) rfl) (by decide +kernel) h1 D' bb
    rcases List.mem_cons.mp hx with rfl | hx
    · exact k _ (.str "'a") t' l' H' (.dp (.str _) rfl) (by decide +kernel) h1 D' bb
    rcases List.mem_cons.mp hx with rfl | hx
    · exact k _ (.str " ") t' l' H' (.dp (.str _) rfl) (by decide +kernel) h1 D' bb
    rcases List.mem_cons.mp hx with rfl | hx
    · exact k _ (.str "a b") t' l' H' (.dp (.str _) rfl) (by decide +kernel) h1 D' bb
    rcases List.mem_cons.mp hx with rfl | hx
    · exact k _ (.list [.tuple [.str "a", .int 1]]) t' l' H' (.dp (.lst (SqL.of gq12) (.cons (.tup (SqT.of gq11) (.cons (.str _) (.cons (.int _) .nil))) .nil)) rfl) (by decide +kernel) h1 D' bb
    rcases List.mem_cons.mp hx with rfl | hx
    · exact k _ (.tuple [.str "a", .int 1, .int 2]) t' l' H' (.dp (.tup (SqT.of gq13) (.cons (.str _) (.cons (.int _) (.cons (.int _) .nil)))) rfl) (by decide +kernel) h1 D' bb
    cases hx
end
end K01
set_option Elab.async false
set_option linter.all false
set_option maxRecDepth 100000
set_option maxHeartbeats 4000000
namespace K01
open K34 PySem PySem.Spec PyProof.Rows L2
def spPickS (K : PySem.W.Frag) : Sp := fun vs H Q _ => ∃ (p c : Addr) (ns : List Int) (t l : Int) (z : Str), vs = [.ref p, .str z] ∧ PenAt H p c ns t l ∧ t < 1000000000000 ∧ 0 < z.length ∧ z.length < 1000000 ∧
  ∀ (x : Nat) (t' l' : Int) (H' : Hp), x ∈ z.cps.toList → t' ≤ t + 1 → PenAt H' p c ns t' l' → But p H H' → Q (.str ⟨#[x]⟩) H'
/-- a value that some column may have, or any other one -/
def spVal (K : PySem.W.Frag) (m : Int) (vs0 : List V → Addr → Prop) : Sp := fun vs H Q _ => ∃ (p c : Addr) (ns : List Int) (t l : Int), vs0 vs p ∧ PenAt H p c ns t l ∧ t + m < 1000000000000 ∧
  ∀ (v : V) (d : PyData) (t' l' : Int) (H' : Hp), Th K H' v d → sOk d = true → t' ≤ t + m → PenAt H' p c ns t' l' → But p H H' → Q v H'
theorem scValue : FnScope ["_law_pen_here", "_law_sort", "_law_small"] ["_law_pen_here", "_law_sort"] (defScope sValue) := ⟨rfl, rfl, rfl, by decide +kernel, rfl, by decide +kernel, by decide +kernel⟩
theorem scSomeV : FnScope ["_law_pen_here", "_law_some"] ["_law_pen_here"] (defScope sSomeV) := ⟨rfl, rfl, rfl, by decide +kernel, rfl, by decide +kernel, by decide +kernel⟩
section
variable {P : Program} {w : World} {K : PySem.W.Frag} {mg : Str → Option Value} {base : Heap} {f fD fP fA fV : Addr} {fd fdD fdP fdA fdV : FuncData}
theorem ok_pickS (F : FnP K "_law_pick" sPick f fd) (T : TxB mg) (FD : FnP K "_law_draw" sDraw fD fdD) (gD : mg "_law_draw" = some (.ref fD)) : FnOk P w K mg base CX0 2 f fd ["_law_pen_here", "_law_options"] (spPickS K) := by
  have GD : FnOk P w K mg base CX0 1 fD fdD ["_law_pen_here", "_law_many"] spDraw := ok_draw FD T
  have bD : Binds K fdD ["_law_pen_here", "_law_many"] [] := FD.bindsN fun _ _ _ _ _ _ us hl => match us, hl with | [_, _], _ => rfl
  have kD := FD.kp
  refine F.ok scPick (fun vs H Q E h => ?_) (fun cdv A outer s H vs Q E hr h => ?_)
  · obtain ⟨p, c, ns, t, l, z, rfl, _⟩ := h
    rfl
  · obtain ⟨p, c, ns, t, l, z, rfl, D, ht, h0, h1, k⟩ := h
    have nd := scPick.nd
    refine ⟨_, PSs.nox (pss_one (ps_ret (pe_ix ix_str (pv 1) (pe_call GD hr rfl gD kD bD .nil pass0 (pa_cons (pv 0) (pa_cons (pe_callB call_len_str (by rfl) T.len (by decide +kernel) (pa_cons (pv 1) pa_nil)) pa_nil))) (fun _ _ => rfl)))), ?_⟩
    have hz : z.length ≤ sizeLine := by rw [sizeLine_eq]; omega
    refine ⟨_, rfl, _, rfl, _, rfl, z, rfl, hz, p, c, ns, t, l, _, rfl, D, ht, by omega, by omega, fun j t' l' H' j0 j1 h2 D' b => ?_⟩
    obtain ⟨n, rfl⟩ : ∃ n : Nat, j = (n : Int) := ⟨j.toNat, by omega⟩
    have hjl : n < z.cps.toList.length := by
      have : (n : Int) < (z.length : Int) := j1
      have e : z.length = z.cps.toList.length := (Array.length_toList).symm
      omega
    exact ⟨z, (n : Int), z.cps.toList[n], rfl, rfl, hz, atI_nat (List.getElem?_eq_getElem hjl), k _ t' l' H' (List.getElem_mem hjl) h2 D' b⟩
theorem dp_but {K : PySem.W.Frag} {H H' : Hp} (e : ∀ b o, (∀ kvs, o ≠ HO.dK kvs) → H b = some o → H' b = some o) : ∀ (d : PyData) (v : V), Dp K H v d → Dp K H' v d := by
  have sT : ∀ {a : Addr} {xs : List V}, SqT K H a xs → SqT K H' a xs := fun {a xs} h => by
    rcases h with (h | ⟨o, h⟩) | h
    · exact .inl (.inl (e _ _ (fun _ z => by cases z) h))
    · exact .inl (.inr ⟨o, e _ _ (fun _ z => by cases z) h⟩)
    · exact .inr h
  have sL : ∀ {a : Addr} {xs : List V}, SqL K H a xs → SqL K H' a xs := fun {a xs} h => by
    rcases h with (h | ⟨o, h⟩) | h
    · exact .inl (.inl (e _ _ (fun _ z => by cases z) h))
    · exact .inl (.inr ⟨o, e _ _ (fun _ z => by cases z) h⟩)
    · exact .inr h
  intro d v h
  exact Dp.rec (motive_1 := fun v d _ => Dp K H' v d) (motive_2 := fun vs ds _ => DpAll K H' vs ds) .non .bl .int .str (fun h1 _ ih => .lst (sL h1) ih) (fun h1 _ ih => .tup (sT h1) ih) .nil (fun _ _ i1 i2 => .cons i1 i2) h
/-- a datum stands while the pen is written -/
theorem th_but {K : PySem.W.Frag} {H H' : Hp} {p c : Addr} {t l : Int} {v : V} {d : PyData} (hp : H p = some (.dK (penK c t l))) (b : But p H H') (h : Th K H v d) : Th K H' v d := by
  cases h with
  | dp h n => exact .dp (dp_but (fun a o no e => b a o (fun z => no _ (by rw [z, hp] at e; exact (Option.some.inj e).symm)) e) _ _ h) n
  | @d0 a h =>
    exact .d0 (b a _ (fun z => by rw [z, hp] at h; cases h) h)
  | @d1 a h =>
    exact .d1 (b a _ (fun z => by rw [z, hp] at h; cases h) h)
theorem pen_new {H : Hp} {q p c : Addr} {ns : List Int} {t l : Int} {o : HO} (D : PenAt H p c ns t l) (n : H q = none) : PenAt (upd H q o) p c ns t l := D.same (same_new (Same.refl H) n)
theorem ok_value (F : FnP K "_law_value" sValue f fd) (T : TxB mg) (FD : FnP K "_law_draw" sDraw fD fdD) (gD : mg "_law_draw" = some (.ref fD)) (FP : FnP K "_law_pick" sPick fP fdP) (gP : mg "_law_pick" = some (.ref fP)) :
    FnOk P w K mg base CX0 3 f fd ["_law_pen_here", "_law_sort"] (spVal K 3 fun vs p => ∃ z, vs = [.ref p, .str z]) := by
  have GD : FnOk P w K mg base CX0 1 fD fdD ["_law_pen_here", "_law_many"] spDraw := ok_draw FD T
  have bD : Binds K fdD ["_law_pen_here", "_law_many"] [] := FD.bindsN fun _ _ _ _ _ _ us hl => match us, hl with | [_, _], _ => rfl
  have kD := FD.kp
  have GP : FnOk P w K mg base CX0 2 fP fdP ["_law_pen_here", "_law_options"] (spPick K) := ok_pick FP T FD gD
  have bP : Binds K fdP ["_law_pen_here", "_law_options"] [] := FP.bindsN fun _ _ _ _ _ _ us hl => match us, hl with | [_, _], _ => rfl
  have kP := FP.kp
  refine F.ok scValue (fun vs H Q E h => ?_) (fun cdv A outer s H vs Q E hr h => ?_)
  · obtain ⟨p, c, ns, t, l, ⟨z, rfl⟩, _⟩ := h
    rfl
  · obtain ⟨p, c, ns, t, l, ⟨z, rfl⟩, D, ht, k⟩ := h
    have nd := scValue.nd
    refine ⟨_, PSs.nox (pss_cons (ps_if (pt_cmpR op_eq (pv 1) pe_str (nomark _))
        (pss_one (ps_ret (pe_call GP (hr.mono (by decide)) rfl gP kP bP .nil pass0 (pa_cons (pv 0) (pa_cons (pe_lst (pa_cons pe_str (pa_cons pe_str (pa_cons pe_str (pa_cons pe_str (pa_cons pe_str (pa_cons pe_str (pa_cons pe_str (pa_cons pe_str (pa_cons pe_str (pa_cons pe_str pa_nil))))))))))) pa_nil))))) pss_nil)
      (pss_cons (ps_set (i := 2) nd rfl (Or.inl rfl) (pe_op op_sub (pe_call GD (hr.mono (by decide)) rfl gD kD bD .nil pass0 (pa_cons (pv 0) (pa_cons pe_int pa_nil))) pe_int))
      (pss_one (ps_ret (pe_call GP (hr.mono (by decide)) rfl gP kP bP .nil pass0 (pa_cons (pv 0) (pa_cons (pe_lst (pa_cons (pv 2) (pa_cons (pv 2) (pa_cons (pv 2) (pa_cons (pv 2) (pa_cons (pv 2) (pa_cons (pe_op op_pow pe_int pe_int) (pa_cons (pe_un un_neg (pe_op op_pow pe_int pe_int)) (pa_cons (pe_op op_sub (pe_call GD (hr.mono (by decide)) rfl gD kD bD .nil pass0 (pa_cons (pv 0) (pa_cons pe_int pa_nil))) pe_int) pa_nil))))))))) pa_nil))))))), ?_⟩
    refine ⟨_, rfl, rfl, _, rfl, ?_⟩
    refine ite2 (fun _ => ?_) (fun _ => ?_)
    · refine ⟨_, rfl, (by show 10 ≤ sizeLine; decide), fun q hq => ?_⟩
      refine ⟨p, c, q, ns, t, l, _, rfl, pen_new D hq, by omega, SqL.of upd_same, by simp, (by show 10 < 1000000; decide), fun x t' l' H' hx h1 D' b => ?_⟩
      obtain ⟨y, hy, rfl⟩ : ∃ y ∈ (["a", "aa", "ab", "b", "ba", "c", "m", "zz", "zzzzzzzz", "zzzzzzzy"] : List Str), x = V.str y := by
        have hx : x ∈ (["a", "aa", "ab", "b", "ba", "c", "m", "zz", "zzzzzzzz", "zzzzzzzy"] : List Str).map V.str := hx
        obtain ⟨y, h1, h2⟩ := List.mem_map.mp hx
        exact ⟨y, h1, h2.symm⟩
      have so : ∀ y ∈ (["a", "aa", "ab", "b", "ba", "c", "m", "zz", "zzzzzzzz", "zzzzzzzy"] : List Str), sOk (.str y) = true := by decide +kernel
      exact k _ (.str y) t' l' H' (.dp (.str y) rfl) (so y hy) (by omega) D' ((But.of (same_new (Same.refl H) hq)).trans b)
    · refine ⟨_, rfl, p, c, ns, t, l, 9, rfl, D, by omega, by decide, by decide, fun j t1 l1 H1 j0 j1 h1 D1 b1 => ?_⟩
      refine ⟨_, _, rfl, rfl, _, rfl, _, rfl, _, rfl, _, rfl, _, rfl, _, rfl, _, _, rfl, rfl, ⟨by decide, by decide, by decide⟩, _, _, rfl, rfl, ⟨by decide, by decide, by decide⟩, _, rfl, ?_⟩
      refine ⟨_, rfl, p, c, ns, t1, l1, 200, rfl, D1, by omega, by decide, by decide, fun j2 t2 l2 H2 j3 j4 h2 D2 b2 => ?_⟩
      refine ⟨_, _, rfl, rfl, (by show 8 ≤ sizeLine; decide), fun q hq => ?_⟩
      refine ⟨p, c, q, ns, t2, l2, _, rfl, pen_new D2 hq, by omega, SqL.of upd_same, by simp, (by show 8 < 1000000; decide), fun x t' l' H' hx h3 D' b => ?_⟩
      obtain ⟨i, rfl⟩ : ∃ i, x = V.int i := by
        simp only [List.mem_cons, List.not_mem_nil, or_false] at hx
        rcases hx with h | h | h | h | h | h | h | h <;> exact ⟨_, h⟩
      exact k _ (.int i) t' l' H' (.dp (.int i) rfl) rfl (by omega) D' (((b1.trans b2).anew hq).trans b)
theorem ok_somev (F : FnP K "_law_some_value" sSomeV f fd) (T : TxB mg) (FD : FnP K "_law_draw" sDraw fD fdD) (gD : mg "_law_draw" = some (.ref fD)) (FP : FnP K "_law_pick" sPick fP fdP) (gP : mg "_law_pick" = some (.ref fP))
    (FA : FnP K "_law_any_value" sAny fA fdA) (gA : mg "_law_any_value" = some (.ref fA)) (FV : FnP K "_law_value" sValue fV fdV) (gV : mg "_law_value" = some (.ref fV)) :
    FnOk P w K mg base CX0 4 f fd ["_law_pen_here"] (spVal K 13 fun vs p => vs = [.ref p]) := by
  have GP : FnOk P w K mg base CX0 2 fP fdP ["_law_pen_here", "_law_options"] (spPick K) := ok_pick FP T FD gD
  have bP : Binds K fdP ["_law_pen_here", "_law_options"] [] := FP.bindsN fun _ _ _ _ _ _ us hl => match us, hl with | [_, _], _ => rfl
  have kP := FP.kp
  have GA : FnOk P w K mg base CX0 3 fA fdA ["_law_pen_here"] (spAny K) := ok_any FA T FD gD FP gP
  have bA : Binds K fdA ["_law_pen_here"] [] := FA.bindsN fun _ _ _ _ _ _ us hl => match us, hl with | [_], _ => rfl
  have kA := FA.kp
  have GV : FnOk P w K mg base CX0 3 fV fdV ["_law_pen_here", "_law_sort"] (spVal K 3 fun vs p => ∃ z, vs = [.ref p, .str z]) := ok_value FV T FD gD FP gP
  have bV : Binds K fdV ["_law_pen_here", "_law_sort"] [] := FV.bindsN fun _ _ _ _ _ _ us hl => match us, hl with | [_, _], _ => rfl
  have kV := FV.kp
  refine F.ok scSomeV (fun vs H Q E h => ?_) (fun cdv A outer s H vs Q E hr h => ?_)
  · obtain ⟨p, c, ns, t, l, rfl, _⟩ := h
    rfl
  · obtain ⟨p, c, ns, t, l, rfl, D, ht, k⟩ := h
    have nd := scSomeV.nd
    refine ⟨_, PSs.nox (pss_cons (ps_set (i := 1) nd rfl (Or.inl rfl) (pe_lst (pa_cons (pe_op op_pow pe_int pe_int) (pa_cons (pe_un un_neg (pe_op op_pow pe_int pe_int)) (pa_cons (pe_op op_add (pe_op op_pow pe_int pe_int) pe_int) (pa_cons (pe_op op_sub (pe_un un_neg (pe_op op_pow pe_int pe_int)) pe_int) (pa_cons pe_str (pa_cons pe_str (pa_cons pe_str (pa_cons pe_str (pa_cons pe_bl (pa_cons pe_non pa_nil))))))))))))
      (pss_cons (ps_set (i := 1) nd rfl (Or.inl rfl) (pe_op op_cat (pv 1) (pe_lst (pa_cons pe_str (pa_cons pe_str pa_nil)))))
      (pss_cons (ps_set (i := 1) nd rfl (Or.inl rfl) (pe_op op_cat (pv 1) (pe_lst (pa_cons (pe_call GA hr rfl gA kA bA .nil pass0 (pa_cons (pv 0) pa_nil)) (pa_cons (pe_call GA hr rfl gA kA bA .nil pass0 (pa_cons (pv 0) pa_nil)) (pa_cons (pe_call GA hr rfl gA kA bA .nil pass0 (pa_cons (pv 0) pa_nil)) pa_nil))))))
      (pss_one (ps_ret (pe_call GP (hr.mono (by decide)) rfl gP kP bP .nil pass0 (pa_cons (pv 0) (pa_cons (pe_op op_cat (pv 1) (pe_lst (pa_cons (pe_call GV hr rfl gV kV bV .nil pass0 (pa_cons (pv 0) (pa_cons pe_str pa_nil))) (pa_cons (pe_call GV hr rfl gV kV bV .nil pass0 (pa_cons (pv 0) (pa_cons pe_str pa_nil))) (pa_cons (pe_call GV hr rfl gV kV bV .nil pass0 (pa_cons (pv 0) (pa_cons pe_str pa_nil))) pa_nil))))) pa_nil)))))))), ?_⟩
    have so : ∀ d ∈ ([.int (10 ^ (30 : Int).toNat), .int (-(10 ^ (30 : Int).toNat)), .int (10 ^ (30 : Int).toNat + 1), .int (-(10 ^ (30 : Int).toNat) - 1), .str "zzzzzzzz", .str "zzzzzzzza", .str "limit", .str "null", .bool true, .none, .str "a\n", .str "zzzzzzz\n"] : List PyData), sOk d = true := by decide +kernel
    refine ⟨_, _, rfl, rfl, ⟨by decide, by decide, by decide⟩, _, _, rfl, rfl, ⟨by decide, by decide, by decide⟩, _, rfl, _, _, rfl, rfl, ⟨by decide, by decide, by decide⟩, _, _, rfl, rfl, _, _, rfl, rfl, ⟨by decide, by decide, by decide⟩, _, rfl, _, _, rfl, rfl, (by show 10 ≤ sizeLine; decide), fun q1 n1 => ?_⟩
    -- a list of values: each a datum; it stands while the heap grows but for the pen
    let L1 : List V := [.int (10 ^ (30 : Int).toNat), .int (-(10 ^ (30 : Int).toNat)), .int (10 ^ (30 : Int).toNat + 1), .int (-(10 ^ (30 : Int).toNat) - 1), .str "zzzzzzzz", .str "zzzzzzzza", .str "limit", .str "null", .bl true, .non]
    have g1 : ∀ H' : Hp, ∀ x ∈ L1, ∃ d, Th K H' x d ∧ sOk d = true := by
      intro H' x hx
      simp only [L1, List.mem_cons, List.not_mem_nil, or_false] at hx
      rcases hx with rfl | rfl | rfl | rfl | rfl | rfl | rfl | rfl | rfl | rfl
      · exact ⟨_, .dp (.int _) rfl, rfl⟩
      · exact ⟨_, .dp (.int _) rfl, rfl⟩
      · exact ⟨_, .dp (.int _) rfl, rfl⟩
      · exact ⟨_, .dp (.int _) rfl, rfl⟩
      · exact ⟨_, .dp (.str _) rfl, so (.str "zzzzzzzz") (by simp)⟩
      · exact ⟨_, .dp (.str _) rfl, so (.str "zzzzzzzza") (by simp)⟩
      · exact ⟨_, .dp (.str _) rfl, so (.str "limit") (by simp)⟩
      · exact ⟨_, .dp (.str _) rfl, so (.str "null") (by simp)⟩
      · exact ⟨_, .dp (.bl _) rfl, rfl⟩
      · exact ⟨_, .dp .non rfl, rfl⟩
    have f1 : (upd H q1 (.lst L1)) q1 = some (.lst L1) := upd_same
    have D1 := pen_new (o := .lst L1) D n1
    have b1 : But p H (upd H q1 (.lst L1)) := (But.refl p H).anew n1
    generalize upd H q1 (.lst L1) = H1 at f1 D1 b1 ⊢
    refine ⟨_, rfl, (by show 2 ≤ sizeLine; decide), fun q2 n2 => ?_⟩
    have f1 := up (o := .lst [.str "a\n", .str "zzzzzzz\n"]) f1 n2
    have f2 : (upd H1 q2 (.lst [.str "a\n", .str "zzzzzzz\n"])) q2 = some (.lst [.str "a\n", .str "zzzzzzz\n"]) := upd_same
    have D2 := pen_new (o := .lst [.str "a\n", .str "zzzzzzz\n"]) D1 n2
    have b2 := b1.anew (o := .lst [.str "a\n", .str "zzzzzzz\n"]) n2
    generalize upd H1 q2 (.lst [.str "a\n", .str "zzzzzzz\n"]) = H2 at f1 f2 D2 b2 ⊢
    refine ⟨q1, q2, _, _, rfl, rfl, f1, f2, (by show 12 ≤ sizeLine; decide), fun q3 n3 => ?_⟩
    let L2' : List V := L1 ++ [.str "a\n", .str "zzzzzzz\n"]
    have g2 : ∀ H' : Hp, ∀ x ∈ L2', ∃ d, Th K H' x d ∧ sOk d = true := by
      intro H' x hx
      rcases List.mem_append.mp hx with hx | hx
      · exact g1 H' x hx
      · simp only [List.mem_cons, List.not_mem_nil, or_false] at hx
        rcases hx with rfl | rfl
        · exact ⟨_, .dp (.str _) rfl, so (.str "a\n") (by simp)⟩
        · exact ⟨_, .dp (.str _) rfl, so (.str "zzzzzzz\n") (by simp)⟩
    have f3 : (upd H2 q3 (.lst L2')) q3 = some (.lst L2') := upd_same
    have D3 := pen_new (o := .lst L2') D2 n3
    have b3 := b2.anew (o := .lst L2') n3
    have e3 : q3 ≠ p := (ne_of_none D2.d n3).symm
    generalize upd H2 q3 (.lst L2') = H3 at f3 D3 b3 ⊢
    refine ⟨_, rfl, _, rfl, p, c, ns, t, l, rfl, D3, by omega, fun v4 d4 t4 l4 H4 th4 a4 h4 D4 b4 => ?_⟩
    refine ⟨_, rfl, p, c, ns, t4, l4, rfl, D4, by omega, fun v5 d5 t5 l5 H5 th5 a5 h5 D5 b5 => ?_⟩
    refine ⟨_, rfl, p, c, ns, t5, l5, rfl, D5, by omega, fun v6 d6 t6 l6 H6 th6 a6 h6 D6 b6 => ?_⟩
    have th4 := th_but D5.d b6 (th_but D4.d b5 th4)
    have th5 := th_but D5.d b6 th5
    have f3 := b6 _ _ e3 (b5 _ _ e3 (b4 _ _ e3 f3))
    have b6' := ((b3.trans b4).trans b5).trans b6
    have g6 : ∀ x ∈ ([v4, v5, v6] : List V), ∃ d, Th K H6 x d ∧ sOk d = true := by
      intro x hx
      simp only [List.mem_cons, List.not_mem_nil, or_false] at hx
      rcases hx with rfl | rfl | rfl
      · exact ⟨_, th4, (Bool.and_eq_true_iff.mp a4).2⟩
      · exact ⟨_, th5, (Bool.and_eq_true_iff.mp a5).2⟩
      · exact ⟨_, th6, (Bool.and_eq_true_iff.mp a6).2⟩
    refine ⟨(by show 3 ≤ sizeLine; decide), fun q7 n7 => ?_⟩
    have f3 := up (o := .lst [v4, v5, v6]) f3 n7
    have f7 : (upd H6 q7 (.lst [v4, v5, v6])) q7 = some (.lst [v4, v5, v6]) := upd_same
    have D7 := pen_new (o := .lst [v4, v5, v6]) D6 n7
    have b7 := b6'.anew (o := .lst [v4, v5, v6]) n7
    have s7 : Same H6 (upd H6 q7 (.lst [v4, v5, v6])) := same_new (Same.refl H6) n7
    have g7 : ∀ x ∈ ([v4, v5, v6] : List V), ∃ d, Th K (upd H6 q7 (.lst [v4, v5, v6])) x d ∧ sOk d = true := fun x hx => by
      obtain ⟨d, h1, h2⟩ := g6 x hx
      exact ⟨d, h1.same s7, h2⟩
    generalize upd H6 q7 (.lst [v4, v5, v6]) = H7 at f3 f7 D7 b7 g7 ⊢
    refine ⟨q3, q7, _, _, rfl, rfl, f3, f7, (by show 15 ≤ sizeLine; decide), fun q8 n8 => ?_⟩
    have f8 : (upd H7 q8 (.lst (L2' ++ [v4, v5, v6]))) q8 = some (.lst (L2' ++ [v4, v5, v6])) := upd_same
    have D8 := pen_new (o := .lst (L2' ++ [v4, v5, v6])) D7 n8
    have b8 := b7.anew (o := .lst (L2' ++ [v4, v5, v6])) n8
    have e8 : q8 ≠ p := (ne_of_none D7.d n8).symm
    have s8 : Same H7 (upd H7 q8 (.lst (L2' ++ [v4, v5, v6]))) := same_new (Same.refl H7) n8
    have g8 : ∀ x ∈ L2' ++ [v4, v5, v6], ∃ d, Th K (upd H7 q8 (.lst (L2' ++ [v4, v5, v6]))) x d ∧ sOk d = true := fun x hx => by
      rcases List.mem_append.mp hx with hx | hx
      · exact g2 _ x hx
      · obtain ⟨d, h1, h2⟩ := g7 x hx
        exact ⟨d, h1.same s8, h2⟩
    generalize upd H7 q8 (.lst (L2' ++ [v4, v5, v6])) = H8 at f8 D8 b8 g8 ⊢
    refine ⟨_, rfl, _, rfl, _, rfl, p, c, ns, t6, l6, ⟨_, rfl⟩, D8, by omega, fun v9 d9 t9 l9 H9 th9 a9 h9 D9 b9 => ?_⟩
    refine ⟨_, rfl, p, c, ns, t9, l9, ⟨_, rfl⟩, D9, by omega, fun v10 d10 t10 l10 H10 th10 a10 h10 D10 b10 => ?_⟩
    refine ⟨_, rfl, p, c, ns, t10, l10, ⟨_, rfl⟩, D10, by omega, fun v11 d11 t11 l11 H11 th11 a11 h11 D11 b11 => ?_⟩
    have th9 := th_but D10.d b11 (th_but D9.d b10 th9)
    have th10 := th_but D10.d b11 th10
    have f8 := b11 _ _ e8 (b10 _ _ e8 (b9 _ _ e8 f8))
    have bA : But p H8 H11 := (b9.trans b10).trans b11
    refine ⟨(by show 3 ≤ sizeLine; decide), fun q12 n12 => ?_⟩
    have s12 : Same H11 (upd H11 q12 (.lst [v9, v10, v11])) := same_new (Same.refl H11) n12
    have g12 : ∀ x ∈ (L2' ++ [v4, v5, v6]) ++ [v9, v10, v11], ∃ d, Th K (upd H11 q12 (.lst [v9, v10, v11])) x d ∧ sOk d = true := fun x hx => by
      rcases List.mem_append.mp hx with hx | hx
      · obtain ⟨d, h1, h2⟩ := g8 x hx
        exact ⟨d, (th_but D8.d bA h1).same s12, h2⟩
      · simp only [List.mem_cons, List.not_mem_nil, or_false] at hx
        rcases hx with rfl | rfl | rfl
        · exact ⟨_, th9.same s12, a9⟩
        · exact ⟨_, th10.same s12, a10⟩
        · exact ⟨_, th11.same s12, a11⟩
    have f8 := up (o := .lst [v9, v10, v11]) f8 n12
    have f12 : (upd H11 q12 (.lst [v9, v10, v11])) q12 = some (.lst [v9, v10, v11]) := upd_same
    have D12 := pen_new (o := .lst [v9, v10, v11]) D11 n12
    have b12 := (b8.trans bA).anew (o := .lst [v9, v10, v11]) n12
    generalize upd H11 q12 (.lst [v9, v10, v11]) = H12 at f8 f12 D12 b12 g12 ⊢
    refine ⟨q8, q12, _, _, rfl, rfl, f8, f12, (by show 18 ≤ sizeLine; decide), fun q13 n13 => ?_⟩
    have s13 : Same H12 (upd H12 q13 (.lst ((L2' ++ [v4, v5, v6]) ++ [v9, v10, v11]))) := same_new (Same.refl H12) n13
    have D13 := pen_new (o := .lst ((L2' ++ [v4, v5, v6]) ++ [v9, v10, v11])) D12 n13
    have b13 := b12.anew (o := .lst ((L2' ++ [v4, v5, v6]) ++ [v9, v10, v11])) n13
    refine ⟨p, c, q13, ns, t11, l11, _, rfl, D13, by omega, SqL.of upd_same, by simp, (by show 18 < 1000000; decide), fun x t' l' H' hx h14 D' b => ?_⟩
    obtain ⟨d, h1, h2⟩ := g12 x hx
    exact k x d t' l' H' (th_but D13.d b (h1.same s13)) h2 (by omega) D' (b13.trans b)
end
end K01
set_option Elab.async false
set_option linter.all false
set_option maxRecDepth 100000
set_option maxHeartbeats 4000000
namespace K01
open K34 PySem PySem.Spec PyProof.Rows L2
def lowS (x : Str) : Prop := ∀ c ∈ x.cps.toList, lowN c = true
theorem len_toList (x : Str) : x.length = x.cps.toList.length := (Array.length_toList).symm
theorem low_app {x y : Str} (hx : lowS x) (hy : lowS y) : lowS (x ++ y) := fun c hc => by
  have e : (x ++ y).cps.toList = x.cps.toList ++ y.cps.toList := by
    show (x.cps ++ y.cps).toList = _
    rw [Array.toList_append]
  rw [e] at hc
  exact (List.mem_append.mp hc).elim (hx c) (hy c)
theorem len_app (x y : Str) : (x ++ y).length = x.length + y.length := by
  show (x.cps ++ y.cps).size = _
  rw [Array.size_append]
  rfl
theorem low_cut {x : Str} (hx : lowS x) (lo hi : Option Int) : lowS (cutS x lo hi) := fun c hc => by
  unfold cutS at hc
  rw [show ((⟨((x.cps.toList.drop (HT.sIx x.length 0 lo)).take (HT.sIx x.length x.length hi - HT.sIx x.length 0 lo)).toArray⟩ : Str)).cps.toList = (x.cps.toList.drop (HT.sIx x.length 0 lo)).take (HT.sIx x.length x.length hi - HT.sIx x.length 0 lo) from by simp] at hc
  exact hx c (List.mem_of_mem_drop (List.mem_of_mem_take hc))
theorem len_cut (x : Str) (lo hi : Option Int) : (cutS x lo hi).length = min (HT.sIx x.length x.length hi - HT.sIx x.length 0 lo) (x.length - HT.sIx x.length 0 lo) := by
  unfold cutS
  show (((x.cps.toList.drop (HT.sIx x.length 0 lo)).take (HT.sIx x.length x.length hi - HT.sIx x.length 0 lo)).toArray).size = _
  rw [List.size_toArray, List.length_take, List.length_drop, len_toList x]
theorem join_sgn : ∀ cs : List Nat, (Str.join ("" : Str) (cs.map fun c => (⟨#[c]⟩ : Str))).cps.toList = cs
  | [] => by decide +kernel
  | [c] => rfl
  | c :: d :: r => by
    have ih := join_sgn (d :: r)
    show (((⟨#[c]⟩ : Str) ++ ("" : Str)) ++ Str.join ("" : Str) ((d :: r).map fun c => (⟨#[c]⟩ : Str))).cps.toList = _
    have e : ∀ y : Str, (((⟨#[c]⟩ : Str) ++ ("" : Str)) ++ y).cps.toList = c :: y.cps.toList := fun y => by
      show ((#[c] ++ ("" : Str).cps) ++ y.cps).toList = _
      rw [Array.toList_append, Array.toList_append, show ("" : Str).cps.toList = [] from by decide +kernel]
      rfl
    rw [e, ih]
theorem sum_one : ∀ cs : List Nat, ((cs.map fun c => (⟨#[c]⟩ : Str)).map (·.length)).sum = cs.length
  | [] => rfl
  | c :: r => by
    rw [List.map_cons, List.map_cons, List.sum_cons, sum_one r, List.length_cons]
    show 1 + r.length = r.length + 1
    omega
theorem abc_low : lowS ("abcdefghijklmnopqrstuvwxyz" : Str) := fun c hc => by
  rw [← abc_mem c]
  exact decide_eq_true hc
theorem word_of {x : Str} (h : lowS x) (h1 : 1 ≤ x.length) (h8 : x.length ≤ 8) : wordS x = true := by
  unfold wordS
  rw [decide_eq_true h1, decide_eq_true h8, List.all_eq_true.mpr h]
  rfl
theorem word_sOk {x : Str} (h : wordS x = true) : sOk (.str x) = true := by
  unfold wordS at h
  obtain ⟨h1, h⟩ := Bool.and_eq_true_iff.mp h
  obtain ⟨h2, h3⟩ := Bool.and_eq_true_iff.mp h
  have h2 := of_decide_eq_true h2
  show (decide (x.length ≤ 1000) && PyData.strOk x) = true
  rw [decide_eq_true (by omega), Bool.true_and]
  unfold PyData.strOk
  refine Array.all_eq_true_iff_forall_mem.mpr fun c hc => ?_
  have z := List.all_eq_true.mp h3 c (by simpa using hc)
  obtain ⟨_, z2⟩ := Bool.and_eq_true_iff.mp z
  have z2 := of_decide_eq_true z2
  exact decide_eq_true (by omega)
theorem op_notIn_K {X : Cx} {K : PySem.W.Frag} (h : X.K = K) : OpR X (compareOp .NotIn) (rIn K true) := by
  subst h
  exact op_notIn_seq
structure TxV (K : PySem.W.Frag) (mg : Str → Option Value) : Prop extends TxN K mg where
  range : mg "range" = none
def spWords (K : PySem.W.Frag) : Sp := fun vs H Q _ => ∃ (p c : Addr) (ns : List Int) (t l m : Int), vs = [.ref p, .int m] ∧ PenAt H p c ns t l ∧ t + 8 < 1000000000000 ∧ 0 ≤ m ∧ m ≤ 100 ∧
  ∀ (q : Addr) (ws : List Str) (t' l' : Int) (H' : Hp), H' q = some (.lst (ws.map V.str)) → q ≠ p → (∀ x ∈ ws, isNm (.str x) = true) → ws.length ≤ m.toNat → t' ≤ t + 8 → PenAt H' p c ns t' l' → But p H H' → Q (.ref q) H'
theorem scWords : FnScope ["_law_pen_here", "_law_many", "_law_letters", "_law_barred", "_law_stem", "_law_at", "_law_first", "_law_step", "_law_found", "_law_k", "_law_word"] ["_law_pen_here", "_law_many"] (defScope sWords) := ⟨rfl, rfl, rfl, by decide +kernel, rfl, by decide +kernel, by decide +kernel⟩
theorem pen_put {H : Hp} {q p c : Addr} {ns : List Int} {t l : Int} {o : HO} (D : PenAt H p c ns t l) (n1 : q ≠ p) (n2 : q ≠ c) : PenAt (upd H q o) p c ns t l :=
  ⟨by rw [upd_ne (Ne.symm n1)]; exact D.d, by rw [upd_ne (Ne.symm n2)]; exact D.c, D.ht, D.hl, D.hn⟩
theorem but_put {p q : Addr} {H H' : Hp} {o : HO} (b : But p H H') (n : H q = none) : But p H (upd H' q o) := fun a u na e => by
  rw [upd_ne (ne_of_none e n)]
  exact b a u na e
theorem split_barred : Txt.split "and or not is null in rest to of into by where set add columns order limit" " " = reserved := by decide +kernel
section
variable {P : Program} {w : World} {K : PySem.W.Frag} {mg : Str → Option Value} {base : Heap} {f fD fP : Addr} {fd fdD fdP : FuncData}
theorem ok_words (F : FnP K "_law_words" sWords f fd) (T : TxV K mg) (FD : FnP K "_law_draw" sDraw fD fdD) (gD : mg "_law_draw" = some (.ref fD)) (FP : FnP K "_law_pick" sPick fP fdP) (gP : mg "_law_pick" = some (.ref fP)) :
    FnOk P w K mg base CX0 3 f fd ["_law_pen_here", "_law_many"] (spWords K) := by
  have TB : TxB mg := T.toTxN.toTxW.toTxB
  have GD : FnOk P w K mg base CX0 1 fD fdD ["_law_pen_here", "_law_many"] spDraw := ok_draw FD TB
  have bD : Binds K fdD ["_law_pen_here", "_law_many"] [] := FD.bindsN fun _ _ _ _ _ _ us hl => match us, hl with | [_, _], _ => rfl
  have kD := FD.kp
  have GP : FnOk P w K mg base CX0 2 fP fdP ["_law_pen_here", "_law_options"] (spPick K) := ok_pick FP TB FD gD
  have GPS : FnOk P w K mg base CX0 2 fP fdP ["_law_pen_here", "_law_options"] (spPickS K) := ok_pickS FP TB FD gD
  have bP : Binds K fdP ["_law_pen_here", "_law_options"] [] := FP.bindsN fun _ _ _ _ _ _ us hl => match us, hl with | [_, _], _ => rfl
  have kP := FP.kp
  refine F.ok scWords (fun vs H Q E h => ?_) (fun cdv A outer s H vs Q E hr h => ?_)
  · obtain ⟨p, c, ns, t, l, m, rfl, _⟩ := h
    rfl
  · obtain ⟨p, c, ns, t, l, m, rfl, D, ht, m0, m1, k⟩ := h
    have nd := scWords.nd
    refine ⟨_, PSs.nox (pss_cons (ps_set (i := 2) nd rfl (Or.inr rfl) pe_str) (pss_cons (ps_set (i := 3) nd rfl (Or.inr rfl) (pe_split pe_str pe_str)) (pss_cons (ps_set (i := 4) nd rfl (Or.inr rfl) (pe_join pe_str (pe_lc (own := [("_law_k", 9)]) (g := gName 9) (tt := tYes) rfl nd (pi_range1 rfl T.range (pa_cons (pe_call GD (hr.mono (by decide)) rfl gD kD bD .nil pass0 (pa_cons (pv 0) (pa_cons pe_int pa_nil))) pa_nil)) (blkOk_by (N := ["_law_pen_here", "_law_many", "_law_letters", "_law_barred", "_law_stem", "_law_at", "_law_first", "_law_step", "_law_found", "_law_k", "_law_word"]) (sc := defScope sWords) (by decide +kernel)) (fun _ _ _ _ _ => pg_name (i := 9) nd rfl (Or.inl rfl)) (fun _ _ _ _ _ => pts_nil) (fun _ _ _ _ _ => (pe_call GPS (hr.mono (by decide)) rfl gP kP bP .nil pass0 (pa_cons (pv 0) (pa_cons (pv 2) pa_nil)))))))
      (pss_cons (ps_asg (pe_tup (pa_cons (pe_call GD (hr.mono (by decide)) rfl gD kD bD .nil pass0 (pa_cons (pv 0) (pa_cons (pe_op op_add (pe_callB call_len_str (by rfl) T.len (by decide +kernel) (pa_cons (pv 4) pa_nil)) pe_int) pa_nil))) (pa_cons (pe_call GD (hr.mono (by decide)) rfl gD kD bD .nil pass0 (pa_cons (pv 0) (pa_cons pe_int pa_nil))) (pa_cons (pe_call GP (hr.mono (by decide)) rfl gP kP bP .nil pass0 (pa_cons (pv 0) (pa_cons (pe_lst (pa_cons pe_int (pa_cons pe_int (pa_cons pe_int (pa_cons pe_int (pa_cons pe_int (pa_cons pe_int pa_nil))))))) pa_nil))) pa_nil)))) (pg_tup rfl (pgs_cons (pg_name (i := 5) nd rfl (Or.inr rfl)) (pgs_cons (pg_name (i := 6) nd rfl (Or.inr rfl)) (pgs_cons (pg_name (i := 7) nd rfl (Or.inr rfl)) pgs_nil)))))
      (pss_cons (ps_setLc (i := 8) (own := [("_law_k", 9)]) (g := gName 9) (tt := tYes) rfl nd rfl rfl (sw_true rfl rfl rfl (by decide +kernel)) (pi_range1 rfl T.range (pa_cons pe_int pa_nil)) (blkOk_by (N := ["_law_pen_here", "_law_many", "_law_letters", "_law_barred", "_law_stem", "_law_at", "_law_first", "_law_step", "_law_found", "_law_k", "_law_word"]) (sc := defScope sWords) (by decide +kernel)) (fun _ _ _ _ _ => pg_name (i := 9) nd rfl (Or.inl rfl)) (fun _ _ _ _ _ => pts_nil) (fun _ _ _ _ _ => (pe_op op_add_str (pe_op op_add_str (pe_slice sl_str (pv 4) po_none (po_some (pv 5))) (pe_ix ix_str (pv 2) (pe_op op_mod (pe_callTy call_int1 (by rfl) T.int (by decide +kernel) (pa_cons (pe_op op_add (pv 6) (pe_op op_mul (pv 7) (pv 9))) pa_nil)) pe_int) (fun _ _ => rfl))) (pe_slice sl_str (pv 4) (po_some (pv 5)) po_none))))
      (pss_one (ps_ret (pe_slice sl_list (pe_lc (own := [("_law_word", 10)]) (g := gName 10) rfl nd (pi_list (pv 8)) (blkOk_by (N := ["_law_pen_here", "_law_many", "_law_letters", "_law_barred", "_law_stem", "_law_at", "_law_first", "_law_step", "_law_found", "_law_k", "_law_word"]) (sc := defScope sWords) (by decide +kernel)) (fun _ _ _ _ _ => pg_name (i := 10) nd rfl (Or.inl rfl)) (fun _ _ _ _ _ => pts_one (pt_cmpR (op_notIn_K (K := K) rfl) (pv 10) (pv 3) (by rfl))) (fun _ _ _ _ _ => pv 10)) po_none (po_some (pv 1)))))))))), ?_⟩
    refine ⟨⟨_, rfl⟩, _, _, rfl, rfl, (by decide +kernel), (by decide +kernel), fun q1 n1 => ?_⟩
    rw [split_barred]
    have f1 : (upd H q1 (.lst (reserved.map V.str))) q1 = some (.lst (reserved.map V.str)) := upd_same
    have D1 := pen_new (o := .lst (reserved.map V.str)) D n1
    have b1 : But p H (upd H q1 (.lst (reserved.map V.str))) := (But.refl p H).anew n1
    have e1 : q1 ≠ p := (ne_of_none D.d n1).symm
    generalize upd H q1 (.lst (reserved.map V.str)) = H1 at f1 D1 b1 ⊢
    refine ⟨⟨_, rfl⟩, _, rfl, p, c, ns, t, l, 5, rfl, D1, by omega, by decide, by decide, fun j t2 l2 H2 j0 j1 h2 D2 b2 => ?_⟩
    refine ⟨j, rfl, by omega, by omega, fun R hR => ?_⟩
    have hR : H2 R = none := hR
    have eR : R ≠ p := (ne_of_none D2.d hR).symm
    have eC : R ≠ c := (ne_of_none D2.c hR).symm
    refine lc_range (lo := 0) (n := j.toNat) (fun i H6 => ∃ (cs : List Nat) (t6 l6 : Int), H6 R = some (.lst (cs.map sgn)) ∧ cs.length = i ∧ (∀ c ∈ cs, lowN c = true) ∧ t6 ≤ t2 + i ∧ PenAt H6 p c ns t6 l6 ∧ But p H2 H6) ⟨[], t2, l2, upd_same, rfl, fun _ z => by (cases z), by omega, pen_new D2 hR, (But.refl p H2).anew hR⟩ ?_ ?_
    · rintro i H6 hi ⟨cs, t6, l6, g1, g2, g3, g4, D6, b6⟩
      refine ⟨rfl, ?_⟩
      unfold tYes
      dsimp only
      refine iteT ?_
      refine ⟨_, rfl, _, rfl, p, c, ns, t6, l6, _, rfl, D6, by omega, (by decide +kernel), (by decide +kernel), fun x t7 l7 H7 hx h7 D7 b7 => ?_⟩
      refine ⟨_, b7 _ _ eR g1, ?_, cs ++ [x], t7, l7, ?_, ?_, ?_, by push_cast; omega, ?_, ?_⟩
      · rw [List.length_map, g2, sizeLine_eq]
        omega
      · rw [upd_same, List.map_append]
        rfl
      · rw [List.length_append, g2]
        rfl
      · intro c' hc'
        rcases List.mem_append.mp hc' with z | z
        · exact g3 c' z
        · rw [List.mem_singleton.mp z]
          exact abc_low x hx
      · exact pen_put D7 eR eC
      · exact but_put (b6.trans b7) hR
    · rintro H6 ⟨cs, t6, l6, g1, g2, g3, g4, D6, b6⟩
      have hcs : cs.length ≤ 4 := by omega
      have eqs : (cs.map fun c => (⟨#[c]⟩ : Str)).map V.str = cs.map sgn := by
        rw [List.map_map]
        rfl
      refine ⟨_, R, cs.map fun c => (⟨#[c]⟩ : Str), rfl, rfl, .inl (SqL.of (by rw [eqs]; exact g1)), ?_, ?_⟩
      · rw [sum_one, List.length_map]
        show cs.length + cs.length * 0 ≤ 16777216
        omega
      rw [TL.join_eq]
      have ex := join_sgn cs
      generalize Str.join ("" : Str) (cs.map fun c => (⟨#[c]⟩ : Str)) = stem at ex ⊢
      have sl : lowS stem := fun c hc => g3 c (by rw [ex] at hc; exact hc)
      have sn : stem.length ≤ 4 := by rw [len_toList, ex]; exact hcs
      have f1 : H6 q1 = some (.lst (reserved.map V.str)) := b6 _ _ e1 (b2 _ _ e1 f1)
      have bb : But p H H6 := (b1.trans b2).trans b6
      -- at, first, step
      refine ⟨_, rfl, _, rfl, _, rfl, (by rw [sizeLine_eq]; omega), _, _, rfl, rfl, p, c, ns, t6, l6, _, rfl, D6, by omega, by omega, by omega, fun a t7 l7 H7 a0 a1 h7 D7 b7 => ?_⟩
      refine ⟨_, rfl, p, c, ns, t7, l7, 26, rfl, D7, by omega, by decide, by decide, fun fi t8 l8 H8 fi0 fi1 h8 D8 b8 => ?_⟩
      refine ⟨_, rfl, (by show 6 ≤ sizeLine; decide), fun q9 n9 => ?_⟩
      refine ⟨p, c, q9, ns, t8, l8, _, rfl, pen_new D8 n9, by omega, SqL.of upd_same, by simp, (by show 6 < 1000000; decide), fun x t10 l10 H10 hx h10 D10 b10 => ?_⟩
      obtain ⟨st, s0, s1, rfl⟩ : ∃ st : Int, 0 ≤ st ∧ st ≤ 11 ∧ x = V.int st := by
        simp only [List.mem_cons, List.not_mem_nil, or_false] at hx
        rcases hx with h | h | h | h | h | h <;> exact ⟨_, by decide, by decide, h⟩
      have b9 : But p H H10 := (((bb.trans b7).trans b8).anew n9).trans b10
      have e9 := (b7.trans b8) _ _ e1 f1
      have f1 : H10 q1 = some (.lst (reserved.map V.str)) := b10 _ _ e1 (up e9 n9)
      clear e9
      refine ⟨(by show 3 ≤ sizeLine; decide), fun q11 n11 => ?_⟩
      have f1 := up (o := .tup [.int a, .int fi, .int st]) f1 n11
      have D11 := pen_new (o := .tup [.int a, .int fi, .int st]) D10 n11
      have b11 := b9.anew (o := .tup [.int a, .int fi, .int st]) n11
      refine ⟨q11, _, rfl, SqT.of upd_same, rfl, _, _, rfl, _, _, rfl, _, _, rfl, rfl, ?_⟩
      generalize upd H10 q11 (.tup [.int a, .int fi, .int st]) = H11 at f1 D11 b11 ⊢
      refine ⟨26, rfl, by decide, by decide, fun R2 hR2 => ?_⟩
      have hR2 : H11 R2 = none := hR2
      have eR2 : R2 ≠ p := (ne_of_none D11.d hR2).symm
      have eC2 : R2 ≠ c := (ne_of_none D11.c hR2).symm
      have eQ2 : R2 ≠ q1 := (ne_of_none f1 hR2).symm
      refine lc_range (lo := 0) (n := 26) (fun i H12 => ∃ ws : List Str, H12 R2 = some (.lst (ws.map V.str)) ∧ ws.length = i ∧ (∀ y ∈ ws, wordS y = true) ∧ Same H11 H12) ⟨[], upd_same, rfl, fun _ z => by (cases z), same_new (Same.refl H11) hR2⟩ ?_ ?_
      · rintro i H12 hi ⟨ws, g5, g6, g7, g8⟩
        refine ⟨rfl, ?_⟩
        unfold tYes
        dsimp only
        refine iteT ?_
        have hz4 : stem.length ≤ sizeLine := by rw [sizeLine_eq]; omega
        have n0 : 0 ≤ (fi + st * (0 + (i : Int))) % 26 := Int.emod_nonneg _ (by omega)
        have n1 : (fi + st * (0 + (i : Int))) % 26 < 26 := Int.emod_lt_of_pos _ (by omega)
        obtain ⟨n, hn⟩ : ∃ n : Nat, (fi + st * (0 + (i : Int))) % 26 = (n : Int) := ⟨((fi + st * (0 + (i : Int))) % 26).toNat, by omega⟩
        have hl26 : ("abcdefghijklmnopqrstuvwxyz" : Str).cps.toList.length = 26 := by decide +kernel
        have hnl : n < ("abcdefghijklmnopqrstuvwxyz" : Str).cps.toList.length := by omega
        have ht26 : ("abcdefghijklmnopqrstuvwxyz" : Str).length ≤ sizeLine := by decide +kernel
        have la : (cutS stem none (some a)).length ≤ a.toNat := by
          rw [len_cut]
          show min (HT.sIx stem.length stem.length (some a) - 0) (stem.length - 0) ≤ _
          have : HT.sIx stem.length stem.length (some a) = min a.toNat stem.length := by
            show (if a < 0 then _ else _) = _
            rw [if_neg (by omega)]
          omega
        have lb : (cutS stem (some a) none).length ≤ stem.length - a.toNat := by
          rw [len_cut]
          have : HT.sIx stem.length 0 (some a) = min a.toNat stem.length := by
            show (if a < 0 then _ else _) = _
            rw [if_neg (by omega)]
          omega
        have ha : a.toNat ≤ stem.length := by omega
        have hc := abc_low _ (List.getElem_mem hnl)
        refine ⟨_, rfl, _, rfl, _, rfl, stem, rfl, hz4, ?_⟩
        refine ⟨_, rfl, _, rfl, _, rfl, _, rfl, _, _, rfl, rfl, .inl ⟨by omega, by omega⟩, _, _, rfl, rfl, .inl ⟨_, rfl, _, _, rfl, rfl, (by show (0 : Int) < 26; decide), ?_⟩⟩
        dsimp only
        rw [hn]
        refine ⟨_, (n : Int), _, rfl, rfl, ht26, atI_nat (List.getElem?_eq_getElem hnl), ?_⟩
        generalize ("abcdefghijklmnopqrstuvwxyz" : Str).cps.toList[n] = ch at hc
        have l1 : lowS (⟨#[ch]⟩ : Str) := fun x hx => by
          have : x = ch := by simpa using hx
          rw [this]
          exact hc
        have n1' : (⟨#[ch]⟩ : Str).length = 1 := rfl
        refine ⟨_, _, rfl, rfl, (by rw [sizeLine_eq, n1']; omega), ?_⟩
        refine ⟨_, rfl, _, rfl, _, rfl, stem, rfl, hz4, ?_⟩
        refine ⟨_, _, rfl, rfl, (by rw [sizeLine_eq, len_app, n1']; omega), ?_⟩
        refine ⟨_, g5, ?_, ws ++ [(cutS stem none (some a) ++ (⟨#[ch]⟩ : Str)) ++ cutS stem (some a) none], ?_, ?_, ?_, ?_⟩
        · rw [List.length_map, g6, sizeLine_eq]
          omega
        · rw [upd_same, List.map_append]
          rfl
        · rw [List.length_append, g6]
          rfl
        · intro y hy
          rcases List.mem_append.mp hy with z | z
          · exact g7 y z
          · rw [List.mem_singleton.mp z]
            refine word_of (low_app (low_app (low_cut sl _ _) l1) (low_cut sl _ _)) ?_ ?_
            · rw [len_app, len_app, n1']
              omega
            · rw [len_app, len_app, n1']
              omega
        · intro b' o e
          rw [upd_ne (ne_of_none e hR2)]
          exact g8 b' o e
      · rintro H12 ⟨ws, g5, g6, g7, g8⟩
        have f1 := g8 _ _ f1
        have D12 : PenAt H12 p c ns t10 l10 := D11.same g8
        have b12 : But p H H12 := b11.trans (But.of g8)
        refine ⟨_, rfl, R2, rfl, ⟨_, SqL.of g5⟩, fun R3 hR3 => ?_⟩
        have hR3 : H12 R3 = none := hR3
        have eR3 : R3 ≠ p := (ne_of_none D12.d hR3).symm
        have eC3 : R3 ≠ c := (ne_of_none D12.c hR3).symm
        refine lc_it (walk_list (K := K) (a := R2) (xs := ws.map V.str)) (fun i H13 => ∃ vs : List Str, H13 R3 = some (.lst (vs.map V.str)) ∧ vs.length ≤ i ∧ (∀ y ∈ vs, isNm (.str y) = true) ∧ Same H12 H13) ⟨[], upd_same, Nat.le_refl _, fun _ z => by (cases z), same_new (Same.refl H12) hR3⟩ (fun i H13 _ ⟨vs, _, _, _, y4⟩ => y4.seq (SqL.of g5)) ?_ ?_
        · rintro i x' H13 H14 hi ⟨vs, y1, y2, y3, y4⟩ ⟨rfl, hx'⟩
          obtain ⟨y, hy, rfl⟩ : ∃ y ∈ ws, x' = V.str y := by
            obtain ⟨y, h1, h2⟩ := List.mem_map.mp (List.mem_of_getElem? hx')
            exact ⟨y, h1, h2.symm⟩
          refine ⟨rfl, ?_⟩
          refine ⟨_, rfl, _, rfl, q1, _, rfl, .inl (SqL.of (y4 _ _ f1)), rfl, flat_strs _, _, rfl, ?_⟩
          have e : inV (.str y) (reserved.map V.str) = reserved.contains y := inV_strs y _
          show (if (!inV (.str y) (reserved.map V.str)) = true then _ else _)
          rw [e]
          cases hr' : reserved.contains y with
          | true =>
            refine iteF ?_
            exact ⟨vs, y1, by omega, y3, y4⟩
          | false =>
            refine iteT ?_
            refine ⟨_, rfl, _, y1, ?_, vs ++ [y], ?_, ?_, ?_, ?_⟩
            · have hi : i < (ws.map V.str).length := hi
              rw [List.length_map] at hi
              rw [List.length_map, sizeLine_eq]
              omega
            · rw [upd_same, List.map_append]
              rfl
            · rw [List.length_append]
              show vs.length + 1 ≤ i + 1
              omega
            · intro y' hy'
              rcases List.mem_append.mp hy' with z | z
              · exact y3 y' z
              · rw [List.mem_singleton.mp z]
                show (wordS y && !reserved.contains y) = true
                rw [g7 y hy, hr']
                rfl
            · intro b' o e'
              rw [upd_ne (ne_of_none e' hR3)]
              exact y4 b' o e'
        · rintro H13 ⟨vs, y1, y2, y3, y4⟩
          have D13 : PenAt H13 p c ns t10 l10 := D12.same y4
          refine ⟨_, rfl, _, rfl, R3, _, rfl, SqL.of y1, fun q14 n14 => ?_⟩
          have ec : cutV (vs.map V.str) none (some m) = (vs.take (min m.toNat vs.length)).map V.str := by
            unfold cutV
            have e1 : HT.sIx (vs.map V.str).length (vs.map V.str).length (some m) = min m.toNat vs.length := by
              show (if m < 0 then _ else _) = _
              rw [if_neg (by omega), List.length_map]
            rw [e1, HT.sIx_none, List.drop_zero, Nat.sub_zero, List.map_take]
          rw [ec]
          refine k q14 (vs.take (min m.toNat vs.length)) t10 l10 _ upd_same (ne_of_none D13.d n14).symm (fun x hx => y3 x (List.mem_of_mem_take hx)) ?_ (by omega) (pen_new D13 n14) ((b12.trans (But.of y4)).anew n14)
          rw [List.length_take]
          omega
end
end K01
set_option Elab.async false
set_option linter.all false
set_option maxRecDepth 100000
set_option maxHeartbeats 4000000
namespace K01
open K34 PySem PySem.Spec PyProof.Rows L2
/-- a row of plain columns: where its tuple stands, its name, kind, need -/
structure Pl where
  a : Addr
  n : Str
  k : Str
  b : Bool
def Pl.ok (r : Pl) : Prop := isNm (.str r.n) = true ∧ (r.k = "number" ∨ r.k = "word")
def Pl.at_ (H : Hp) (r : Pl) : Prop := H r.a = some (.tup [.str r.n, .str r.k, .bl r.b])
/-- the tuples of the rows, one by one -/
def PlAt (H : Hp) (q : Addr) (rs : List Pl) : Prop := H q = some (.lst (rs.map fun r => V.ref r.a)) ∧ ∀ r ∈ rs, r.at_ H ∧ r.ok
theorem PlAt.same {H H' : Hp} {q : Addr} {rs : List Pl} (h : PlAt H q rs) (s : Same H H') : PlAt H' q rs := ⟨s _ _ h.1, fun r hr => ⟨s _ _ (h.2 r hr).1, (h.2 r hr).2⟩⟩
theorem PlAt.but {H H' : Hp} {p q : Addr} {kvs : List (Key × V)} {rs : List Pl} (h : PlAt H q rs) (hp : H p = some (.dK kvs)) (b : But p H H') : PlAt H' q rs :=
  ⟨b _ _ (ne_of h.1 hp (by intro z; cases z)) h.1, fun r hr => ⟨b _ _ (ne_of (h.2 r hr).1 hp (by intro z; cases z)) (h.2 r hr).1, (h.2 r hr).2⟩⟩
def spCols (K : PySem.W.Frag) : Sp := fun vs H Q _ => ∃ (p c : Addr) (ns : List Int) (t l : Int), vs = [.ref p, .int 5] ∧ PenAt H p c ns t l ∧ t + 19 < 1000000000000 ∧
  ∀ (q : Addr) (rs : List Pl) (t' l' : Int) (H' : Hp), PlAt H' q rs → rs.length ≤ 5 → t' ≤ t + 19 → PenAt H' p c ns t' l' → But p H H' → Q (.ref q) H'
theorem scCols : FnScope ["_law_pen_here", "_law_most", "_law_titles", "_law_title"] ["_law_pen_here", "_law_most"] (defScope sColumns) := ⟨rfl, rfl, rfl, by decide +kernel, rfl, by decide +kernel, by decide +kernel⟩
section
variable {P : Program} {w : World} {K : PySem.W.Frag} {mg : Str → Option Value} {base : Heap} {f fD fP fW : Addr} {fd fdD fdP fdW : FuncData}
theorem ok_cols (F : FnP K "_law_columns" sColumns f fd) (T : TxV K mg) (FD : FnP K "_law_draw" sDraw fD fdD) (gD : mg "_law_draw" = some (.ref fD)) (FP : FnP K "_law_pick" sPick fP fdP) (gP : mg "_law_pick" = some (.ref fP))
    (FW : FnP K "_law_words" sWords fW fdW) (gW : mg "_law_words" = some (.ref fW)) : FnOk P w K mg base CX0 4 f fd ["_law_pen_here", "_law_most"] (spCols K) := by
  have TB : TxB mg := T.toTxN.toTxW.toTxB
  have GD : FnOk P w K mg base CX0 1 fD fdD ["_law_pen_here", "_law_many"] spDraw := ok_draw FD TB
  have bD : Binds K fdD ["_law_pen_here", "_law_many"] [] := FD.bindsN fun _ _ _ _ _ _ us hl => match us, hl with | [_, _], _ => rfl
  have kD := FD.kp
  have GP : FnOk P w K mg base CX0 2 fP fdP ["_law_pen_here", "_law_options"] (spPick K) := ok_pick FP TB FD gD
  have bP : Binds K fdP ["_law_pen_here", "_law_options"] [] := FP.bindsN fun _ _ _ _ _ _ us hl => match us, hl with | [_, _], _ => rfl
  have kP := FP.kp
  have GW : FnOk P w K mg base CX0 3 fW fdW ["_law_pen_here", "_law_many"] (spWords K) := ok_words FW T FD gD FP gP
  have bW : Binds K fdW ["_law_pen_here", "_law_many"] [] := FW.bindsN fun _ _ _ _ _ _ us hl => match us, hl with | [_, _], _ => rfl
  have kW := FW.kp
  refine F.ok scCols (fun vs H Q E h => ?_) (fun cdv A outer s H vs Q E hr h => ?_)
  · obtain ⟨p, c, ns, t, l, rfl, _⟩ := h
    rfl
  · obtain ⟨p, c, ns, t, l, rfl, D, ht, k⟩ := h
    have nd := scCols.nd
    refine ⟨_, PSs.nox (pss_cons (ps_set (i := 2) nd rfl (Or.inl rfl) (pe_call GW hr rfl gW kW bW .nil pass0 (pa_cons (pv 0) (pa_cons (pe_op op_add pe_int (pe_call GD (hr.mono (by decide)) rfl gD kD bD .nil pass0 (pa_cons (pv 0) (pa_cons (pv 1) pa_nil)))) pa_nil))))
      (pss_one (ps_ret (pe_lc (own := [("_law_title", 3)]) (g := gName 3) (tt := tYes) rfl nd (pi_list (pv 2)) (blkOk_by (N := ["_law_pen_here", "_law_most", "_law_titles", "_law_title"]) (sc := defScope sColumns) (by decide +kernel)) (fun _ _ _ _ _ => pg_name (i := 3) nd rfl (Or.inl rfl)) (fun _ _ _ _ _ => pts_nil) (fun _ _ _ _ _ => (pe_tup (pa_cons (pv 3) (pa_cons (pe_call GP (hr.mono (by decide)) rfl gP kP bP .nil pass0 (pa_cons (pv 0) (pa_cons (pe_lst (pa_cons pe_str (pa_cons pe_str (pa_cons pe_str pa_nil)))) pa_nil))) (pa_cons (pe_cmpR op_eq (pe_call GD (hr.mono (by decide)) rfl gD kD bD .nil pass0 (pa_cons (pv 0) (pa_cons pe_int pa_nil))) pe_int (nomark _)) pa_nil))))))))), ?_⟩
    refine ⟨_, rfl, _, rfl, _, rfl, p, c, ns, t, l, 5, rfl, D, by omega, by decide, by decide, fun j t1 l1 H1 j0 j1 h1 D1 b1 => ?_⟩
    refine ⟨_, _, rfl, rfl, p, c, ns, t1, l1, _, rfl, D1, by omega, by omega, by omega, fun q ws t2 l2 H2 g1 g2 g3 g4 h2 D2 b2 => ?_⟩
    refine ⟨_, rfl, q, rfl, ⟨_, SqL.of g1⟩, fun R hR => ?_⟩
    have hR : H2 R = none := hR
    have eR : R ≠ p := (ne_of_none D2.d hR).symm
    have eC : R ≠ c := (ne_of_none D2.c hR).symm
    have eQ : R ≠ q := (ne_of_none g1 hR).symm
    have lw : ws.length ≤ 5 := by omega
    refine lc_it (walk_list (K := K) (a := q) (xs := ws.map V.str)) (fun i H3 => ∃ (rs : List Pl) (t3 l3 : Int), PlAt H3 R rs ∧ rs.length = i ∧ H3 q = some (.lst (ws.map V.str)) ∧ t3 ≤ t2 + 2 * i ∧ PenAt H3 p c ns t3 l3 ∧ But p H2 H3)
      ⟨[], t2, l2, ⟨upd_same, fun _ z => by (cases z)⟩, rfl, by rw [upd_ne (Ne.symm eQ)]; exact g1, by omega, pen_put D2 eR eC, (But.refl p H2).anew hR⟩ (fun i H3 _ ⟨rs, t3, l3, _, _, y, _⟩ => SqL.of y) ?_ ?_
    · rintro i x' H3 H4 hi ⟨rs, t3, l3, y1, y2, y3, y4, D3, y5⟩ ⟨rfl, hx'⟩
      have hi : i < (ws.map V.str).length := hi
      rw [List.length_map] at hi
      obtain ⟨y, hy, rfl⟩ : ∃ y ∈ ws, x' = V.str y := by
        obtain ⟨y, h1, h2⟩ := List.mem_map.mp (List.mem_of_getElem? hx')
        exact ⟨y, h1, h2.symm⟩
      refine ⟨rfl, ?_⟩
      unfold tYes
      dsimp only
      refine iteT ?_
      refine ⟨_, rfl, _, rfl, (by show 3 ≤ sizeLine; decide), fun q4 n4 => ?_⟩
      have D4 := pen_new (o := .lst [.str "number", .str "number", .str "word"]) D3 n4
      have P4 := y1.same (same_new (o := .lst [.str "number", .str "number", .str "word"]) (Same.refl _) n4)
      have q3 := up (o := .lst [.str "number", .str "number", .str "word"]) y3 n4
      have b4 := y5.anew (o := .lst [.str "number", .str "number", .str "word"]) n4
      refine ⟨p, c, q4, ns, t3, l3, _, rfl, D4, by omega, SqL.of upd_same, by simp, (by show 3 < 1000000; decide), fun x t5 l5 H5 hx h5 D5 b5 => ?_⟩
      obtain ⟨kd, hk, rfl⟩ : ∃ kd : Str, (kd = "number" ∨ kd = "word") ∧ x = V.str kd := by
        simp only [List.mem_cons, List.not_mem_nil, or_false] at hx
        rcases hx with h | h | h
        · exact ⟨_, .inl rfl, h⟩
        · exact ⟨_, .inl rfl, h⟩
        · exact ⟨_, .inr rfl, h⟩
      have P5 := P4.but D4.d b5
      have q5 := b5 _ _ g2 q3
      refine ⟨_, rfl, p, c, ns, t5, l5, 3, rfl, D5, by omega, by decide, by decide, fun j6 t6 l6 H6 j60 j61 h6 D6 b6 => ?_⟩
      have P6 := P5.but D5.d b6
      have q6 := b6 _ _ g2 q5
      refine ⟨rfl, (by show 3 ≤ sizeLine; decide), fun q7 n7 => ?_⟩
      have s7 := same_new (o := .tup [.str y, .str kd, .bl (decide (V.int j6 = V.int 0))]) (Same.refl H6) n7
      have P7 := P6.same s7
      have q7' := s7 _ _ q6
      have D7 := D6.same s7
      have b7 : But p H2 (upd H6 q7 (.tup [.str y, .str kd, .bl (decide (V.int j6 = V.int 0))])) := ((b4.trans b5).trans b6).trans (But.of s7)
      have t7 : (upd H6 q7 (.tup [.str y, .str kd, .bl (decide (V.int j6 = V.int 0))])) q7 = some (.tup [.str y, .str kd, .bl (decide (V.int j6 = V.int 0))]) := upd_same
      generalize decide (V.int j6 = V.int 0) = mu at P7 q7' D7 b7 t7 ⊢
      generalize upd H6 q7 (.tup [.str y, .str kd, .bl mu]) = H7 at P7 q7' D7 b7 t7 ⊢
      refine ⟨_, P7.1, ?_, rs ++ [⟨q7, y, kd, mu⟩], t6, l6, ⟨?_, fun r hr => ?_⟩, ?_, ?_, by push_cast; omega, pen_put D7 eR eC, but_put b7 hR⟩
      · rw [List.length_map, y2, sizeLine_eq]
        omega
      · rw [upd_same, List.map_append]
        rfl
      · rcases List.mem_append.mp hr with z | z
        · have z1 := (P7.2 r z).1
          exact ⟨(upd_ne (fun e => by unfold Pl.at_ at z1; rw [e, P7.1] at z1; cases z1)).trans z1, (P7.2 r z).2⟩
        · rw [List.mem_singleton.mp z]
          exact ⟨(upd_ne (fun e => by have e : q7 = R := e; rw [e, P7.1] at t7; cases t7)).trans t7, g3 y hy, hk⟩
      · rw [List.length_append, y2]
        rfl
      · rw [upd_ne (Ne.symm eQ)]
        exact q7'
    · rintro H3 ⟨rs, t3, l3, y1, y2, y3, y4, D3, y5⟩
      rw [List.length_map] at y2 y4
      exact k R rs t3 l3 H3 y1 (by omega) (by omega) D3 ((b1.trans b2).trans y5)
end
end K01
set_option Elab.async false
set_option linter.all false
set_option maxRecDepth 100000
set_option maxHeartbeats 4000000
/-! several except clauses, each with a name -/
namespace K01
open K34 PySem PySem.Spec PyProof.Rows L2
/-- one clause: its class, its name's slot, its suite -/
structure Cl where
  c : Value
  i : Nat
  ts : Addr → Value → Option Addr → TS
def wManyAs (K : PySem.W.Frag) (N : List Str) (Wout : WX) (D : Ends) : List Cl → WX
  | [] => Wout
  | q :: r => fun cls d σ H => ∃ b, PySem.W.exmOne K cls q.c = some b ∧ (b = true → ∀ a, H a = none → σ.length = N.length → q.ts a cls d { nx := fun σ' H' => D.nx (σ'.set q.i none) H', rt := D.rt, bk := fun σ' H' => D.bk (σ'.set q.i none) H', ct := fun σ' H' => D.ct (σ'.set q.i none) H' } (σ.set q.i (some (.ref a))) H) ∧
    (b = false → wManyAs K N Wout D r cls d σ H)
inductive HdsAs (X : Cx) : List ExceptHandler → List Cl → Prop
  | nil : HdsAs X [] []
  | cons {x n : Str} {q : Cl} {b₀ : Stmt} {suite : List Stmt} {np pos' : Pos} {hds : List ExceptHandler} {l : List Cl} (hc : Names X x q.c) (hi : X.N[q.i]? = some n) (hln : X.env.kindOf n = some .local)
      (hsu : ∀ (a : Addr) (oe : Obj) (cls : Value) (d : Option Addr) (pn : List (Addr × Obj)), Zc cls d oe → (∃ vs, oe.data = .fields vs) → PSs (X.suite a ((a, oe) :: pn)) (b₀ :: suite) (q.ts a cls d)) (r : HdsAs X hds l) :
      HdsAs X (.ExceptHandler (some (.Name x np)) (some n) (b₀ :: suite) pos' :: hds) (q :: l)
section
variable {X : Cx} {body : List Stmt} {h₀ : ExceptHandler} {hds : List ExceptHandler} {l : List Cl} {pos : Pos} {tb : WX → TS} {Wout : WX}
theorem ps_try_manyAs (hs : X.stack = X.env :: X.outer) (hf : X.env.frame = some X.env.locals) (hN : X.N.Nodup) (tk : Takes X Wout)
    (hb : ∀ (W : WX) (pn : List (Addr × Obj)) (xe : Value → Shared → Prop), Takes (X.tr pn xe) W → PassesOwn (model X.prog X.w) X.A X.env xe → PSs (X.tr pn xe) body (tb W))
    (hh : HdsAs X (h₀ :: hds) l) : PS X (.Try body (h₀ :: hds) [] [] pos) (fun D σ H => tb (wManyAs X.K X.N Wout D l) D σ H) := by
  refine ⟨fun pins s σ H D I h => ?_⟩
  have ok := I.ok
  have hfr : X.A.frames = some (X.env :: X.outer) := by rw [ok.frames, hs]
  refine wpAny_Try_except ?_
  refine wpAny_mono ((hb (wManyAs X.K X.N Wout D l) (X.pn ++ pins) (fun e s₁ => wpAny (model X.prog X.w) X.A (noteFrame e X.env) (fun _ s₂ => wpAny (model X.prog X.w) X.A (setFlight e none) (fun _ s₃ =>
    wpAny (model X.prog X.w) X.A (handleBy e X.env (h₀ :: hds)) (SP X pins D) X.xe s₃) X.xe s₂) X.xe s₁) (fun u s' xx => ?_) PassesOwn.looking).run [] s σ H D (I.toTry _) h) (fun f s1 hsp => ?_) (fun e s1 he => he)
  · obtain ⟨a, B, sI, pins', σ', H', cls, d, rfl, J', nb, up, sky, na, os, ag, w⟩ := xx
    have J : Inv X pins σ' H' sI := J'.ofTry ok
    have sky' : Sky B (X.env :: X.outer) a (Zc cls d) X.env.locals s'.heap := by rw [← hs]; exact sky
    show wpAny (model X.prog X.w) X.A (noteFrame (.ref a) X.env) _ _ _
    refine Sky.land Zc.steady hfr hf sky' fun h3 fl3 up3 => ?_
    have J3 : Inv X pins σ' H' { s' with heap := h3 } := J.landed nb fl3.1 (up.trans up3) os ag
    obtain ⟨oe3, vs3, he3, hz3, hd3⟩ := fl3.there
    have notFr : ∀ {h : Heap} {o : Obj} {vs : Array Value}, h.FunFrames B (X.env :: X.outer) → h.get? a = some o → o.data = .fields vs → a ∉ frs (X.env :: X.outer) := fun {h o vs} ff e dd hm => by
      obtain ⟨_, o', e', hnf⟩ := ff.mem hm
      rw [e] at e'; cases e'
      exact hnf _ dd
    have nfr := notFr fl3.2.2.1 he3 hd3
    have nL : a ≠ X.env.locals := fun z => nfr (List.mem_filterMap.mpr ⟨X.env, List.mem_cons_self, by rw [hf, z]⟩)
    have nF : a ∉ X.fs := fun hm => by
      obtain ⟨e, he, q⟩ := List.mem_filterMap.mp hm
      exact nfr (List.mem_filterMap.mpr ⟨e, List.mem_cons_of_mem _ he, q⟩)
    have S3 := J3.suite he3 hd3 na nL nF
    have go : ∀ {hds' : List ExceptHandler} {l' : List Cl}, HdsAs X hds' l' → wManyAs X.K X.N Wout D l' cls d σ' H' →
        wpAny (model X.prog X.w) X.A (handleBy (.ref a) X.env hds') (SP X pins D) X.xe { s' with heap := h3 } := by
      intro hds' l' hk
      induction hk with
      | nil =>
        intro w
        refine wpAny_handleBy_nil ?_
        obtain ⟨k1, k2, k3, oe, vs, T, oT, ts', he, hz, hd, h1, hr⟩ := id fl3
        unfold PySem.passOn
        refine wpAny_bind (wpAny_field he hd h1 ?_)
        rw [if_neg (show ¬ ((Value.ref T == Value.none) = true) from by simp)]
        have fin : wpAny (model X.prog X.w) X.A (setFlight (.ref a) X.env.frame) (fun _ s4 => wpAny (model X.prog X.w) X.A (throw (.ref a) : Sem Flow) (SP X pins D) X.xe s4) X.xe { s' with heap := h3 } := by
          rw [hf]
          refine HandSPX.setFlight_upZ fl3 fun h4 hh4 up4 => wpAny_throw (tk _ _ ?_)
          exact ⟨a, B, sI, pins, σ', H', cls, d, rfl, J, nb, (up.trans up3).trans up4, .inr (.inr (by rw [hs]; exact hh4)), na, os, ag, w⟩
        first
          | exact wpAny_bind (wpAny_pure (wpAny_bind fin))
          | exact wpAny_bind fin
      | @cons x n q b₀ suite np pos' hds2 l2 hc hi hln hsu r ih =>
        intro w
        obtain ⟨b, hb1, hyes, hno⟩ := w
        have hloc : Loc X.env.scope n := .inl hln
        refine wpAny_handleBy_cons (codeAny_handlers_test ?_) (by intro q; cases q)
        have LT : PySem.W.Looks (model X.prog X.w) h3 (typeOf (.ref a)) cls := fun A Q E s k q => wpAny_typeOf_ref (k _ _ he3) (by rw [hz3.1]; exact q)
        have LM := PySem.W.exm_one (M := model X.prog X.w) (J3.kIn) LT hb1
        have test : ∀ {Q : Value → Shared → Prop} {E : Value → Shared → Prop}, Q q.c { s' with heap := h3 } → wpAny (model X.prog X.w) (X.A.mark (some (.ref a))) (eval (.Name x np) X.env) Q E { s' with heap := h3 } := fun {Q E} qq => by
          obtain ⟨hg, hdbg, hm | ⟨hm, hv, hnn⟩⟩ := hc
          · exact ld_glob (X := X.suite a ((a, oe3) :: (X.pn ++ pins))) S3 hg hm qq hdbg
          · exact ld_blt (X := X.suite a ((a, oe3) :: (X.pn ++ pins))) S3 hg hm hv qq hnn hdbg
        refine test (LM.here ?_)
        cases b with
        | true =>
          refine codeAny_handlers_suite_as ?_
          refine HandSPX.lands_againZ fl3 fun h4 fl4 up4 => ?_
          have J4 : Inv X pins σ' H' { s' with heap := h4 } := J.landed nb fl4.1 ((up.trans up3).trans up4) os ag
          obtain ⟨oe4, vs4, he4, hz4, hd4⟩ := fl4.there
          have S4 := J4.suite he4 hd4 na nL nF
          refine store_ok (X := X.suite a ((a, oe4) :: (X.pn ++ pins))) (v := .ref a) S4 hN hi hloc rfl (fun s5 S5 => ?_) (.inr hln)
          refine wpAny_mono ((hsu a oe4 cls d (X.pn ++ pins) hz4 ⟨_, hd4⟩).run [] s5 _ H' _ S5 (hyes rfl a na J.len)) (fun f s6 hsp => ?_) (fun _ _ z => False.elim z)
          have end_ : ∀ {σ6 : L2.St} {H6 : Hp} {Q : Shared → Prop}, Inv (X.suite a ((a, oe4) :: (X.pn ++ pins))) [] σ6 H6 s6 → (∀ s7, Inv X pins (σ6.set q.i none) H6 s7 → Q s7) →
              wpAny (model X.prog X.w) X.A (do bindName X.env n .none; unbindBehindTheSuite X.env n pos') (fun _ s7 => Q s7) X.xe s6 := fun {σ6 H6 Q} S6 hq => gone_ok (S6.unsuite ok) hN hi hln hq
          cases f with
          | next =>
            obtain ⟨σ6, H6, S6, q6⟩ := hsp
            exact end_ S6 fun s7 J7 => ⟨_, _, J7, q6⟩
          | brk =>
            obtain ⟨σ6, H6, S6, q6⟩ := hsp
            exact end_ S6 fun s7 J7 => ⟨_, _, J7, q6⟩
          | cont =>
            obtain ⟨σ6, H6, S6, q6⟩ := hsp
            exact end_ S6 fun s7 J7 => ⟨_, _, J7, q6⟩
          | ret u =>
            obtain ⟨v6, σ6, H6, S6, r6, q6⟩ := hsp
            exact end_ S6 fun s7 J7 => ⟨_, _, _, J7, r6, q6⟩
        | false =>
          show wpAny _ X.A (handleBy (.ref a) X.env hds2) _ _ _
          exact ih (hno rfl)
    exact go hh w
  · cases f with
    | next =>
      obtain ⟨σ', H', J', q⟩ := hsp
      exact wpAny_execs_nil ⟨σ', H', J'.ofTry ok, q⟩
    | brk =>
      obtain ⟨σ', H', J', q⟩ := hsp
      exact ⟨σ', H', J'.ofTry ok, q⟩
    | cont =>
      obtain ⟨σ', H', J', q⟩ := hsp
      exact ⟨σ', H', J'.ofTry ok, q⟩
    | ret u =>
      obtain ⟨v, σ', H', J', r, q⟩ := hsp
      exact ⟨v, σ', H', J'.ofTry ok, r, q⟩
end
/-- isinstance(e, c) in such a suite, e's fields in its dict -/
def rIsED (K : PySem.W.Frag) (a : Addr) (cls : Value) (d : Option Addr) : List V → Hp → VK → Prop := fun xs H Q => ∃ (C dd : Addr) (fs : List (Str × V)) (c : V) (cv : Value) (b : Bool), xs = [.ref a, c] ∧ cls = .ref C ∧ d = some dd ∧ H dd = some (.xd fs) ∧ EC K C .ve ∧ (∀ u, RelV c u → u = cv) ∧ PySem.W.kitOne K (.ref C) cv = some b ∧ Q (.bl b) H
theorem call_isED {X : Cx} {a : Addr} {cls : Value} {d : Option Addr} {oe : Obj} {pn : List (Addr × Obj)} (hz : Zc cls d oe) (hf : ∃ vs, oe.data = .fields vs) : CallR (X.suite a ((a, oe) :: pn)) (.builtin "isinstance") (rIsED X.K a cls d) := by
  intro pins s σ H xs us Q I r h
  obtain ⟨C, dd, fs, c, cv, b, rfl, rfl, rfl, ed, T, hcv, e, q⟩ := h
  cases r with
  | cons rx rr =>
    cases rr with
    | cons rt rr =>
      cases rr
      cases rx
      have ec := hcv _ rt
      subst ec
      obtain ⟨ha, _⟩ := I.pin (a, oe) (List.mem_append_left _ List.mem_cons_self)
      obtain ⟨vs, hd⟩ := hf
      have hx : ObjOk X.prog X.w H s.heap dd (.xd fs) := I.hok dd _ ed
      obtain ⟨mA, hns, _⟩ := hx
      obtain ⟨od, ho, _⟩ := lookIn_ns hns
      have J : PySem.W.InstAt s.heap a oe C (some od) := ⟨ha, hz.1, by unfold PySem.W.notCls; rw [hd] <;> rfl, by rw [hz.2]; exact ho⟩
      have hcl : (PySem.W.clsIn X.K C).isSome = true := by
        obtain ⟨cd, hc, _⟩ := PySem.W.any_some T.at_.hd
        rw [hc] <;> rfl
      exact PySem.W.kia_one (PySem.W.kitx_exc hcl T.at_.hg T.at_.hk T.at_.hs T.at_.ha T.at_.hn T.at_.ht T.at_.hm) I.kIn J e (fun z => nomatch z) fun tk => ⟨.bl b, H, I.kept (t' := tk) fun _ _ z => z, rfl, q⟩
end K01
set_option Elab.async false
set_option linter.all false
set_option maxRecDepth 100000
set_option maxHeartbeats 4000000
namespace K01
open K34 PySem PySem.Spec PyProof.Rows L2 LamX
theorem call_reprK {X : Cx} {K : PySem.W.Frag} (h : X.K = K) (hg : X.A.guards = some []) (hu : X.A.units + 64 < cLine) : CallR X (.builtin "repr") (rRepr K) := by
  subst h
  exact call_repr hg hu
theorem call_reprS {X : Cx} {a : Addr} {pn : List (Addr × Obj)} (hg : X.A.guards = some []) (hu : X.A.units + 64 < cLine) : CallR (X.suite a pn) (.builtin "repr") (rRepr X.K) := call_reprK rfl hg hu
structure MetT (K : PySem.W.Frag) (mg : Str → Option Value) : Prop where
  gN : mg "InvalidName" = some (.ref (He.ga K "InvalidName"))
  gK : mg "InvalidKind" = some (.ref (He.ga K "InvalidKind"))
  cN : EC K (He.ga K "InvalidName") .ve
  cK : EC K (He.ga K "InvalidKind") .ve
  nN : PySem.W.findIn K (.ref (He.ga K "InvalidName")) "value" = some none
  nK : PySem.W.findIn K (.ref (He.ga K "InvalidKind")) "value" = some none
  ne : He.ga K "InvalidName" ≠ He.ga K "InvalidKind"
  isi : mg "isinstance" = none
  repr : mg "repr" = none
  ve : mg "ValueError" = none
theorem xf_of {K : PySem.W.Frag} {C : Addr} (T : EC K C .ve) : XfC K C := ⟨T.at_.hg, T.at_.hk, T.at_.hs, T.at_.hd⟩
/-- what one clause's suite gives -/
def tsMet (K : PySem.W.Frag) (C : Addr) (x : Str) : Addr → Value → Option Addr → TS := fun a cls d => tRet (tTup (tCons (tC (.str x)) (tCons (tCB (rRepr K) (tCons (tXf a cls d C "value" (tVar 1)) tNil)) (tCons (tCB (rIsED K a cls d) (tCons (tVar 1) (tCons (tC (.ty "ValueError")) tNil))) tNil))))
/-- what the lambda's raise leaves for a clause -/
def MetW (K : PySem.W.Frag) (Q : VK) : XK := fun cls d H => ∃ (dd : Addr) (v : V) (dt : PyData) (C : Addr) (x : Str), cls = .ref C ∧ d = some dd ∧ H dd = some (.xd [(("value" : Str), v)]) ∧ Th K H v dt ∧ dOk dt = true ∧
  ((C = He.ga K "InvalidName" ∧ x = "word") ∨ (C = He.ga K "InvalidKind" ∧ x = "sort")) ∧ ∀ q, H q = none → Q (.ref q) (upd H q (.tup [.str x, .str dt.shown, .bl true]))
def TTmet (K : PySem.W.Frag) : (XK → Hp → VK → Prop) → Hp → VK → Prop := fun tl H Q => tl (MetW K Q) H (fun _ H' => Q .non H')
theorem scMet : FnScope ["_law_call", "e"] ["_law_call"] (defScope sMet) := ⟨rfl, rfl, rfl, by decide +kernel, rfl, by decide +kernel, by decide +kernel⟩
theorem rd_suite {K : PySem.W.Frag} {C : Addr} {x : Str} (T : EC K C .ve) {a dd : Addr} {v : V} {dt : PyData} {H : Hp} {σ : L2.St} {Q : VK} {D : Ends} (hD : D.rt = Q) (hl : σ.length = 2) (hx : H dd = some (.xd [(("value" : Str), v)])) (t : Th K H v dt) (ok : dOk dt = true)
    (q : ∀ q, H q = none → Q (.ref q) (upd H q (.tup [.str x, .str dt.shown, .bl true]))) : tsMet K C x a (.ref C) (some dd) D (σ.set 1 (some (.ref a))) H := by
  have s1 : (σ.set 1 (some (V.ref a)))[1]? = some (some (V.ref a)) := by
    rw [List.getElem?_set_self (by omega)]
  have ok1 := (Bool.and_eq_true_iff.mp ok)
  have ok2 := (Bool.and_eq_true_iff.mp ok1.2)
  have ok3 := (Bool.and_eq_true_iff.mp ok2.2)
  have h1 : dt.showable = true := ok1.1
  have h2 : dt.shown.length ≤ 1000 := of_decide_eq_true ok2.1
  have h3 : dt.depth ≤ 8 := of_decide_eq_true ok3.1
  refine ⟨_, s1, rfl, rfl, dd, _, v, rfl, hx, rfl, v, dt, rfl, t, h1, by rw [sizeLine_eq]; omega, h3, ?_⟩
  refine ⟨_, s1, C, dd, _, _, _, _, rfl, rfl, rfl, hx, T, fun u z => z, kit_blt T "ValueError" (by decide +kernel), (by show 3 ≤ sizeLine; decide), fun q' hq' => ?_⟩
  have e : Kd.ve.bm.contains (Value.type "ValueError") = true := by decide +kernel
  rw [e, hD]
  exact q q' hq'
section
variable {P : Program} {w : World} {K : PySem.W.Frag} {mg : Str → Option Value} {base : Heap} {A : Around} {stack : List Env} {g : Addr} {cdg : Value} {q : Str}
theorem met_core (T : MetT K mg) (hga : A.guards = some []) (hr : Room 3 A) {f c' : Addr} {s : Shared} {H : Hp} {Q : VK} {tl : XK → Hp → VK → Prop}
    (act : ∀ (W : WX) (pn : List (Addr × Obj)) (xe : Value → Shared → Prop) (E : XK) (p1 p2 : Pos), Takes ((cxOf C8.CX0 P w K mg base ["_law_call", "e"] "_law_met" (defScope sMet) g cdg A stack s H C8.E0).tr pn xe) W → (∀ cls d σ' H', E cls d H' → W cls d σ' H') →
      PE ((cxOf C8.CX0 P w K mg base ["_law_call", "e"] "_law_met" (defScope sMet) g cdg A stack s H C8.E0).tr pn xe) (.Call (.Name "_law_call" p1) [] [] p2) (fun σZ HZ Q => σZ[0]? = some (some (.ref f)) ∧ HZ c' = some (CodeO c' q) ∧ tl E HZ Q))
    (hc : H c' = some (CodeO c' q)) (h : TTmet K tl H Q) :
    ∃ t, PSs (cxOf C8.CX0 P w K mg base ["_law_call", "e"] "_law_met" (defScope sMet) g cdg A stack s H C8.E0).nox (defBody sMet) t ∧ t { nx := fun _ H' => Q .non H', rt := Q } (L2.start ["_law_call", "e"] [.ref f]) H := by
  have hr1 := hr.deeper (envOfC "_law_met" (defScope sMet) s.heap.objs.size g cdg)
  have hu := hu64_of hr1
  have ex : ∀ {C C' : Addr}, EC K C .ve → EC K C' .ve → PySem.W.exmOne K (.ref C) (.ref C') = some (decide (C = C')) := fun {C C'} TC TC' => by
    refine PySem.W.exm_ref TC'.at_.hs TC'.at_.hd TC'.ty ?_
    obtain ⟨cd, hc, hm⟩ := TC.cd
    show (PySem.W.clsIn K C).bind _ = _
    rw [hc, Option.bind_some, hm, if_neg (by simp), List.contains_cons, bm_ref, Bool.or_false]
    refine congrArg some ?_
    by_cases z : C = C'
    · rw [decide_eq_true z, z]
      exact beq_self_eq_true _
    · rw [decide_eq_false z]
      exact beq_eq_false_iff_ne.mpr fun y => z (Value.ref.inj y).symm
  refine ⟨_, pss_cons (ps_try_manyAs (X := (cxOf C8.CX0 P w K mg base ["_law_call", "e"] "_law_met" (defScope sMet) g cdg A stack s H C8.E0).nox)
      (l := [⟨.ref (He.ga K "InvalidName"), 1, tsMet K (He.ga K "InvalidName") "word"⟩, ⟨.ref (He.ga K "InvalidKind"), 1, tsMet K (He.ga K "InvalidKind") "sort"⟩])
      (tb := fun W D σ H => ∃ Ech : XK, (∀ cls d σ' H', Ech cls d H' → W cls d σ' H') ∧ σ[0]? = some (some (.ref f)) ∧ H c' = some (CodeO c' q) ∧ tl Ech H (fun _ H' => D.nx σ H'))
      rfl rfl scMet.nd L2.takes0 (fun W pn xe tk _ => ?_)
      (.cons ⟨rfl, by decide, .inl T.gN⟩ rfl rfl (fun a oe cls d pn hz hf => pss_one (ps_ret (pe_tup (pa_cons pe_str (pa_cons (pe_callB (call_reprS (by exact hga) (by exact hu)) (by rfl) T.repr (by decide +kernel) (pa_cons (pe_xf (xf_of T.cN) T.nN hz hf (pv 1)) pa_nil)) (pa_cons (pe_callB (call_isED hz hf) (by rfl) T.isi (by decide +kernel) (pa_cons (pv 1) (pa_cons (pe_bltn (v := .ty "ValueError") (by rfl) T.ve (by decide +kernel) rfl) pa_nil))) pa_nil))))))
        (.cons ⟨rfl, by decide, .inl T.gK⟩ rfl rfl (fun a oe cls d pn hz hf => pss_one (ps_ret (pe_tup (pa_cons pe_str (pa_cons (pe_callB (call_reprS (by exact hga) (by exact hu)) (by rfl) T.repr (by decide +kernel) (pa_cons (pe_xf (xf_of T.cK) T.nK hz hf (pv 1)) pa_nil)) (pa_cons (pe_callB (call_isED hz hf) (by rfl) T.isi (by decide +kernel) (pa_cons (pv 1) (pa_cons (pe_bltn (v := .ty "ValueError") (by rfl) T.ve (by decide +kernel) rfl) pa_nil))) pa_nil)))))) .nil)))
    (pss_one (ps_ret pe_non)), ?_⟩
  · refine ⟨fun pins s' σ H' D I h' => ?_⟩
    obtain ⟨Ech, hW, h1, h2, h3⟩ := h'
    exact (pss_one (ps_expr (act W pn xe Ech _ _ tk hW))).run pins s' σ H' D I ⟨h1, h2, h3⟩
  · refine ⟨MetW K Q, ?_, rfl, hc, h⟩
    rintro cls d σ' H' ⟨dd, v, dt, C, x, rfl, rfl, hx, th, ok, hC, fin⟩
    rcases hC with ⟨rfl, rfl⟩ | ⟨rfl, rfl⟩
    · refine ⟨true, ?_, fun _ a ha hl => ?_, fun z => by cases z⟩
      · have e := ex T.cN T.cN
        rw [decide_eq_true rfl] at e
        exact e
      · exact rd_suite T.cN rfl hl hx th ok fin
    · refine ⟨false, ?_, (fun z => by cases z), fun _ => ⟨true, ?_, fun _ a ha hl => ?_, fun z => by cases z⟩⟩
      · have e := ex T.cK T.cN
        rw [decide_eq_false (fun z => T.ne z.symm)] at e
        exact e
      · have e := ex T.cK T.cK
        rw [decide_eq_true rfl] at e
        exact e
      · exact rd_suite T.cK rfl hl hx th ok fin
end
theorem met_gives {X : Cx} {g : Addr} {cdg : Value} {q : Str} (T : MetT X.K X.mg) (hga : X.A.guards = some []) (hr : Room 3 X.A) : GivesTo X ["_law_call", "e"] "_law_met" (defScope sMet) g cdg (defBody sMet) "_law_call" q (TTmet X.K) :=
  fun f c' s H Q tl act hc h => met_core T hga hr act hc h
end K01
set_option Elab.async false
set_option linter.all false
set_option maxRecDepth 100000
set_option maxHeartbeats 4000000
namespace K01
open K34 PySem PySem.Spec PyProof.Rows L2
structure TxR (K : PySem.W.Frag) (mg : Str → Option Value) : Prop extends TxV K mg where
  repr : mg "repr" = none
/-- what is due for a name and a kind: the word and the writing of the value at fault -/
def dueD (dt ds : PyData) : Option (Str × Str) := if isNm dt = true then (if isIn ds kinds = true then none else some ("sort", ds.shown)) else some ("word", dt.shown)
def GivesD (o : Option (Str × Str)) (H : Hp) (Q : VK) : Prop := match o with
  | none => ∀ H', Same H H' → Q .non H'
  | some (x, y) => ∀ q H', Same H H' → H' q = some (.tup [.str x, .str y, .bl true]) → Q (.ref q) H'
def spDue (K : PySem.W.Frag) : Sp := fun vs H Q _ => ∃ (u v : V) (dt ds : PyData), vs = [u, v] ∧ Th K H u dt ∧ aOk dt = true ∧ Th K H v ds ∧ aOk ds = true ∧ GivesD (dueD dt ds) H Q
theorem scDue : FnScope ["_law_title", "_law_sort", "_law_barred"] ["_law_title", "_law_sort"] (defScope sDue) := ⟨rfl, rfl, rfl, by decide +kernel, rfl, by decide +kernel, by decide +kernel⟩
structure AOk (d : PyData) : Prop where
  s : d.showable = true
  l : d.shown.length ≤ sizeLine
  p : d.depth ≤ 8
  o : sOk d = true
  k : dOk d = true
  u : PyData.strOk d.shown = true
theorem aok_of {d : PyData} (h : aOk d = true) : AOk d := by
  obtain ⟨h1, h2⟩ := Bool.and_eq_true_iff.mp h
  obtain ⟨h0, h3⟩ := Bool.and_eq_true_iff.mp h1
  obtain ⟨a, b⟩ := Bool.and_eq_true_iff.mp h0
  obtain ⟨b1, b2⟩ := Bool.and_eq_true_iff.mp b
  obtain ⟨c1, _⟩ := Bool.and_eq_true_iff.mp b2
  have b1 := of_decide_eq_true b1
  exact ⟨a, by rw [sizeLine_eq]; omega, of_decide_eq_true c1, h2, h0, h3⟩
section
variable {P : Program} {w : World} {K : PySem.W.Frag} {mg : Str → Option Value} {base : Heap} {f fW : Addr} {fd fdW : FuncData}
theorem ok_due (F : FnP K "_law_due" sDue f fd) (T : TxR K mg) (FW : FnP K "_law_is_word" sLIsWord fW fdW) (gW : mg "_law_is_word" = some (.ref fW)) : FnG P w K mg base 3 f fd ["_law_title", "_law_sort"] (spDue K) := by
  have GW : FnOk P w K mg base CX0 1 fW fdW ["_law_thing"] (spWord K) := ok_lword FW T.toTxV.toTxN.toTxW
  have bW : Binds K fdW ["_law_thing"] [] := FW.bindsN fun _ _ _ _ _ _ us hl => match us, hl with | [_], _ => rfl
  have kW := FW.kp
  refine okG F scDue (fun vs H Q E h => ?_) (fun cdv A outer s H vs Q E hga hr h => ?_)
  · obtain ⟨u, v, dt, ds, rfl, _⟩ := h
    rfl
  · obtain ⟨u, v, dt, ds, rfl, tu, ou, tv, ov, q⟩ := h
    have nd := scDue.nd
    have hu64 := hu64_of hr
    refine ⟨_, PSs.nox (pss_cons (ps_set (i := 2) nd rfl (Or.inl rfl) (pe_split pe_str pe_str))
      (pss_cons (ps_if (PW.pt (pw_or (pt_not (pt_val (pe_call GW (hr.mono (by decide)) rfl gW kW bW .nil pass0 (pa_cons (pv 0) pa_nil)))) (pw_or1 (pt_cmpR op_in_seq (pv 0) (pv 2) (by rfl))))) (pss_one (ps_ret (pe_tup (pa_cons pe_str (pa_cons (pe_callB (call_repr hga hu64) (by rfl) T.repr (by decide +kernel) (pa_cons (pv 0) pa_nil)) (pa_cons pe_bl pa_nil)))))) pss_nil)
      (pss_one (ps_ret (pe_ifExp (PW.pt (pw_and (pt_val (pe_callB call_isi (by rfl) T.isi (by decide +kernel) (pa_cons (pv 1) (pa_cons (pe_bltn (v := .ty "str") (by rfl) T.str (by decide +kernel) rfl) pa_nil)))) (pw_and1 (pt_cmpR op_in_seq (pv 1) (pe_tup (pa_cons pe_str (pa_cons pe_str pa_nil))) (by rfl))))) pe_non (pe_tup (pa_cons pe_str (pa_cons (pe_callB (call_repr hga hu64) (by rfl) T.repr (by decide +kernel) (pa_cons (pv 1) pa_nil)) (pa_cons pe_bl pa_nil))))))))), ?_⟩
    refine ⟨⟨_, rfl⟩, _, _, rfl, rfl, (by decide +kernel), (by decide +kernel), fun q1 n1 => ?_⟩
    rw [split_barred]
    have s1 := same_new (o := .lst (reserved.map V.str)) (Same.refl H) n1
    have f1 : (upd H q1 (.lst (reserved.map V.str))) q1 = some (.lst (reserved.map V.str)) := upd_same
    generalize upd H q1 (.lst (reserved.map V.str)) = H1 at s1 f1 ⊢
    refine ⟨_, rfl, u, dt, rfl, tu.same s1, (aok_of ou).o, fun H2 s2 => ⟨_, rfl, ?_⟩⟩
    have s12 := s1.trans s2
    have bad : isNm dt = false → ∀ (H3 : Hp), Same H H3 → ∀ q, H3 q = none → Q (.ref q) (upd H3 q (.tup [.str "word", .str dt.shown, .bl true])) := fun e H3 s3 q5 n5 => by
      unfold dueD at q
      rw [if_neg (by rw [e]; exact Bool.false_ne_true)] at q
      exact q q5 _ (same_new s3 n5) upd_same
    cases hw : isW dt with
    | false =>
      have e : isNm dt = false := by cases dt <;> first | rfl | (show (_ && _) = false; rw [show wordS _ = false from hw]; rfl)
      refine iteT ?_
      refine iteT ?_
      refine ⟨_, rfl, u, dt, rfl, tu.same s12, (aok_of ou).s, (aok_of ou).l, (aok_of ou).p, (by show 3 ≤ sizeLine; decide), fun q5 n5 => bad e H2 s12 q5 n5⟩
    | true =>
      refine iteF ?_
      obtain ⟨x, rfl⟩ : ∃ x, dt = .str x := by cases dt <;> first | exact ⟨_, rfl⟩ | exact Bool.noConfusion hw
      cases th_str tu
      refine ⟨_, rfl, _, rfl, q1, _, rfl, .inl (SqL.of (s2 _ _ f1)), rfl, flat_strs _, _, rfl, ?_⟩
      show (if inV (.str x) (reserved.map V.str) = true then _ else _)
      rw [inV_strs]
      cases hc : reserved.contains x with
      | true =>
        have e : isNm (.str x) = false := by
          show (wordS x && !reserved.contains x) = false
          rw [hc, Bool.not_true, Bool.and_false]
        refine iteT ?_
        refine ⟨_, rfl, _, .str x, rfl, tu.same s12, (aok_of ou).s, (aok_of ou).l, (aok_of ou).p, (by show 3 ≤ sizeLine; decide), fun q5 n5 => bad e H2 s12 q5 n5⟩
      | false =>
        have e : isNm (.str x) = true := by
          show (wordS x && !reserved.contains x) = true
          rw [show wordS x = true from hw, hc]
          rfl
        refine iteF ?_
        unfold dueD at q
        rw [if_pos e] at q
        refine ⟨_, rfl, v, .ty "str", .type (tyName ds), _, isS ds, rfl, .ty _, th_ty (tv.same s12), kit_ty (kit_str ds), _, rfl, ?_⟩
        have badK : isIn ds kinds = false → ∀ (H3 : Hp), Same H H3 → ∀ q, H3 q = none → Q (.ref q) (upd H3 q (.tup [.str "sort", .str ds.shown, .bl true])) := fun e H3 s3 q5 n5 => by
          rw [if_neg (by rw [e]; exact Bool.false_ne_true)] at q
          exact q q5 _ (same_new s3 n5) upd_same
        cases hs : isS ds with
        | false =>
          have e2 : isIn ds kinds = false := by cases ds <;> first | rfl | exact Bool.noConfusion hs
          refine iteF ?_
          refine ⟨_, rfl, v, ds, rfl, tv.same s12, (aok_of ov).s, (aok_of ov).l, (aok_of ov).p, (by show 3 ≤ sizeLine; decide), fun q5 n5 => badK e2 H2 s12 q5 n5⟩
        | true =>
          refine iteT ?_
          obtain ⟨y, rfl⟩ : ∃ y, ds = .str y := by cases ds <;> first | exact ⟨_, rfl⟩ | exact Bool.noConfusion hs
          cases th_str tv
          refine ⟨_, rfl, (by show 2 ≤ sizeLine; decide), fun q6 n6 => ?_⟩
          have s6 := same_new (o := .tup (kinds.map V.str)) s12 n6
          refine ⟨q6, kinds.map V.str, rfl, .inr (SqT.of upd_same), rfl, flat_strs _, _, rfl, ?_⟩
          show (if inV (.str y) (kinds.map V.str) = true then _ else _)
          rw [inV_strs]
          cases hk : kinds.contains y with
          | true =>
            have e2 : isIn (.str y) kinds = true := hk
            rw [if_pos e2] at q
            refine iteT ?_
            exact q _ s6
          | false =>
            have e2 : isIn (.str y) kinds = false := hk
            refine iteF ?_
            refine ⟨_, rfl, _, .str y, rfl, tv.same s6, (aok_of ov).s, (aok_of ov).l, (aok_of ov).p, (by show 3 ≤ sizeLine; decide), fun q5 n5 => badK e2 _ s6 q5 n5⟩
end
end K01
set_option Elab.async false
set_option linter.all false
set_option maxRecDepth 100000
set_option maxHeartbeats 4000000
/-! Column(..): the three ways in which its arguments are bound -/
namespace K01
open K34 PySem PySem.Spec PyProof.Rows L2
abbrev FInit (K : PySem.W.Frag) (f : Addr) (fd : FuncData) : Prop := FunD K "__init__" "Column.__init__" (defArgs sInit) (defBody sInit) (defScope sInit) [] [(("is_required" : Str), V.bl false)] f fd
def psI : List Str := ["self", "name", "kind", "is_required"]
section
variable {K : PySem.W.Frag} {f : Addr} {fd : FuncData}
theorem bindPos (F : FInit K f fd) : ∃ ds, Vals [V.bl false] ds ∧ Binds K fd psI ds := by
  refine FunD.binds0 F 3 (by simp) rfl fun D doc pm an cdv ct us ks h1 h2 => ?_
  match us, ks, h1, h2 with
  | [a, b, c], [d], _, _ => exact ⟨_, _, _, _, _, _, rfl, rfl, rfl⟩
theorem bindKw (F : FInit K f fd) : ∃ mv : List Value, KBn K fd psI 3 ["is_required"] (fun us ws => us ++ (mv ++ ws)) (fun vs zs => vs ++ (([] : List (Str × V)).map (·.2) ++ zs)) := by
  refine FunD.kbinds0 F 3 ["is_required"] [] (fun us mv ws => us ++ (mv ++ ws)) (by simp) (fun q h => by cases h) (fun r1 r2 r3 => r1.append (r2.append r3)) fun D doc pm an cdv ct us mv ws h1 h2 h3 => ?_
  match us, mv, ws, h1, h2, h3 with
  | [a, b, c], [], [d], _, _, _ => exact rfl
def g3 {α : Type} (us mv ws : List α) : List α := match us, ws with
  | [s], [k, r, n] => [s, n, k, r]
  | _, _ => []
theorem bindAll (F : FInit K f fd) : ∃ mv : List Value, KBn K fd psI 1 ["kind", "is_required", "name"] (fun us ws => g3 us mv ws) (fun vs zs => g3 vs (([] : List (Str × V)).map (·.2)) zs) := by
  refine FunD.kbinds0 F 1 ["kind", "is_required", "name"] [] (fun us mv ws => g3 us mv ws) (by simp) (fun q h => by cases h) (fun r1 r2 r3 => ?_) fun D doc pm an cdv ct us mv ws h1 h2 h3 => ?_
  · cases r1 with
    | nil => exact .nil
    | cons a1 t1 =>
      cases t1 with
      | cons _ _ => cases r3 <;> exact .nil
      | nil =>
        cases r3 with
        | nil => exact .nil
        | cons b1 u1 =>
          cases u1 with
          | nil => exact .nil
          | cons b2 u2 =>
            cases u2 with
            | nil => exact .nil
            | cons b3 u3 =>
              cases u3 with
              | nil => exact .cons a1 (.cons b3 (.cons b1 (.cons b2 .nil)))
              | cons _ _ => exact .nil
  · match us, mv, ws, h1, h2, h3 with
    | [a], [], [b, c, d], _, _, _ => exact rfl
end
end K01
set_option Elab.async false
set_option linter.all false
set_option maxRecDepth 100000
set_option maxHeartbeats 4000000
/-! o.m(y = e): a method called by one keyword -/
namespace K01
open K34 PySem PySem.Spec PyProof.Rows L2
def tMethK (C : Addr) (m : Str) (sp : Sp) (ta : TE) (tk : TA) : TE := fun σ H Q => ta σ H fun x H1 => ∃ a dx fs, x = .ref a ∧ H1 a = some (.ins C dx fs) ∧ fs.lookup m = none ∧
  tk σ H1 fun zs H2 => zs.length = 1 ∧ sp (x :: zs) H2 Q E0
section
variable {X : Cx} {k : Nat} {f C : Addr} {fd : FuncData} {sp : Sp} {m y : Str} {o : Expr} {kws : List Keyword} {ta : TE} {tk : TA} {apos pos : Pos}
theorem pe_methK {pl : Sem Bool} (he : PE X o ta) (c : Cls X.K C) (hm : Meth X.K C m f) (F : FnOk X.prog X.w X.K X.mg X.base CX0 k f fd ["self", y] sp) (hr : Room k X.A)
    (hb : ∀ (s' : Shared) (a : Addr) (u : Value), BindsTo s' fd ⟨[.ref a], [(y, u)]⟩ [(("self" : Str), .ref a), (y, u)]) (hkw : PK X kws tk)
    (hall : (backToKw pos (keywordEach kws X.env)).all (·.1.isSome) = true := by rfl) (hks : (backToKw pos (keywordEach kws X.env)).filterMap (·.1) = [y] := by rfl)
    (hpl : ((backTo pos (starEach [] X.env)).any (·.1) || (backToKw pos (keywordEach kws X.env)).any (·.1.isNone)) = false := by rfl)
    (ht : eval (.Call (.Attribute o m apos) [] kws pos) X.env = (do
      let ov ← eval o X.env
      standAt apos.atName
      let (f, first) ← holding [ov] (getMethod ov m pl)
      callWith pos f first (backTo pos (starEach [] X.env)) (backToKw pos (keywordEach kws X.env))) := by rfl) :
    PE X (.Call (.Attribute o m apos) [] kws pos) (tMethK C m sp ta tk) := by
  refine ⟨fun pins s σ H Q I h => ?_⟩
  refine PySem.W.methodCall_KW (pl := pl) (thn (he.run pins s σ H _ I h) fun u s1 ⟨x, H1, I1, rx, a, dx, fs, ex, ea, l, q⟩ => ?_) ht
  subst ex
  obtain rfl : u = Value.ref a := rx
  refine getmeth_ok I1 ea c hm l ?_
  refine PySem.W.callWith_KW0 (first := [.ref a]) (h₀ := X.base) I.ok.mod.kin hm.kp hall ?_ hpl
  refine thn (hkw.run pos pins _ σ H1 _ I1 q) fun ws s2 ⟨zs, H2, I2, rz, hz, q2⟩ => ⟨I2.kIn, ?_⟩
  rw [hks]
  cases zs with
  | nil => exact absurd hz (by decide)
  | cons z zt =>
    cases zt with
    | cons z2 zt2 => exact absurd hz (by simp)
    | nil =>
      cases rz with
      | cons rz1 rz2 =>
        cases rz2
        rename_i u _
        refine wpAny_call (codeAny_mono (F.run X.A X.stack s2 H2 ⟨[.ref a], [(y, u)]⟩ [.ref a, u] [.ref a, z] Q E0 hr I2.env0 (hb s2 a u) (.cons rfl (.cons rz1 .nil)) q2) fun r s' hq => ?_)
        cases r with
        | error e => exact False.elim hq
        | ok fl =>
          cases fl with
          | ret u => exact I2.after hq
          | next => exact False.elim hq
          | brk => exact False.elim hq
          | cont => exact False.elim hq
end
section
theorem kw_isval {K : PySem.W.Frag} {f : Addr} {fd : FuncData} (F : FunD K "is_value" "Column.is_value" (defArgs sIsVal) (defBody sIsVal) (defScope sIsVal) [] [] f fd) (s' : Shared) (a : Addr) (u : Value) : BindsTo s' fd ⟨[.ref a], [(("value" : Str), u)]⟩ [(("self" : Str), .ref a), (("value" : Str), u)] := by
  obtain ⟨oc, od, dV, kV, doc, pm, an, cdv, ct, osl, rfl, lk, hcd, hD, hK⟩ := F.ex
  rcases hD with ⟨_, rfl⟩ | ⟨e, _⟩
  · exact .of_eq rfl
  · exact absurd rfl e
end
end K01
set_option Elab.async false
set_option linter.all false
set_option maxRecDepth 100000
set_option maxHeartbeats 4000000
/-! the law's def: its names, its blocks, what stays -/
namespace K01
open K34 PySem PySem.Spec PyProof.Rows L2
def NL : List Str := ["_law_script", "_law_pen_here", "_law_turn", "_law_plain", "_law_made", "_law_one", "_law_title", "_law_sort", "_law_must", "_law_sibling", "_law_more", "_law_told", "_law_other", "_law_second", "_law_third", "_law_fourth", "_law_again", "_law_thing", "_law_due_here", "_law_words_here"]
theorem scLaw : FnScope NL ["_law_script"] (defScope sLaw) := ⟨rfl, rfl, rfl, by decide +kernel, rfl, by decide +kernel, by decide +kernel⟩
def forB : Stmt → List Stmt
  | .For _ _ b _ _ => b
  | _ => []
def nth (b : List Stmt) (i : Nat) : Stmt := b.getD i (.Pass ⟨0, 0, 0, 0⟩)
abbrev bTurn : List Stmt := forB (nth (defBody sLaw) 1)
abbrev bOne : List Stmt := forB (nth bTurn 2)
abbrev bZip : List Stmt := forB (nth bOne 5)
abbrev bAgain : List Stmt := forB (nth bOne 6)
abbrev LX (P : Program) (w : World) (K : PySem.W.Frag) (mg : Str → Option Value) (base : Heap) (f : Addr) (cdv : Value) (A : Around) (outer : List Env) (s : Shared) (H : Hp) (E : XK) : Cx := (cxOf CX0 P w K mg base NL "law" (defScope sLaw) f cdv A outer s H E).nox
theorem PSs.imp {X : Cx} {b : List Stmt} {t u : TS} (h : PSs X b t) (i : ∀ D σ H, u D σ H → t D σ H) : PSs X b u := ⟨fun pins s σ H D I z => h.run pins s σ H D I (i D σ H z)⟩
/-- all but the dicts stays -/
def Kp (H H' : Hp) : Prop := ∀ b o, (∀ kvs, o ≠ HO.dK kvs) → H b = some o → H' b = some o
theorem Kp.refl (H : Hp) : Kp H H := fun _ _ _ h => h
theorem Kp.trans {H H1 H2 : Hp} (a : Kp H H1) (b : Kp H1 H2) : Kp H H2 := fun c o n h => b c o n (a c o n h)
theorem Kp.of {H H' : Hp} (s : Same H H') : Kp H H' := fun b o _ h => s b o h
theorem Kp.but {H H' : Hp} {p : Addr} {kvs : List (Key × V)} (hp : H p = some (.dK kvs)) (b : But p H H') : Kp H H' := fun a o n h => b a o (fun z => n kvs (Option.some.inj (h.symm.trans (z ▸ hp)))) h
theorem PlAt.kp {H H' : Hp} {q : Addr} {rs : List Pl} (h : PlAt H q rs) (k : Kp H H') : PlAt H' q rs :=
  ⟨k _ _ (by intro kvs z; cases z) h.1, fun r hr => ⟨k _ _ (by intro kvs z; cases z) (h.2 r hr).1, (h.2 r hr).2⟩⟩
theorem ColAt.kp {K : PySem.W.Frag} {H H' : Hp} {a : Addr} {n k : Str} {b : Bool} (c : ColAt K H a n k b) (s : Kp H H') : ColAt K H' a n k b := by
  obtain ⟨dx, h⟩ := c
  exact ⟨dx, s _ _ (by intro kvs z; cases z) h⟩
/-- columns made of the rows, one by one -/
def MadeAt (K : PySem.W.Frag) (H : Hp) (m : Addr) (rs : List Pl) (cs : List Addr) : Prop := H m = some (.lst (cs.map V.ref)) ∧ cs.length = rs.length ∧ ∀ (i : Nat) (c : Addr) (r : Pl), cs[i]? = some c → rs[i]? = some r → ColAt K H c r.n r.k r.b
theorem MadeAt.kp {K : PySem.W.Frag} {H H' : Hp} {m : Addr} {rs : List Pl} {cs : List Addr} (h : MadeAt K H m rs cs) (k : Kp H H') : MadeAt K H' m rs cs :=
  ⟨k _ _ (by intro kvs z; cases z) h.1, h.2.1, fun i c r h1 h2 => (h.2.2 i c r h1 h2).kp k⟩
/-- a row as data -/
def Pl.dat (r : Pl) : PyData := .tuple [.str r.n, .str r.k, .bool r.b]
theorem word_ok {x : Str} (h : wordS x = true) : PyData.strOk x = true := by
  unfold wordS at h
  obtain ⟨_, h⟩ := Bool.and_eq_true_iff.mp h
  obtain ⟨_, h⟩ := Bool.and_eq_true_iff.mp h
  unfold PyData.strOk
  rw [Array.all_eq_true_iff_forall_mem]
  intro c hc
  have z := List.all_eq_true.mp h c (Array.mem_toList_iff.mpr hc)
  unfold lowN at z
  have := of_decide_eq_true (Bool.and_eq_true_iff.mp z).2
  exact decide_eq_true (by omega)
theorem word_len {x : Str} (h : wordS x = true) : x.length ≤ 8 := by
  unfold wordS at h
  obtain ⟨_, h⟩ := Bool.and_eq_true_iff.mp h
  obtain ⟨h, _⟩ := Bool.and_eq_true_iff.mp h
  exact of_decide_eq_true h
theorem nm_word {x : Str} (h : isNm (.str x) = true) : wordS x = true := (Bool.and_eq_true_iff.mp h).1
theorem kd_ok {k : Str} (h : k = "number" ∨ k = "word") : PyData.strOk k = true := by
  rcases h with rfl | rfl <;> decide +kernel
theorem shaped_row {n k : Str} (b : Bool) (h1 : PyData.strOk n = true) (h2 : PyData.strOk k = true) : SeqAt.shaped (.tuple [.str n, .str k, .bool b]) = true := by
  have e1 : PyData.canLay0 (.tuple [.str n, .str k, .bool b]) = true := by
    show (PyData.strOk n && (PyData.strOk k && true)) = true
    rw [h1, h2]
    rfl
  have e2 : (PyData.tuple [.str n, .str k, .bool b]).depth ≤ 64 := by
    simp [PyData.depth, PyData.depthAll]
  show (PyData.canLay0 (.tuple [.str n, .str k, .bool b]) && decide ((PyData.tuple [.str n, .str k, .bool b]).depth ≤ 64)) = true
  rw [e1, decide_eq_true e2]
  rfl
theorem eqv_row (n k n2 k2 : Str) (b b2 : Bool) : PyData.eqv (.tuple [.str n, .str k, .bool b]) (.tuple [.str n2, .str k2, .bool b2]) = decide (n = n2 ∧ k = k2 ∧ b = b2) := by
  rw [Bool.eq_iff_iff]
  simp [PyData.eqv, PyData.eqvAll]
theorem th_row {K : PySem.W.Frag} {H : Hp} {a : Addr} {n k : Str} {b : Bool} (h : H a = some (.tup [.str n, .str k, .bl b])) : Dp K H (.ref a) (.tuple [.str n, .str k, .bool b]) :=
  .tup (SqT.of h) (.cons (.str _) (.cons (.str _) (.cons (.bl _) .nil)))
end K01
set_option Elab.async false
set_option linter.all false
set_option maxRecDepth 100000
set_option maxHeartbeats 4000000
namespace K01
open K34 PySem PySem.Spec PyProof.Rows L2
/-- the states of the law -/
abbrev SL (a p : Addr) (v2 v3 v4 v5 v6 v7 v8 v9 v10 v11 v12 v13 v14 v15 v16 v17 v18 v19 : Option V) : L2.St := [some (.ref a), some (.ref p), v2, v3, v4, v5, v6, v7, v8, v9, v10, v11, v12, v13, v14, v15, v16, v17, v18, v19]
/-- the loop over columns and rows: a column is equal to another one exactly if their rows are -/
def tZip (K : PySem.W.Frag) : TS := fun D σ H => ∃ (a p m q qm qt one : Addr) (r : Pl) (rs : List Pl) (cs cs2 : List Addr) (v2 v9 v12 v13 v14 v15 v16 v17 v18 v19 : Option V),
  σ = SL a p v2 (some (.ref q)) (some (.ref m)) (some (.ref one)) (some (.str r.n)) (some (.str r.k)) (some (.bl r.b)) v9 (some (.ref qm)) (some (.ref qt)) v12 v13 v14 v15 v16 v17 v18 v19 ∧
  r.ok ∧ ColAt K H one r.n r.k r.b ∧ PlAt H qt rs ∧ rs.length ≤ 8 ∧ H m = some (.lst (cs.map V.ref)) ∧ H qm = some (.lst (cs2.map V.ref)) ∧ (cs ++ cs2).length = rs.length ∧ 0 < cs.length ∧
  (∀ (i : Nat) (c : Addr) (r : Pl), (cs ++ cs2)[i]? = some c → rs[i]? = some r → ColAt K H c r.n r.k r.b) ∧
  ∀ (v12 v13 v14 v15 : Option V) (H' : Hp), Same H H' → D.nx (SL a p v2 (some (.ref q)) (some (.ref m)) (some (.ref one)) (some (.str r.n)) (some (.str r.k)) (some (.bl r.b)) v9 (some (.ref qm)) (some (.ref qt)) v12 v13 v14 v15 v16 v17 v18 v19) H'
section
variable {P : Program} {w : World} {K : PySem.W.Frag} {mg : Str → Option Value} {base : Heap} {f fE : Addr} {fdE : FuncData} {cdv : Value} {A : Around} {outer : List Env} {s : Shared} {H0 : Hp} {E : XK}
theorem blkZip (hr : Room 6 (LX P w K mg base f cdv A outer s H0 E).A) (TZ : mg "zip" = none) (CE : ColE P w K mg base fE fdE) : PS (LX P w K mg base f cdv A outer s H0 E) (nth bOne 5) (tZip K) := by
  have nd : NL.Nodup := scLaw.nd
  have hu64 := hu64_of hr
  have hr1 : Room 1 (LX P w K mg base f cdv A outer s H0 E).A := hr.mono (by decide)
  have base : PS (LX P w K mg base f cdv A outer s H0 E) (nth bOne 5) _ :=
    ps_for PassesOwn.never rfl (pi_zip (by rfl) TZ (pa_cons (pe_op op_cat (pv 4) (pv 10)) (pa_cons (pv 11) pa_nil)))
      (pg_tup rfl (pgs_cons (pg_name (i := 12) nd rfl (Or.inl rfl)) (pgs_cons (pg_tup rfl (pgs_cons (pg_name (i := 13) nd rfl (Or.inl rfl)) (pgs_cons (pg_name (i := 14) nd rfl (Or.inl rfl)) (pgs_cons (pg_name (i := 15) nd rfl (Or.inl rfl)) pgs_nil)))) pgs_nil)))
      (pss_one (ps_if (pt_cmpR op_ne (pe_cmpR (op_eqC CE hr1) (pv 5) (pv 12) (nomark _)) (pe_cmpR (op_eqD hu64) (pe_tup (pa_cons (pv 6) (pa_cons (pv 7) (pa_cons (pv 8) pa_nil)))) (pe_tup (pa_cons (pv 13) (pa_cons (pv 14) (pa_cons (pv 15) pa_nil)))) (nomark _)) (nomark _))
        (pss_one (ps_ret pe_bl)) pss_nil))
  refine ⟨fun pins s' σ H D I h => base.run pins s' σ H D I ?_⟩
  obtain ⟨a, p, m, q, qm, qt, one, r, rs, cs, cs2, v2, v9, v12, v13, v14, v15, v16, v17, v18, v19, rfl, rok, one1, P1, l8, hm, hqm, hl, c0, hc, fin⟩ := h
  have lcs : cs.length ≤ 8 ∧ cs2.length ≤ 8 := by rw [List.length_append] at hl; omega
  refine ⟨_, rfl, _, rfl, m, qm, _, _, rfl, rfl, hm, hqm, ?_, fun z nz => ?_⟩
  · rw [List.length_map, List.length_map, sizeLine_eq]
    omega
  have sz := same_new (o := .lst (cs.map V.ref ++ cs2.map V.ref)) (Same.refl H) nz
  have fz : (upd H z (.lst (cs.map V.ref ++ cs2.map V.ref))) z = some (.lst (cs.map V.ref ++ cs2.map V.ref)) := upd_same
  generalize upd H z (.lst (cs.map V.ref ++ cs2.map V.ref)) = H1 at sz fz ⊢
  rw [← List.map_append] at fz
  refine ⟨_, rfl, z, qt, (cs ++ cs2).map V.ref, rs.map fun r => V.ref r.a, rfl, SqL.of fz, SqL.of (sz _ _ P1.1), ?_⟩
  refine RZ.for_zipL (by rw [List.length_map, List.length_map, hl]) (fun _ σ H' => ∃ (v12 v13 v14 v15 : Option V), σ = SL a p v2 (some (.ref q)) (some (.ref m)) (some (.ref one)) (some (.str r.n)) (some (.str r.k)) (some (.bl r.b)) v9 (some (.ref qm)) (some (.ref qt)) v12 v13 v14 v15 v16 v17 v18 v19 ∧ Same H H' ∧ H' z = some (.lst ((cs ++ cs2).map V.ref)))
    ⟨_, _, _, _, rfl, sz, fz⟩ (fun i σ H' ⟨_, _, _, _, _, s2, f2⟩ => ⟨SqL.of f2, SqL.of (s2 _ _ P1.1)⟩) ?_ ?_
  · rintro i x y T σ H2 hx hy ⟨u12, u13, u14, u15, rfl, s2, f2⟩ nT
    rw [List.getElem?_map] at hx hy
    obtain ⟨c, hcx, rfl⟩ := Option.map_eq_some_iff.mp hx
    obtain ⟨r2, hry, rfl⟩ := Option.map_eq_some_iff.mp hy
    have col := hc i c r2 hcx hry
    have hr2 := P1.2 r2 (List.mem_of_getElem? hry)
    have s3 := same_new (o := .tup [.ref c, .ref r2.a]) s2 nT
    have f3 := up (o := .tup [.ref c, .ref r2.a]) f2 nT
    have t3 : (upd H2 T (.tup [.ref c, .ref r2.a])) T = some (.tup [.ref c, .ref r2.a]) := upd_same
    generalize upd H2 T (.tup [.ref c, .ref r2.a]) = H3 at s3 f3 t3 ⊢
    have row3 := s3 _ _ hr2.1
    refine ⟨T, _, rfl, SqT.of t3, rfl, _, _, rfl, _, _, rfl, r2.a, _, rfl, SqT.of row3, rfl, _, _, rfl, _, _, rfl, _, _, rfl, rfl, rfl, ?_⟩
    refine ⟨_, rfl, _, rfl, one, r.n, r.k, r.b, _, rfl, one1.same s3, .inr ⟨c, r2.n, r2.k, r2.b, rfl, col.same s3, rfl⟩, ?_⟩
    refine ⟨_, rfl, _, rfl, _, rfl, (by show 3 ≤ sizeLine; decide), fun t1 n1 => ?_⟩
    have s4 := same_new (o := .tup [.str r.n, .str r.k, .bl r.b]) s3 n1
    have f4 := up (o := .tup [.str r.n, .str r.k, .bl r.b]) f3 n1
    have e4 : (upd H3 t1 (.tup [.str r.n, .str r.k, .bl r.b])) t1 = some (.tup [.str r.n, .str r.k, .bl r.b]) := upd_same
    generalize upd H3 t1 (.tup [.str r.n, .str r.k, .bl r.b]) = H4 at s4 f4 e4 ⊢
    refine ⟨_, rfl, _, rfl, _, rfl, (by show 3 ≤ sizeLine; decide), fun t2 n2 => ?_⟩
    have s5 := same_new (o := .tup [.str r2.n, .str r2.k, .bl r2.b]) s4 n2
    have f5 := up (o := .tup [.str r2.n, .str r2.k, .bl r2.b]) f4 n2
    have e5 := up (o := .tup [.str r2.n, .str r2.k, .bl r2.b]) e4 n2
    refine ⟨_, _, th_row e5, th_row upd_same, shaped_row _ (word_ok (nm_word rok.1)) (kd_ok rok.2), shaped_row _ (word_ok (nm_word hr2.2.1)) (kd_ok hr2.2.2), rfl, _, rfl, ?_⟩
    refine itF (by rw [eqv_row]; show (!decide (V.bl (decide (r.n = r2.n ∧ r.k = r2.k ∧ r.b = r2.b)) = V.bl (decide (r.n = r2.n ∧ r.k = r2.k ∧ r.b = r2.b)))) = false; rw [decide_eq_true rfl]; rfl) ?_
    exact ⟨_, _, _, _, rfl, s5, f5⟩
  · rintro σ H2 ⟨u12, u13, u14, u15, rfl, s2, f2⟩
    exact fin _ _ _ _ H2 s2
end
end K01
set_option Elab.async false
set_option linter.all false
set_option maxRecDepth 100000
set_option maxHeartbeats 4000000
namespace K01
open K34 PySem PySem.Spec PyProof.Rows L2
/-- the loop over values that are asked for -/
def tAgain (K : PySem.W.Frag) : TS := fun D σ H => ∃ (a p c one : Addr) (ns : List Int) (t l : Int) (r : Pl) (v2 v3 v4 v9 v10 v11 v12 v13 v14 v15 v16 v17 v18 v19 : Option V),
  σ = SL a p v2 v3 v4 (some (.ref one)) (some (.str r.n)) (some (.str r.k)) (some (.bl r.b)) v9 v10 v11 v12 v13 v14 v15 v16 v17 v18 v19 ∧
  r.ok ∧ ColAt K H one r.n r.k r.b ∧ PenAt H p c ns t l ∧ t + 52 < 1000000000000 ∧
  ∀ (v16 v17 v18 : Option V) (t' l' : Int) (H' : Hp), Kp H H' → PenAt H' p c ns t' l' → t' ≤ t + 52 → D.nx (SL a p v2 v3 v4 (some (.ref one)) (some (.str r.n)) (some (.str r.k)) (some (.bl r.b)) v9 v10 v11 v12 v13 v14 v15 v16 v17 v18 v19) H'
theorem bool_show (b : Bool) : (PyData.bool b).showable = true ∧ (PyData.bool b).shown.length ≤ sizeLine ∧ (PyData.bool b).depth ≤ 8 := by cases b <;> decide +kernel
section
variable {P : Program} {w : World} {K : PySem.W.Frag} {mg : Str → Option Value} {base : Heap} {f fV fS fO fD fP fA fLV fW : Addr} {fdV fdS fdO fdD fdP fdA fdLV fdW : FuncData} {cdv : Value} {A : Around} {outer : List Env} {s : Shared} {H0 : Hp} {E : XK}
theorem blkAgain (hr : Room 6 (LX P w K mg base f cdv A outer s H0 E).A) (hga : (LX P w K mg base f cdv A outer s H0 E).A.guards = some []) (T : TxR K mg) (TR : mg "range" = none) (C : ColT K mg)
    (GV : FnOk P w K mg base CX0 2 fV fdV ["self", "value"] (spIsVal K)) (FV : FunD K "is_value" "Column.is_value" (defArgs sIsVal) (defBody sIsVal) (defScope sIsVal) [] [] fV fdV) (MV : Meth K (He.ga K "Column") "is_value" fV)
    (GS : FnOk P w K mg base CX0 4 fS fdS ["_law_pen_here"] (spVal K 13 fun vs p => vs = [.ref p])) (gS : mg "_law_some_value" = some (.ref fS)) (kS : PySem.W.keepIn K (.ref fS) = true) (bS : Binds K fdS ["_law_pen_here"] [])
    (GO : FnOk P w K mg base CX0 2 fO fdO ["_law_sort", "_law_thing"] (spOf K)) (gO : mg "_law_is_of" = some (.ref fO)) (kO : PySem.W.keepIn K (.ref fO) = true) (bO : Binds K fdO ["_law_sort", "_law_thing"] []) :
    PS (LX P w K mg base f cdv A outer s H0 E) (nth bOne 6) (tAgain K) := by
  have nd : NL.Nodup := scLaw.nd
  have hu64 := hu64_of hr
  have base : PS (LX P w K mg base f cdv A outer s H0 E) (nth bOne 6) _ :=
    ps_for PassesOwn.never rfl (pi_range1 rfl TR (pa_cons pe_int pa_nil)) (pg_name (i := 16) nd rfl (Or.inl rfl))
      (pss_cons (ps_set (i := 17) nd rfl (Or.inl rfl) (pe_call GS (hr.mono (by decide)) rfl gS kS bS .nil pass0 (pa_cons (pv 1) pa_nil)))
      (pss_cons (ps_set (i := 18) nd rfl (Or.inl rfl) (pe_ifExp (pt_cmpR op_isN (pv 17) pe_non (nomark _)) (pe_not (pv 8)) (pe_call GO (hr.mono (by decide)) rfl gO kO bO .nil pass0 (pa_cons (pv 7) (pa_cons (pv 17) pa_nil)))))
      (pss_one (ps_if (pt_cmpR op_ne (pe_callB (call_repr hga hu64) (by rfl) T.repr (by decide +kernel) (pa_cons (pe_methK (pv 5) C.cl MV GV (hr.mono (by decide)) (kw_isval FV) (pk_cons (pv 17) pk_nil)) pa_nil)) (pe_callB (call_repr hga hu64) (by rfl) T.repr (by decide +kernel) (pa_cons (pv 18) pa_nil)) (nomark _))
        (pss_one (ps_ret pe_bl)) pss_nil))))
  refine ⟨fun pins s' σ H D I h => base.run pins s' σ H D I ?_⟩
  obtain ⟨a, p, c, one, ns, t, l, r, v2, v3, v4, v9, v10, v11, v12, v13, v14, v15, v16, v17, v18, v19, rfl, rok, col, D0, ht, fin⟩ := h
  refine ⟨4, rfl, by decide, by decide, for_range (lo := 0) (n := 4) (fun i σ H' => ∃ (u16 u17 u18 : Option V) (t' l' : Int), σ = SL a p v2 v3 v4 (some (.ref one)) (some (.str r.n)) (some (.str r.k)) (some (.bl r.b)) v9 v10 v11 v12 v13 v14 v15 u16 u17 u18 v19 ∧ Kp H H' ∧ PenAt H' p c ns t' l' ∧ t' ≤ t + 13 * (i : Int))
    ⟨_, _, _, t, l, rfl, Kp.refl H, D0, by omega⟩ ?_ ?_⟩
  · rintro i σ H1 hi ⟨u16, u17, u18, t1, l1, rfl, k1, D1, ht1⟩
    refine ⟨_, rfl, p, c, ns, t1, l1, rfl, D1, by omega, fun v d t2 l2 H2 th sk h2 D2 b2 => ?_⟩
    have k2 := k1.trans (Kp.but D1.d b2)
    have col2 := col.kp k2
    refine ⟨_, rfl, rfl, ?_⟩
    rw [th_non th]
    cases hn : isNo d with
    | true =>
      refine ⟨_, rfl, ?_⟩
      refine iteT ?_
      refine ⟨_, rfl, _, rfl, ?_⟩
      have ev : valOk r.k r.b d = !r.b := by
        unfold valOk
        rw [if_pos hn]
      generalize (!r.b) = x at ev ⊢
      have col3 := col2
      have th3 := th
      have k3 := k2
      have D3 := D2
      obtain ⟨dx, hcol⟩ := id col3
      refine ⟨_, rfl, one, dx, _, rfl, hcol, rfl, _, rfl, rfl, one, r.n, r.k, r.b, v, d, rfl, col3, th3, sk, fun H4 s4 => ?_⟩
      rw [ev]
      obtain ⟨z1, z2, z3⟩ := bool_show x
      refine ⟨.bl x, .bool x, rfl, .dp (.bl _) rfl, z1, z2, z3, _, rfl, .bl x, .bool x, rfl, .dp (.bl _) rfl, z1, z2, z3, rfl, _, rfl, ?_⟩
      refine itF (by rw [decide_eq_true rfl]; rfl) ?_
      exact ⟨_, _, _, t2, l2, rfl, k3.trans (Kp.of s4), D3.same s4, by push_cast; omega⟩
    | false =>
      refine ⟨_, rfl, ?_⟩
      refine iteF ?_
      refine ⟨_, rfl, _, rfl, r.k, v, d, rfl, th, sk, fun H3 s3 => ?_⟩
      have ev : valOk r.k r.b d = if r.k = "word" then isW d else isN d := by
        unfold valOk
        rw [if_neg (by rw [hn]; exact Bool.false_ne_true)]
        rcases rok.2 with e | e <;> rw [e] <;> rfl
      generalize (if r.k = "word" then isW d else isN d) = x at ev ⊢
      have col3 := col2.same s3
      have th3 := th.same s3
      have k3 := k2.trans (Kp.of s3)
      have D3 := D2.same s3
      obtain ⟨dx, hcol⟩ := id col3
      refine ⟨_, rfl, one, dx, _, rfl, hcol, rfl, _, rfl, rfl, one, r.n, r.k, r.b, v, d, rfl, col3, th3, sk, fun H4 s4 => ?_⟩
      rw [ev]
      obtain ⟨z1, z2, z3⟩ := bool_show x
      refine ⟨.bl x, .bool x, rfl, .dp (.bl _) rfl, z1, z2, z3, _, rfl, .bl x, .bool x, rfl, .dp (.bl _) rfl, z1, z2, z3, rfl, _, rfl, ?_⟩
      refine itF (by rw [decide_eq_true rfl]; rfl) ?_
      exact ⟨_, _, _, t2, l2, rfl, k3.trans (Kp.of s4), D3.same s4, by push_cast; omega⟩
  · rintro σ H2 ⟨u16, u17, u18, t1, l1, rfl, k1, D1, ht1⟩
    exact fin _ _ _ t1 l1 H2 k1 D1 (by omega)
end
end K01
set_option Elab.async false
set_option linter.all false
set_option maxRecDepth 100000
set_option maxHeartbeats 4000000
namespace K01
open K34 PySem PySem.Spec PyProof.Rows L2
theorem row_show {n k : Str} (b : Bool) (h1 : PyData.strOk n = true) (h2 : PyData.strOk k = true) (l1 : n.length ≤ 100) (l2 : k.length ≤ 100) :
    (PyData.tuple [.str n, .str k, .bool b]).showable = true ∧ (PyData.tuple [.str n, .str k, .bool b]).shown.length ≤ sizeLine ∧ (PyData.tuple [.str n, .str k, .bool b]).depth ≤ 8 := by
  refine ⟨rfl, PyData.shown_fits (B := 13) (by decide) (by decide) (PyData.leavesShort_of_canLay0 13 _ ?_ rfl) ?_, ?_⟩
  · show (PyData.strOk n && (PyData.strOk k && true)) = true
    rw [h1, h2]
    rfl
  · have e1 : n.cps.size ≤ 100 := l1
    have e2 : k.cps.size ≤ 100 := l2
    simp only [PyData.weight, PyData.weightAll]
    have : (2 : Nat) ^ 20 = 1048576 := by decide
    omega
  · simp [PyData.depth, PyData.depthAll]
theorem Pl.show {r : Pl} (h : r.ok) : r.dat.showable = true ∧ r.dat.shown.length ≤ sizeLine ∧ r.dat.depth ≤ 8 := by
  refine row_show _ (word_ok (nm_word h.1)) (kd_ok h.2) (by have := word_len (nm_word h.1); omega) ?_
  rcases h.2 with e | e <;> rw [e] <;> decide
theorem nm_ok {n : Str} (h : isNm (.str n) = true) : sOk (.str n) = true := by
  show (decide (n.length ≤ 1000) && PyData.strOk n) = true
  have := word_len (nm_word h)
  rw [word_ok (nm_word h), decide_eq_true (by omega)]
  rfl
theorem kd_in {k : Str} (h : k = "number" ∨ k = "word") : isIn (.str k) kinds = true := by rcases h with rfl | rfl <;> decide +kernel
/-- a column is made -/
theorem rd_init {K : PySem.W.Frag} {H : Hp} {x dx : Addr} {n k : Str} {b : Bool} {W : VK} {E : XK} (hn : isNm (.str n) = true) (hk : k = "number" ∨ k = "word") (h1 : H x = none) (h2 : H dx = none) (ne : dx ≠ x)
    (q : ∀ H', Same H H' → ColAt K H' x n k b → W .non H') : spInit K [.ref x, .str n, .str k, .bl b] (upd (upd H dx (.own x)) x (.ins (He.ga K "Column") dx [])) W E := by
  refine ⟨x, dx, .str n, .str k, .str n, .str k, b, rfl, upd_same, .dp (.str _) rfl, nm_ok hn, .dp (.str _) rfl, (fun e => by rw [hn] at e; cases e), (fun _ e => by rw [kd_in hk] at e; cases e), fun _ _ H' bu hx => q H' (fun c o e => ?_) ⟨dx, hx⟩⟩
  have nx : c ≠ x := ne_of_none e h1
  have nd : c ≠ dx := ne_of_none e h2
  refine bu c o nx ?_
  rw [upd_ne nx, upd_ne nd]
  exact e
/-- the other kind -/
def sib (k : Str) : Str := if k = "number" then "word" else "number"
theorem sib_ok (k : Str) : sib k = "number" ∨ sib k = "word" := by
  unfold sib
  split
  · exact .inr rfl
  · exact .inl rfl
def sibK : List (Key × V) := [(.inr "number", .str "word"), (.inr "word", .str "number")]
theorem get_sib {H : Hp} {d : Addr} {k : Str} (h : H d = some (.dK (mergeK [] sibK))) (hk : k = "number" ∨ k = "word") : DGet H d (.str k) (some (.str (sib k))) := by
  rcases hk with rfl | rfl
  · have g := DGet.k (k := Sum.inr ("number" : Str)) h
    have e : valV (mergeK [] sibK) (.inr ("number" : Str)) = some (.str (sib "number")) := by kernel_rfl
    rw [e] at g
    exact g
  · have g := DGet.k (k := Sum.inr ("word" : Str)) h
    have e : valV (mergeK [] sibK) (.inr ("word" : Str)) = some (.str (sib "word")) := by kernel_rfl
    rw [e] at g
    exact g
/-- a list of rows as data -/
theorem dp_rows {K : PySem.W.Frag} {H : Hp} : ∀ rs : List Pl, (∀ r ∈ rs, r.at_ H ∧ r.ok) → DpAll K H (rs.map fun r => V.ref r.a) (rs.map Pl.dat)
  | [], _ => .nil
  | r :: l, h => .cons (th_row (h r List.mem_cons_self).1) (dp_rows l fun z hz => h z (List.mem_cons_of_mem _ hz))
theorem nodict_rows : ∀ rs : List Pl, PyData.hasDictAll (rs.map Pl.dat) = false
  | [] => rfl
  | r :: l => by
    show (PyData.hasDict r.dat || PyData.hasDictAll (l.map Pl.dat)) = false
    rw [nodict_rows l]
    rfl
theorem th_rows {K : PySem.W.Frag} {H : Hp} {q : Addr} {rs : List Pl} (h : PlAt H q rs) : Th K H (.ref q) (.list (rs.map Pl.dat)) := .dp (.lst (SqL.of h.1) (dp_rows rs h.2)) (nodict_rows rs)
/-- what the loop over one column asks -/
def tOne (K : PySem.W.Frag) : TS := fun D σ H => ∃ (a p c q m one : Addr) (ns : List Int) (t l : Int) (r : Pl) (rs : List Pl) (cs : List Addr) (v2 v9 v10 v11 v12 v13 v14 v15 v16 v17 v18 v19 : Option V),
  σ = SL a p v2 (some (.ref q)) (some (.ref m)) (some (.ref one)) (some (.str r.n)) (some (.str r.k)) (some (.bl r.b)) v9 v10 v11 v12 v13 v14 v15 v16 v17 v18 v19 ∧
  r.ok ∧ ColAt K H one r.n r.k r.b ∧ PlAt H q rs ∧ rs.length ≤ 5 ∧ 0 < cs.length ∧ MadeAt K H m rs cs ∧ PenAt H p c ns t l ∧ t + 52 < 1000000000000 ∧
  ∀ (v9 v10 v11 v12 v13 v14 v15 v16 v17 v18 : Option V) (t' l' : Int) (H' : Hp), Kp H H' → PenAt H' p c ns t' l' → t' ≤ t + 52 →
    D.nx (SL a p v2 (some (.ref q)) (some (.ref m)) (some (.ref one)) (some (.str r.n)) (some (.str r.k)) (some (.bl r.b)) v9 v10 v11 v12 v13 v14 v15 v16 v17 v18 v19) H'
structure PrT (P : Program) (w : World) (K : PySem.W.Frag) (mg : Str → Option Value) (base : Heap) (x : Str) (g : Str → Str → Bool → V) (p a : Addr) (fd : FuncData) : Prop where
  pr : PropOf K (He.ga K "Column") x p a
  ok : FnOk P w K mg base CX0 1 a fd ["self"] (spGet K g)
  b : Binds K fd ["self"] []
section
variable {P : Program} {w : World} {K : PySem.W.Frag} {mg : Str → Option Value} {base : Heap} {f fV fS fO fI fE pN aN pK aK pR aR : Addr} {fdV fdS fdO fdI fdE fdN fdK fdR : FuncData} {cdv : Value} {A : Around} {outer : List Env} {s : Shared} {H0 : Hp} {E : XK}
theorem blkOne (hr : Room 6 (LX P w K mg base f cdv A outer s H0 E).A) (hga : (LX P w K mg base f cdv A outer s H0 E).A.guards = some []) (T : TxR K mg) (TR : mg "range" = none) (TZ : mg "zip" = none) (CE : ColE P w K mg base fE fdE)
    (BZ : PS (LX P w K mg base f cdv A outer s H0 E) (nth bOne 5) (tZip K)) (BG : PS (LX P w K mg base f cdv A outer s H0 E) (nth bOne 6) (tAgain K))
    (MC : Mk K (He.ga K "Column") fI) (GI : FnOk P w K mg base (L2.CX P w) 3 fI fdI psI (spInit K)) (FI : FInit K fI fdI)
    (PN : PrT P w K mg base "name" (fun n _ _ => .str n) pN aN fdN) (PK : PrT P w K mg base "kind" (fun _ k _ => .str k) pK aK fdK) (PR : PrT P w K mg base "is_required" (fun _ _ b => .bl b) pR aR fdR) :
    PSs (LX P w K mg base f cdv A outer s H0 E) bOne (tOne K) := by
  have nd : NL.Nodup := scLaw.nd
  have hu := hu_of hr
  have hu64 := hu64_of hr
  have C : ColT K mg := CE.I.toColT
  have hr4 : Room 4 (LX P w K mg base f cdv A outer s H0 E).A := hr.mono (by decide)
  have hr2 : Room 2 (LX P w K mg base f cdv A outer s H0 E).A := hr.mono (by decide)
  have hr1 : Room 1 (LX P w K mg base f cdv A outer s H0 E).A := hr.mono (by decide)
  obtain ⟨mv, bK⟩ := bindKw FI
  obtain ⟨ds, vds, bP⟩ := bindPos FI
  have base : PSs (LX P w K mg base f cdv A outer s H0 E) bOne _ :=
    pss_cons (ps_if (pt_cmpR op_ne (pe_callB (call_repr hga hu64) (by rfl) T.repr (by decide +kernel) (pa_cons (pe_tup (pa_cons (pe_prop (pv 5) C.cl PN.pr PN.ok hr2 PN.b .nil pass0 (by rfl)) (pa_cons (pe_prop (pv 5) C.cl PK.pr PK.ok hr2 PK.b .nil pass0 (by rfl)) (pa_cons (pe_prop (pv 5) C.cl PR.pr PR.ok hr2 PR.b .nil pass0 (by rfl)) pa_nil)))) pa_nil))
        (pe_callB (call_repr hga hu64) (by rfl) T.repr (by decide +kernel) (pa_cons (pe_tup (pa_cons (pv 6) (pa_cons (pv 7) (pa_cons (pv 8) pa_nil)))) pa_nil)) (nomark _)) (pss_one (ps_ret pe_bl)) pss_nil)
    (pss_cons (ps_if (PW.pt (pw_or (pt_cmpR (op_eqC CE hr1) (pv 5) (pv 6) (nomark _)) (pw_or (pt_cmpR (op_neC CE hr2) (pv 5) (pe_makeK MC GI hr4 (by rfl) C.g bK passL (pa_cons (pv 6) (pa_cons (pv 7) pa_nil)) (pk_cons (pv 8) pk_nil)) (nomark _)) (pw_or1 (pt_not (pt_cmpR (op_neC CE hr2) (pv 5) (pv 3) (nomark _))))))) (pss_one (ps_ret pe_bl)) pss_nil)
    (pss_cons (ps_set (i := 9) nd rfl (Or.inl rfl) (pe_dget hu (pe_disp (pps_cons pe_str pe_str (pps_cons pe_str pe_str pps_nil)) (by rfl) (by rfl) (fun z => by cases z) (by decide)) (pv 7) (fun _ _ => rfl)))
    (pss_cons (ps_set (i := 10) nd rfl (Or.inl rfl) (pe_lst (pa_cons (pe_make MC GI hr4 (by rfl) C.g bP vds passL (pa_cons (pv 6) (pa_cons (pv 7) pa_nil))) (pa_cons (pe_make MC GI hr4 (by rfl) C.g bP vds passL (pa_cons (pv 6) (pa_cons (pv 9) pa_nil))) (pa_cons (pe_makeK MC GI hr4 (by rfl) C.g bK passL (pa_cons (pv 6) (pa_cons (pv 9) pa_nil)) (pk_cons (pv 8) pk_nil)) pa_nil)))))
    (pss_cons (ps_set (i := 11) nd rfl (Or.inl rfl) (pe_op op_cat (pv 3) (pe_lst (pa_cons (pe_tup (pa_cons (pv 6) (pa_cons (pv 7) (pa_cons pe_bl pa_nil)))) (pa_cons (pe_tup (pa_cons (pv 6) (pa_cons (pv 9) (pa_cons pe_bl pa_nil)))) (pa_cons (pe_tup (pa_cons (pv 6) (pa_cons (pv 9) (pa_cons (pv 8) pa_nil)))) pa_nil))))))
    (pss_cons BZ (pss_one BG))))))
  refine PSs.imp base fun D σ H h => ?_
  clear base
  obtain ⟨a, p, c, q, m, one, ns, t, l, r, rs, cs, v2, v9, v10, v11, v12, v13, v14, v15, v16, v17, v18, v19, rfl, rok, col, P1, l5, c0, M1, D0, ht, fin⟩ := h
  obtain ⟨z1, z2, z3⟩ := Pl.show rok
  obtain ⟨dx, hcol⟩ := id col
  refine ⟨_, rfl, one, dx, _, rfl, hcol, one, r.n, r.k, r.b, rfl, col, _, rfl, one, dx, _, rfl, hcol, one, r.n, r.k, r.b, rfl, col, _, rfl, one, dx, _, rfl, hcol, one, r.n, r.k, r.b, rfl, col, (by show 3 ≤ sizeLine; decide), fun t1 n1 => ?_⟩
  have s1 := same_new (o := .tup [.str r.n, .str r.k, .bl r.b]) (Same.refl H) n1
  have e1 : (upd H t1 (.tup [.str r.n, .str r.k, .bl r.b])) t1 = some (.tup [.str r.n, .str r.k, .bl r.b]) := upd_same
  generalize upd H t1 (.tup [.str r.n, .str r.k, .bl r.b]) = H1 at s1 e1 ⊢
  refine ⟨_, r.dat, rfl, .dp (th_row e1) rfl, z1, z2, z3, _, rfl, _, rfl, _, rfl, (by show 3 ≤ sizeLine; decide), fun t2 n2 => ?_⟩
  have s2 := same_new (o := .tup [.str r.n, .str r.k, .bl r.b]) s1 n2
  have e2 : (upd H1 t2 (.tup [.str r.n, .str r.k, .bl r.b])) t2 = some (.tup [.str r.n, .str r.k, .bl r.b]) := upd_same
  generalize upd H1 t2 (.tup [.str r.n, .str r.k, .bl r.b]) = H2 at s2 e2 ⊢
  refine ⟨_, r.dat, rfl, .dp (th_row e2) rfl, z1, z2, z3, rfl, _, rfl, ?_⟩
  refine itF (by rw [decide_eq_true rfl]; rfl) ?_
  clear n1 n2 e1 e2 s1 hcol
  refine ⟨_, rfl, _, rfl, one, r.n, r.k, r.b, false, rfl, col.same s2, .inl ⟨.str r.n, .dp (.str _) rfl, rfl⟩, _, rfl, ?_⟩
  refine iteF ?_
  refine ⟨_, rfl, _, rfl, _, rfl, _, rfl, rfl, rfl, fun x dx h1 h2 ne => rd_init rok.1 rok.2 h1 h2 ne fun H3 s3 c3 => ⟨rfl, ?_⟩⟩
  have s3 := s2.trans s3
  refine ⟨one, r.n, r.k, r.b, true, rfl, col.same s3, .inr ⟨x, _, _, _, rfl, c3, (decide_eq_true ⟨rfl, rfl, rfl⟩).symm⟩, _, rfl, ?_⟩
  refine iteF ?_
  have P3 := P1.same s3
  refine ⟨_, rfl, _, rfl, one, r.n, r.k, r.b, false, rfl, col.same s3, .inl ⟨_, th_rows P3, rfl⟩, _, rfl, ?_⟩
  refine iteF ?_
  clear h1 h2 ne c3 s2
  intro d nd2
  refine ⟨upd_same, sibK, rfl, (by decide), _, rfl, d, .str (sib r.k), rfl, get_sib upd_same rok.2, ?_⟩
  have s4 : Same H (upd (upd H3 d (.dK [])) d (.dK (mergeK [] sibK))) := fun b o e => by
    have n : b ≠ d := ne_of_none (s3 _ _ e) nd2
    rw [upd_ne n, upd_ne n]
    exact s3 _ _ e
  generalize upd (upd H3 d (.dK [])) d (.dK (mergeK [] sibK)) = H4 at s4 ⊢
  clear nd2 s3 P3
  have so := sib_ok r.k
  generalize sib r.k = k2 at so ⊢
  refine ⟨_, rfl, _, rfl, fun x1 dx1 h1 h2 ne => rd_init rok.1 rok.2 h1 h2 ne fun H5 s5 c5 => ⟨rfl, ?_⟩⟩
  have s5 := s4.trans s5
  clear h1 h2 ne s4
  refine ⟨_, rfl, _, rfl, fun x2 dx2 h1 h2 ne => rd_init rok.1 so h1 h2 ne fun H6 s6 c6 => ⟨rfl, ?_⟩⟩
  have c5 := c5.same s6
  have s6 := s5.trans s6
  clear h1 h2 ne s5
  refine ⟨_, rfl, _, rfl, _, rfl, rfl, rfl, fun x3 dx3 h1 h2 ne => rd_init rok.1 so h1 h2 ne fun H7 s7 c7 => ⟨rfl, ?_⟩⟩
  have c5 := c5.same s7
  have c6 := c6.same s7
  have s7 := s6.trans s7
  clear h1 h2 ne s6
  refine ⟨(by show 3 ≤ sizeLine; decide), fun qm nm => ?_⟩
  have s8 := same_new (o := .lst [.ref x1, .ref x2, .ref x3]) (Same.refl H7) nm
  have f8 : (upd H7 qm (.lst [.ref x1, .ref x2, .ref x3])) qm = some (.lst [.ref x1, .ref x2, .ref x3]) := upd_same
  generalize upd H7 qm (.lst [.ref x1, .ref x2, .ref x3]) = H8 at s8 f8 ⊢
  have c5 := c5.same s8
  have c6 := c6.same s8
  have c7 := c7.same s8
  have s8 := s7.trans s8
  clear nm s7
  refine ⟨_, rfl, _, rfl, _, rfl, (by show 3 ≤ sizeLine; decide), fun t1 n1 => ?_⟩
  have s9 := same_new (o := .tup [.str r.n, .str r.k, .bl false]) (Same.refl H8) n1
  have e9 : (upd H8 t1 (.tup [.str r.n, .str r.k, .bl false])) t1 = some (.tup [.str r.n, .str r.k, .bl false]) := upd_same
  generalize upd H8 t1 (.tup [.str r.n, .str r.k, .bl false]) = H9 at s9 e9 ⊢
  have f8 := s9 _ _ f8
  have c5 := c5.same s9
  have c6 := c6.same s9
  have c7 := c7.same s9
  have s9 := s8.trans s9
  clear n1 s8
  refine ⟨_, rfl, _, rfl, (by show 3 ≤ sizeLine; decide), fun t2 n2 => ?_⟩
  have s10 := same_new (o := .tup [.str r.n, .str k2, .bl false]) (Same.refl H9) n2
  have e10 : (upd H9 t2 (.tup [.str r.n, .str k2, .bl false])) t2 = some (.tup [.str r.n, .str k2, .bl false]) := upd_same
  generalize upd H9 t2 (.tup [.str r.n, .str k2, .bl false]) = H10 at s10 e10 ⊢
  have e9 := s10 _ _ e9
  have f8 := s10 _ _ f8
  have c5 := c5.same s10
  have c6 := c6.same s10
  have c7 := c7.same s10
  have s10 := s9.trans s10
  clear n2 s9
  refine ⟨_, rfl, _, rfl, _, rfl, (by show 3 ≤ sizeLine; decide), fun t3 n3 => ?_⟩
  have s11 := same_new (o := .tup [.str r.n, .str k2, .bl r.b]) (Same.refl H10) n3
  have e11 : (upd H10 t3 (.tup [.str r.n, .str k2, .bl r.b])) t3 = some (.tup [.str r.n, .str k2, .bl r.b]) := upd_same
  generalize upd H10 t3 (.tup [.str r.n, .str k2, .bl r.b]) = H11 at s11 e11 ⊢
  have e9 := s11 _ _ e9
  have e10 := s11 _ _ e10
  have f8 := s11 _ _ f8
  have c5 := c5.same s11
  have c6 := c6.same s11
  have c7 := c7.same s11
  have s11 := s10.trans s11
  clear n3 s10
  refine ⟨(by show 3 ≤ sizeLine; decide), fun q2 nq => ?_⟩
  have s12 := same_new (o := .lst [.ref t1, .ref t2, .ref t3]) (Same.refl H11) nq
  have e12 : (upd H11 q2 (.lst [.ref t1, .ref t2, .ref t3])) q2 = some (.lst [.ref t1, .ref t2, .ref t3]) := upd_same
  generalize upd H11 q2 (.lst [.ref t1, .ref t2, .ref t3]) = H12 at s12 e12 ⊢
  have t12 := s11.trans s12
  refine ⟨q, q2, _, _, rfl, rfl, (P1.same t12).1, e12, ?_, fun qt nt => ?_⟩
  · rw [List.length_map, sizeLine_eq]
    show rs.length + 3 ≤ _
    omega
  have s13 := same_new (o := .lst ((rs.map fun r => V.ref r.a) ++ [.ref t1, .ref t2, .ref t3])) (Same.refl H12) nt
  have e13 : (upd H12 qt (.lst ((rs.map fun r => V.ref r.a) ++ [.ref t1, .ref t2, .ref t3]))) qt = some (.lst ((rs.map fun r => V.ref r.a) ++ [.ref t1, .ref t2, .ref t3])) := upd_same
  generalize upd H12 qt (.lst ((rs.map fun r => V.ref r.a) ++ [.ref t1, .ref t2, .ref t3])) = H13 at s13 e13 ⊢
  have t13 := t12.trans s13
  have u13 := s12.trans s13
  have P13 := P1.same t13
  have M13 : MadeAt K H13 m rs cs := M1.kp (Kp.of t13)
  have PL : PlAt H13 qt (rs ++ [⟨t1, r.n, r.k, false⟩, ⟨t2, r.n, k2, false⟩, ⟨t3, r.n, k2, r.b⟩]) := by
    refine ⟨?_, fun r' hr' => ?_⟩
    · rw [e13, List.map_append]
      rfl
    · rcases List.mem_append.mp hr' with z | z
      · exact P13.2 r' z
      · simp only [List.mem_cons, List.not_mem_nil, or_false] at z
        rcases z with rfl | rfl | rfl
        · exact ⟨u13 _ _ e9, rok.1, rok.2⟩
        · exact ⟨u13 _ _ e10, rok.1, so⟩
        · exact ⟨u13 _ _ e11, rok.1, so⟩
  have l8 : (rs ++ [⟨t1, r.n, r.k, false⟩, ⟨t2, r.n, k2, false⟩, (⟨t3, r.n, k2, r.b⟩ : Pl)]).length ≤ 8 := by
    rw [List.length_append]
    show rs.length + 3 ≤ 8
    omega
  have hl : (cs ++ [x1, x2, x3]).length = (rs ++ [⟨t1, r.n, r.k, false⟩, ⟨t2, r.n, k2, false⟩, (⟨t3, r.n, k2, r.b⟩ : Pl)]).length := by
    rw [List.length_append, List.length_append, M13.2.1]
    rfl
  have hc : ∀ (i : Nat) (c : Addr) (r' : Pl), (cs ++ [x1, x2, x3])[i]? = some c → (rs ++ [⟨t1, r.n, r.k, false⟩, ⟨t2, r.n, k2, false⟩, (⟨t3, r.n, k2, r.b⟩ : Pl)])[i]? = some r' → ColAt K H13 c r'.n r'.k r'.b := by
    intro i c r' h1 h2
    by_cases hi : i < rs.length
    · rw [List.getElem?_append_left (by rw [M13.2.1]; exact hi)] at h1
      rw [List.getElem?_append_left hi] at h2
      exact M13.2.2 i c r' h1 h2
    · rw [List.getElem?_append_right (by rw [M13.2.1]; omega), M13.2.1] at h1
      rw [List.getElem?_append_right (by omega)] at h2
      generalize i - rs.length = j at h1 h2
      match j, h1, h2 with
      | 0, h1, h2 =>
        cases h1
        cases h2
        exact c5.same u13
      | 1, h1, h2 =>
        cases h1
        cases h2
        exact c6.same u13
      | 2, h1, h2 =>
        cases h1
        cases h2
        exact c7.same u13
      | j + 3, h1, h2 => cases h1
  have col13 := col.same t13
  refine ⟨a, p, m, q, qm, qt, one, r, _, cs, [x1, x2, x3], v2, _, _, _, _, _, _, _, _, _, rfl, rok, col13, PL, l8, M13.1, u13 _ _ f8, hl, c0, hc, fun v12 v13 v14 v15 H14 s14 => ?_⟩
  refine ⟨a, p, c, one, ns, t, l, r, _, _, _, _, _, _, _, _, _, _, _, _, _, _, rfl, rok, col13.same s14, D0.same (t13.trans s14), ht, fun v16 v17 v18 t' l' H15 k15 D15 h15 => ?_⟩
  exact fin _ _ _ _ _ _ _ _ _ _ t' l' H15 ((Kp.of (t13.trans s14)).trans k15) D15 h15
end
end K01
set_option Elab.async false
set_option linter.all false
set_option maxRecDepth 100000
set_option maxHeartbeats 4000000
namespace K01
open K34 PySem PySem.Spec PyProof.Rows L2 LamX
theorem dp_ext {K : PySem.W.Frag} {H H' : Hp} (e : ExtN H H') : ∀ (d : PyData) (v : V), Dp K H v d → Dp K H' v d := by
  have sT : ∀ {a : Addr} {xs : List V}, SqT K H a xs → SqT K H' a xs := fun {a xs} h => by
    rcases h with (h | ⟨o, h⟩) | h
    · exact .inl (.inl (e _ _ h (fun _ z => by cases z)))
    · exact .inl (.inr ⟨o, e _ _ h (fun _ z => by cases z)⟩)
    · exact .inr h
  have sL : ∀ {a : Addr} {xs : List V}, SqL K H a xs → SqL K H' a xs := fun {a xs} h => by
    rcases h with (h | ⟨o, h⟩) | h
    · exact .inl (.inl (e _ _ h (fun _ z => by cases z)))
    · exact .inl (.inr ⟨o, e _ _ h (fun _ z => by cases z)⟩)
    · exact .inr h
  intro d v h
  exact Dp.rec (motive_1 := fun v d _ => Dp K H' v d) (motive_2 := fun vs ds _ => DpAll K H' vs ds) .non .bl .int .str (fun h1 _ ih => .lst (sL h1) ih) (fun h1 _ ih => .tup (sT h1) ih) .nil (fun _ _ i1 i2 => .cons i1 i2) h
theorem th_ext {K : PySem.W.Frag} {H H' : Hp} {v : V} {d : PyData} (e : ExtN H H') (h : Th K H v d) : Th K H' v d := by
  cases h with
  | dp h n => exact .dp (dp_ext e _ _ h) n
  | @d0 a h => exact .d0 (e a _ h (fun _ z => by cases z))
  | @d1 a h => exact .d1 (e a _ h (fun _ z => by cases z))
theorem pen_ext {H H' : Hp} {p c : Addr} {ns : List Int} {t l : Int} (D : PenAt H p c ns t l) (e : ExtN H H') : PenAt H' p c ns t l := ⟨e _ _ D.d (fun _ z => by cases z), e _ _ D.c (fun _ z => by cases z), D.ht, D.hl, D.hn⟩
/-- what Column(u, v) leaves, whatever its values are -/
theorem rd_met {K : PySem.W.Frag} {H : Hp} {x dx : Addr} {u v : V} {dt ds : PyData} {b : Bool} {Q : VK} {W : VK} (tu : Th K H u dt) (ou : aOk dt = true) (tv : Th K H v ds) (ov : aOk ds = true) (h1 : H x = none) (h2 : H dx = none) (ne : dx ≠ x)
    (hW : ∀ H', Same H H' → dueD dt ds = none → W .non H') (hQ : ∀ y z, dueD dt ds = some (y, z) → ∀ q H', Same H H' → H' q = none → Q (.ref q) (upd H' q (.tup [.str y, .str z, .bl true]))) :
    spInit K [.ref x, u, v, .bl b] (upd (upd H dx (.own x)) x (.ins (He.ga K "Column") dx [])) W (MetW K Q) := by
  have s0 : Same H (upd (upd H dx (.own x)) x (.ins (He.ga K "Column") dx [])) := same_new (same_new (Same.refl H) h2) (by rw [upd_ne (Ne.symm ne)]; exact h1)
  refine ⟨x, dx, u, v, dt, ds, b, rfl, upd_same, tu.same s0, (aok_of ou).o, tv.same s0, fun e => ?_, fun e1 e2 => ?_, fun e1 e2 H' bu hx => ?_⟩
  · intro d H' hd s1 hxd
    refine ⟨d, u, dt, _, "word", rfl, rfl, hxd, tu.same (s0.trans s1), (aok_of ou).k, .inl ⟨rfl, rfl⟩, fun q nq => hQ _ _ ?_ q H' (s0.trans s1) nq⟩
    unfold dueD
    rw [if_neg (by rw [e]; exact Bool.false_ne_true)]
  · intro d H' hd s1 hxd
    refine ⟨d, v, ds, _, "sort", rfl, rfl, hxd, tv.same (s0.trans s1), (aok_of ov).k, .inr ⟨rfl, rfl⟩, fun q nq => hQ _ _ ?_ q H' (s0.trans s1) nq⟩
    unfold dueD
    rw [if_pos e1, if_neg (by rw [e2]; exact Bool.false_ne_true)]
  · refine hW H' (fun c o e => ?_) ?_
    · have nx : c ≠ x := ne_of_none e h1
      exact bu c o nx (s0 _ _ e)
    · unfold dueD
      rw [if_pos e1, if_pos e2]
theorem due_ok {dt ds : PyData} {y z : Str} (ou : aOk dt = true) (ov : aOk ds = true) (h : dueD dt ds = some (y, z)) : SeqAt.shaped (.tuple [.str y, .str z, .bool true]) = true := by
  unfold dueD at h
  split at h
  · split at h
    · cases h
    · cases h
      exact shaped_row _ (by decide +kernel) (aok_of ov).u
  · cases h
    exact shaped_row _ (by decide +kernel) (aok_of ou).u
def qL : Str := "law.<locals>.<lambda>"
/-- the question whether a call raises what is due -/
def tMetW (K : PySem.W.Frag) (T : List (Addr × Str)) : TS := fun D σ H => ∃ (u v : V) (dt ds : PyData), σ[6]? = some (some u) ∧ σ[7]? = some (some v) ∧ Th K H u dt ∧ aOk dt = true ∧ Th K H v ds ∧ aOk ds = true ∧ Tabs T H ∧ ∀ H', ExtN H H' → Tabs T H' → D.nx σ H'
section
variable {P : Program} {w : World} {K : PySem.W.Frag} {mg : Str → Option Value} {base : Heap} {f fI fM fDu : Addr} {fdI fdDu : FuncData} {cdv : Value} {A : Around} {outer : List Env} {s : Shared} {H0 : Hp} {E : XK} {c PT : Addr}
theorem blkMet1 (hr : Room 6 (LX P w K mg base f cdv A outer s H0 E).A) (hga : (LX P w K mg base f cdv A outer s H0 E).A.guards = some []) (C : ColT K mg) (MC : Mk K (He.ga K "Column") fI) (GI : FnOk P w K mg base (L2.CX P w) 3 fI fdI psI (spInit K)) (FI : FInit K fI fdI)
    (TM : MetT K mg) {dV kV doc pm cdm ct oc : Value} {an od : Option Addr} {osl : Array (Option Value)} (lk : K.lookup fM = some ⟨oc, od, .func (PySem.W.fnOf "_law_met" "_law_met" (defArgs sMet) (defBody sMet) (defScope sMet) dV kV doc pm an cdm ct), osl⟩) (hcm : PySem.W.codeIn K cdm "_law_met" = true)
    (bM : Binds K (PySem.W.fnOf "_law_met" "_law_met" (defArgs sMet) (defBody sMet) (defScope sMet) dV kV doc pm an cdm ct) ["_law_call"] []) (gM : mg "_law_met" = some (.ref fM)) (kM : PySem.W.keepIn K (.ref fM) = true)
    (GD : FnG P w K mg base 3 fDu fdDu ["_law_title", "_law_sort"] (spDue K)) (gD : mg "_law_due" = some (.ref fDu)) (kD : PySem.W.keepIn K (.ref fDu) = true) (bD : Binds K fdDu ["_law_title", "_law_sort"] [])
    (TB : TabB base mg c PT) (hcd : cdv = .ref c) :
    PS (LX P w K mg base f cdv A outer s H0 E) (nth bTurn 7) (tMetW K [(PT, qL)]) := by
  have nd : NL.Nodup := scLaw.nd
  have hu64 := hu64_of hr
  have hr3 : Room 3 (LX P w K mg base f cdv A outer s H0 E).A := hr.mono (by decide)
  obtain ⟨dvs, vds, bP⟩ := bindPos FI
  have base : PS (LX P w K mg base f cdv A outer s H0 E) (nth bTurn 7) _ :=
    ps_if (pt_cmpR (op_neD hu64) (pe_lamcall (T := [(PT, qL)]) (TT := TTmet K) (by rfl) gM kM lk hcm bM scMet (by rfl) (.inl rfl) (met_gives TM hga hr3) TB hcd (List.mem_singleton.mpr (by rfl)) (fun q hq _ => by rw [List.mem_singleton.mp hq]; rfl) hr (lamS_by (sc := defScope sLaw) (by decide +kernel)) (by rfl) (fun _ _ _ _ _ => by rfl)
        (fun A outer s H E f c' hr' => pe_make MC GI hr' (by rfl) C.g bP vds (passes_call (takes_of rfl rfl rfl rfl) (fun _ _ _ _ h => h)) (pa_cons (pv 6) (pa_cons (pv 7) pa_nil))))
      (pe_callG GD hga hr3 rfl gD kD bD (pa_cons (pv 6) (pa_cons (pv 7) pa_nil))) (nomark _)) (pss_one (ps_ret pe_bl)) pss_nil
  refine ⟨fun pins s' σ H D I h => base.run pins s' σ H D I ?_⟩
  clear base
  obtain ⟨u, v, dt, ds, h6, h7, tu, ou, tv, ov, hT, fin⟩ := h
  have T6 : σ[6]? = some (some u) := h6
  refine ⟨hT, fun H1 e1 T1 => ⟨u, h6, v, h7, fun x dx n1 n2 ne => rd_met (th_ext e1 tu) ou (th_ext e1 tv) ov n1 n2 ne ?_ ?_⟩⟩
  · intro H2 s2 e
    refine ⟨rfl, ?_⟩
    have k2 : ExtN H H2 := e1.trans (ExtN.of s2)
    refine ⟨u, h6, v, h7, u, v, dt, ds, rfl, th_ext k2 tu, ou, th_ext k2 tv, ov, ?_⟩
    rw [e]
    intro H3 s3
    refine ⟨.none, .none, .non, .non, rfl, rfl, _, rfl, ?_⟩
    refine iteF ?_
    exact fin H3 (k2.trans (ExtN.of s3)) ((T1.ext s2).ext s3)
  · intro y z e q H2 s2 nq
    have s2 := same_new (o := .tup [.str y, .str z, .bl true]) s2 nq
    have f2 : (upd H2 q (.tup [.str y, .str z, .bl true])) q = some (.tup [.str y, .str z, .bl true]) := upd_same
    generalize upd H2 q (.tup [.str y, .str z, .bl true]) = H3 at s2 f2 ⊢
    have k2 : ExtN H H3 := e1.trans (ExtN.of s2)
    refine ⟨u, h6, v, h7, u, v, dt, ds, rfl, th_ext k2 tu, ou, th_ext k2 tv, ov, ?_⟩
    rw [e]
    intro q4 H4 s4 f4
    refine ⟨_, _, th_row (s4 _ _ f2), th_row f4, due_ok ou ov e, due_ok ou ov e, _, rfl, ?_⟩
    refine itF (by rw [eqv_row, decide_eq_true ⟨rfl, rfl, rfl⟩]; rfl) ?_
    exact fin H4 (k2.trans (ExtN.of s4)) ((T1.ext s2).ext s4)
theorem blkMet2 (hr : Room 6 (LX P w K mg base f cdv A outer s H0 E).A) (hga : (LX P w K mg base f cdv A outer s H0 E).A.guards = some []) (C : ColT K mg) (MC : Mk K (He.ga K "Column") fI) (GI : FnOk P w K mg base (L2.CX P w) 3 fI fdI psI (spInit K)) (FI : FInit K fI fdI)
    (TM : MetT K mg) {dV kV doc pm cdm ct oc : Value} {an od : Option Addr} {osl : Array (Option Value)} (lk : K.lookup fM = some ⟨oc, od, .func (PySem.W.fnOf "_law_met" "_law_met" (defArgs sMet) (defBody sMet) (defScope sMet) dV kV doc pm an cdm ct), osl⟩) (hcm : PySem.W.codeIn K cdm "_law_met" = true)
    (bM : Binds K (PySem.W.fnOf "_law_met" "_law_met" (defArgs sMet) (defBody sMet) (defScope sMet) dV kV doc pm an cdm ct) ["_law_call"] []) (gM : mg "_law_met" = some (.ref fM)) (kM : PySem.W.keepIn K (.ref fM) = true)
    (GD : FnG P w K mg base 3 fDu fdDu ["_law_title", "_law_sort"] (spDue K)) (gD : mg "_law_due" = some (.ref fDu)) (kD : PySem.W.keepIn K (.ref fDu) = true) (bD : Binds K fdDu ["_law_title", "_law_sort"] [])
    (TB : TabB base mg c PT) (hcd : cdv = .ref c) :
    PS (LX P w K mg base f cdv A outer s H0 E) (nth bTurn 8) (tMetW K [(PT, qL)]) := by
  have nd : NL.Nodup := scLaw.nd
  have hu64 := hu64_of hr
  have hr3 : Room 3 (LX P w K mg base f cdv A outer s H0 E).A := hr.mono (by decide)
  obtain ⟨mv, bA⟩ := bindAll FI
  have base : PS (LX P w K mg base f cdv A outer s H0 E) (nth bTurn 8) _ :=
    ps_if (pt_cmpR (op_neD hu64) (pe_lamcall (T := [(PT, qL)]) (TT := TTmet K) (by rfl) gM kM lk hcm bM scMet (by rfl) (.inl rfl) (met_gives TM hga hr3) TB hcd (List.mem_singleton.mpr (by rfl)) (fun q hq _ => by rw [List.mem_singleton.mp hq]; rfl) hr (lamS_by (sc := defScope sLaw) (by decide +kernel)) (by rfl) (fun _ _ _ _ _ => by rfl)
        (fun A outer s H E f c' hr' => pe_makeK0 MC GI hr' (by rfl) C.g bA (passes_call (takes_of rfl rfl rfl rfl) (fun _ _ _ _ h => h)) (pk_cons (pv 7) (pk_cons pe_bl (pk_cons (pv 6) pk_nil)))))
      (pe_callG GD hga hr3 rfl gD kD bD (pa_cons (pv 6) (pa_cons (pv 7) pa_nil))) (nomark _)) (pss_one (ps_ret pe_bl)) pss_nil
  refine ⟨fun pins s' σ H D I h => base.run pins s' σ H D I ?_⟩
  clear base
  obtain ⟨u, v, dt, ds, h6, h7, tu, ou, tv, ov, hT, fin⟩ := h
  have T6 : σ[6]? = some (some u) := h6
  refine ⟨hT, fun H1 e1 T1 => ⟨v, h7, u, h6, rfl, rfl, fun x dx n1 n2 ne => rd_met (th_ext e1 tu) ou (th_ext e1 tv) ov n1 n2 ne ?_ ?_⟩⟩
  · intro H2 s2 e
    refine ⟨rfl, ?_⟩
    have k2 : ExtN H H2 := e1.trans (ExtN.of s2)
    refine ⟨u, h6, v, h7, u, v, dt, ds, rfl, th_ext k2 tu, ou, th_ext k2 tv, ov, ?_⟩
    rw [e]
    intro H3 s3
    refine ⟨.none, .none, .non, .non, rfl, rfl, _, rfl, ?_⟩
    refine iteF ?_
    exact fin H3 (k2.trans (ExtN.of s3)) ((T1.ext s2).ext s3)
  · intro y z e q H2 s2 nq
    have s2 := same_new (o := .tup [.str y, .str z, .bl true]) s2 nq
    have f2 : (upd H2 q (.tup [.str y, .str z, .bl true])) q = some (.tup [.str y, .str z, .bl true]) := upd_same
    generalize upd H2 q (.tup [.str y, .str z, .bl true]) = H3 at s2 f2 ⊢
    have k2 : ExtN H H3 := e1.trans (ExtN.of s2)
    refine ⟨u, h6, v, h7, u, v, dt, ds, rfl, th_ext k2 tu, ou, th_ext k2 tv, ov, ?_⟩
    rw [e]
    intro q4 H4 s4 f4
    refine ⟨_, _, th_row (s4 _ _ f2), th_row f4, due_ok ou ov e, due_ok ou ov e, _, rfl, ?_⟩
    refine itF (by rw [eqv_row, decide_eq_true ⟨rfl, rfl, rfl⟩]; rfl) ?_
    exact fin H4 (k2.trans (ExtN.of s4)) ((T1.ext s2).ext s4)
end
end K01
set_option Elab.async false
set_option linter.all false
set_option maxRecDepth 100000
set_option maxHeartbeats 4000000
namespace K01
open K34 PySem PySem.Spec PyProof.Rows L2 LamX
theorem ColAt.put {K : PySem.W.Frag} {H : Hp} {a R : Addr} {n k : Str} {b : Bool} {l l' : List V} (c : ColAt K H a n k b) (h : H R = some (.lst l)) : ColAt K (upd H R (.lst l')) a n k b := by
  obtain ⟨dx, e⟩ := c
  exact ⟨dx, by rw [upd_ne (ne_of e h (by intro z; cases z))]; exact e⟩
/-- the columns are made -/
def tMade (K : PySem.W.Frag) : TS := fun D σ H => ∃ (a p q : Addr) (rs : List Pl) (v2 v4 v5 v6 v7 v8 v9 v10 v11 v12 v13 v14 v15 v16 v17 v18 v19 : Option V),
  σ = SL a p v2 (some (.ref q)) v4 v5 v6 v7 v8 v9 v10 v11 v12 v13 v14 v15 v16 v17 v18 v19 ∧ PlAt H q rs ∧ rs.length ≤ 5 ∧
  ∀ (m : Addr) (cs : List Addr) (H' : Hp), Same H H' → MadeAt K H' m rs cs → D.nx (SL a p v2 (some (.ref q)) (some (.ref m)) v5 v6 v7 v8 v9 v10 v11 v12 v13 v14 v15 v16 v17 v18 v19) H'
/-- each column is looked at -/
def tFors (K : PySem.W.Frag) : TS := fun D σ H => ∃ (a p c q m : Addr) (ns : List Int) (t l : Int) (rs : List Pl) (cs : List Addr) (v2 v5 v6 v7 v8 v9 v10 v11 v12 v13 v14 v15 v16 v17 v18 v19 : Option V),
  σ = SL a p v2 (some (.ref q)) (some (.ref m)) v5 v6 v7 v8 v9 v10 v11 v12 v13 v14 v15 v16 v17 v18 v19 ∧ PlAt H q rs ∧ rs.length ≤ 5 ∧ MadeAt K H m rs cs ∧ PenAt H p c ns t l ∧ t + 260 < 1000000000000 ∧
  ∀ (v5 v6 v7 v8 v9 v10 v11 v12 v13 v14 v15 v16 v17 v18 : Option V) (t' l' : Int) (H' : Hp), Kp H H' → PenAt H' p c ns t' l' → t' ≤ t + 260 →
    D.nx (SL a p v2 (some (.ref q)) (some (.ref m)) v5 v6 v7 v8 v9 v10 v11 v12 v13 v14 v15 v16 v17 v18 v19) H'
section
variable {P : Program} {w : World} {K : PySem.W.Frag} {mg : Str → Option Value} {base : Heap} {f fI : Addr} {fdI : FuncData} {cdv : Value} {A : Around} {outer : List Env} {s : Shared} {H0 : Hp} {E : XK}
theorem blkMade (hr : Room 6 (LX P w K mg base f cdv A outer s H0 E).A) (C : ColT K mg) (MC : Mk K (He.ga K "Column") fI) (GI : FnOk P w K mg base (L2.CX P w) 3 fI fdI psI (spInit K)) (FI : FInit K fI fdI) :
    PS (LX P w K mg base f cdv A outer s H0 E) (nth bTurn 1) (tMade K) := by
  have nd : NL.Nodup := scLaw.nd
  have hr4 : Room 4 (LX P w K mg base f cdv A outer s H0 E).A := hr.mono (by decide)
  obtain ⟨mv, bK⟩ := bindKw FI
  have base : PS (LX P w K mg base f cdv A outer s H0 E) (nth bTurn 1) _ :=
    ps_setLc (i := 4) (own := [("_law_title", 6), ("_law_sort", 7), ("_law_must", 8)]) (g := gTup K 3 (gCons (gName 6) (gCons (gName 7) (gCons (gName 8) gNil)))) (tt := tYes) rfl nd rfl rfl (sw_true rfl rfl rfl (by decide +kernel)) (pi_list (pv 3))
      (blkOk_by (N := NL) (sc := defScope sLaw) (by decide +kernel)) (fun _ _ _ _ _ => pg_tup rfl (pgs_cons (pg_name (i := 6) nd rfl (Or.inl rfl)) (pgs_cons (pg_name (i := 7) nd rfl (Or.inl rfl)) (pgs_cons (pg_name (i := 8) nd rfl (Or.inl rfl)) pgs_nil)))) (fun _ _ _ _ _ => pts_nil)
      (fun _ _ _ _ _ => pe_makeK MC GI hr4 (by rfl) C.g bK passL (pa_cons (pv 6) (pa_cons (pv 7) pa_nil)) (pk_cons (pv 8) pk_nil))
  refine ⟨fun pins s' σ H D I h => base.run pins s' σ H D I ?_⟩
  clear base
  obtain ⟨a, p, q, rs, v2, v4, v5, v6, v7, v8, v9, v10, v11, v12, v13, v14, v15, v16, v17, v18, v19, rfl, P1, l5, fin⟩ := h
  refine ⟨_, rfl, q, rfl, ⟨_, SqL.of P1.1⟩, fun R hR => ?_⟩
  have hR : H R = none := hR
  refine lc_it (walk_list (K := K) (a := q) (xs := rs.map fun r => V.ref r.a)) (fun i H3 => ∃ cs : List Addr, H3 R = some (.lst (cs.map V.ref)) ∧ cs.length = i ∧ (∀ (j : Nat) (c : Addr) (r : Pl), cs[j]? = some c → rs[j]? = some r → ColAt K H3 c r.n r.k r.b) ∧ Same H H3)
    ⟨[], upd_same, rfl, fun j c r z => by simp at z, same_new (Same.refl H) hR⟩ (fun i H3 _ ⟨cs, _, _, _, y⟩ => SqL.of (y _ _ P1.1)) ?_ ?_
  · rintro i x' H3 H4 hi ⟨cs, y1, y2, y3, y4⟩ ⟨rfl, hx'⟩
    have hx' : (rs.map fun r => V.ref r.a)[i]? = some x' := hx'
    rw [List.getElem?_map] at hx'
    obtain ⟨r, hri, rfl⟩ := Option.map_eq_some_iff.mp hx'
    have hr := P1.2 r (List.mem_of_getElem? hri)
    refine ⟨r.a, _, rfl, SqT.of (y4 _ _ hr.1), rfl, _, _, rfl, _, _, rfl, _, _, rfl, rfl, rfl, ?_⟩
    unfold tYes
    dsimp only
    refine iteT ?_
    have s4 := Same.refl H4
    refine ⟨_, rfl, _, rfl, _, rfl, rfl, rfl, fun x dx n1 n2 ne => rd_init hr.2.1 hr.2.2 n1 n2 ne fun H5 s5 c5 => ⟨rfl, cs.map V.ref, s5 _ _ y1, ?_, cs ++ [x], ?_, ?_, fun j c' r' h1 h2 => ?_, fun b o e => ?_⟩⟩
    · rw [List.length_map, y2, sizeLine_eq]
      have : i < (rs.map fun r => V.ref r.a).length := hi
      rw [List.length_map] at this
      omega
    · rw [upd_same, List.map_append]
      rfl
    · rw [List.length_append, y2]
      rfl
    · have e5 := s5 _ _ y1
      by_cases hj : j < cs.length
      · rw [List.getElem?_append_left hj] at h1
        exact ((y3 j c' r' h1 h2).same s5).put e5
      · rw [List.getElem?_append_right (by omega)] at h1
        have ej : j = i := by
          have := (List.getElem?_eq_some_iff.mp h1).1
          simp at this
          omega
        subst ej
        rw [y2, Nat.sub_self] at h1
        cases h1
        rw [hri] at h2
        cases h2
        exact c5.put e5
    · rw [upd_ne (ne_of_none e hR)]
      exact s5 _ _ (y4 _ _ e)
  · rintro H3 ⟨cs, y1, y2, y3, y4⟩
    rw [List.length_map] at y2
    exact fin R cs H3 y4 ⟨y1, y2, y3⟩
theorem blkFor (hr : Room 6 (LX P w K mg base f cdv A outer s H0 E).A) (TZ : mg "zip" = none) (B : PSs (LX P w K mg base f cdv A outer s H0 E) bOne (tOne K)) : PS (LX P w K mg base f cdv A outer s H0 E) (nth bTurn 2) (tFors K) := by
  have nd : NL.Nodup := scLaw.nd
  have base : PS (LX P w K mg base f cdv A outer s H0 E) (nth bTurn 2) _ :=
    ps_for PassesOwn.never rfl (pi_zip (by rfl) TZ (pa_cons (pv 4) (pa_cons (pv 3) pa_nil)))
      (pg_tup rfl (pgs_cons (pg_name (i := 5) nd rfl (Or.inl rfl)) (pgs_cons (pg_tup rfl (pgs_cons (pg_name (i := 6) nd rfl (Or.inr rfl)) (pgs_cons (pg_name (i := 7) nd rfl (Or.inr rfl)) (pgs_cons (pg_name (i := 8) nd rfl (Or.inl rfl)) pgs_nil)))) pgs_nil))) B
  refine ⟨fun pins s' σ H D I h => base.run pins s' σ H D I ?_⟩
  clear base
  obtain ⟨a, p, c, q, m, ns, t, l, rs, cs, v2, v5, v6, v7, v8, v9, v10, v11, v12, v13, v14, v15, v16, v17, v18, v19, rfl, P1, l5, M1, D0, ht, fin⟩ := h
  have hl := M1.2.1
  refine ⟨_, rfl, _, rfl, m, q, cs.map V.ref, rs.map fun r => V.ref r.a, rfl, SqL.of M1.1, SqL.of P1.1, ?_⟩
  refine RZ.for_zipL (by rw [List.length_map, List.length_map, hl]) (fun i σ H' => ∃ (u5 u6 u7 u8 u9 u10 u11 u12 u13 u14 u15 u16 u17 u18 : Option V) (t' l' : Int), σ = SL a p v2 (some (.ref q)) (some (.ref m)) u5 u6 u7 u8 u9 u10 u11 u12 u13 u14 u15 u16 u17 u18 v19 ∧ Kp H H' ∧ PenAt H' p c ns t' l' ∧ t' ≤ t + 52 * (i : Int))
    ⟨_, _, _, _, _, _, _, _, _, _, _, _, _, _, t, l, rfl, Kp.refl H, D0, by omega⟩ (fun i σ H' ⟨_, _, _, _, _, _, _, _, _, _, _, _, _, _, _, _, _, k, _⟩ => ⟨SqL.of (M1.kp k).1, SqL.of (P1.kp k).1⟩) ?_ ?_
  · rintro i x y T σ H2 hx hy ⟨u5, u6, u7, u8, u9, u10, u11, u12, u13, u14, u15, u16, u17, u18, t2, l2, rfl, k2, D2, h2⟩ nT
    rw [List.getElem?_map] at hx hy
    obtain ⟨one, hcx, rfl⟩ := Option.map_eq_some_iff.mp hx
    obtain ⟨r, hry, rfl⟩ := Option.map_eq_some_iff.mp hy
    have li : i < rs.length := (List.getElem?_eq_some_iff.mp hry).1
    have s3 := same_new (o := .tup [.ref one, .ref r.a]) (Same.refl H2) nT
    have t3 : (upd H2 T (.tup [.ref one, .ref r.a])) T = some (.tup [.ref one, .ref r.a]) := upd_same
    generalize upd H2 T (.tup [.ref one, .ref r.a]) = H3 at s3 t3 ⊢
    have k3 := k2.trans (Kp.of s3)
    have M3 := M1.kp k3
    have P3 := P1.kp k3
    have row3 := P3.2 r (List.mem_of_getElem? hry)
    refine ⟨T, _, rfl, SqT.of t3, rfl, _, _, rfl, _, _, rfl, r.a, _, rfl, SqT.of row3.1, rfl, _, _, rfl, _, _, rfl, _, _, rfl, rfl, rfl, ?_⟩
    refine ⟨a, p, c, q, m, one, ns, t2, l2, r, rs, cs, _, _, _, _, _, _, _, _, _, _, _, _, rfl, row3.2, M3.2.2 i one r hcx hry, P3, l5, by omega, M3, D2.same s3, by omega, fun w9 w10 w11 w12 w13 w14 w15 w16 w17 w18 t' l' H' k' D' h' => ?_⟩
    exact ⟨_, _, _, _, _, _, _, _, _, _, _, _, _, _, t', l', rfl, k3.trans k', D', by push_cast; omega⟩
  · rintro σ H2 ⟨u5, u6, u7, u8, u9, u10, u11, u12, u13, u14, u15, u16, u17, u18, t2, l2, rfl, k2, D2, h2⟩
    rw [List.length_map, hl] at h2
    exact fin _ _ _ _ _ _ _ _ _ _ _ _ _ _ t2 l2 H2 k2 D2 (by omega)
end
end K01
set_option Elab.async false
set_option linter.all false
set_option maxRecDepth 100000
set_option maxHeartbeats 4000000
namespace K01
open K34 PySem PySem.Spec PyProof.Rows L2 LamX
theorem tabs_kp {T : List (Addr × Str)} {H H' : Hp} (t : Tabs T H) (k : Kp H H') : Tabs T H' := fun p hp => by
  obtain ⟨ps, h1, h2, h3⟩ := t p hp
  refine ⟨ps, k _ _ (by intro kvs z; cases z) h1, h2, fun pos cv hc => ?_⟩
  obtain ⟨c, e1, e2⟩ := h3 pos cv hc
  exact ⟨c, e1, k _ _ (by intro kvs z; cases z) e2⟩
/-- a drawn value -/
def Val (K : PySem.W.Frag) (H : Hp) (x : V) : Prop := ∃ d, Th K H x d ∧ aOk d = true
theorem Val.str {K : PySem.W.Frag} {H : Hp} {x : Str} (h : aOk (.str x) = true) : Val K H (.str x) := ⟨_, .dp (.str x) rfl, h⟩
theorem Val.same {K : PySem.W.Frag} {H H' : Hp} {x : V} (h : Val K H x) (s : Same H H') : Val K H' x := let ⟨d, a, b⟩ := h; ⟨d, a.same s, b⟩
theorem Val.but {K : PySem.W.Frag} {H H' : Hp} {x : V} {p c : Addr} {t l : Int} (h : Val K H x) (hp : H p = some (.dK (penK c t l))) (s : But p H H') : Val K H' x := let ⟨d, a, b⟩ := h; ⟨d, th_but hp s a, b⟩
def wrds : List Str := ["limit", "columns", "into", "zzzzzzzz", "zzzzzzzza", "", "A", "a1", "number", "word", "name"]
def wrds2 : List Str := ["self", "a\n"]
theorem wrds_ok : ∀ x ∈ wrds ++ wrds2, aOk (.str x) = true := by decide +kernel
theorem srt_ok : ∀ x ∈ (["number", "word", "words", "Number", "a"] : List Str), aOk (.str x) = true := by decide +kernel
theorem seq_ok : aOk (.tuple [.str "number"]) = true ∧ aOk (.list [.str "word"]) = true := by decide +kernel
/-- the state at the head of a turn -/
def tTurn (K : PySem.W.Frag) (T : List (Addr × Str)) : TS := fun D σ H => ∃ (a p c : Addr) (ns : List Int) (t l : Int) (v2 v3 v4 v5 v6 v7 v8 v9 v10 v11 v12 v13 v14 v15 v16 v17 v18 v19 : Option V),
  σ = SL a p v2 v3 v4 v5 v6 v7 v8 v9 v10 v11 v12 v13 v14 v15 v16 v17 v18 v19 ∧ Tabs T H ∧ PenAt H p c ns t l ∧ t + 300 < 1000000000000 ∧
  ∀ (v3 v4 v5 v6 v7 v8 v9 v10 v11 v12 v13 v14 v15 v16 v17 v18 v19 : Option V) (t' l' : Int) (H' : Hp), Tabs T H' → PenAt H' p c ns t' l' → t' ≤ t + 300 →
    D.nx (SL a p v2 v3 v4 v5 v6 v7 v8 v9 v10 v11 v12 v13 v14 v15 v16 v17 v18 v19) H'
section
variable {P : Program} {w : World} {K : PySem.W.Frag} {mg : Str → Option Value} {base : Heap} {f fC fP fA : Addr} {fdC fdP fdA : FuncData} {cdv : Value} {A : Around} {outer : List Env} {s : Shared} {H0 : Hp} {E : XK} {T : List (Addr × Str)}
theorem blkTurn (hr : Room 6 (LX P w K mg base f cdv A outer s H0 E).A)
    (GC : FnOk P w K mg base CX0 4 fC fdC ["_law_pen_here", "_law_most"] (spCols K)) (gC : mg "_law_columns" = some (.ref fC)) (kC : PySem.W.keepIn K (.ref fC) = true) (bC : Binds K fdC ["_law_pen_here", "_law_most"] [])
    (GP : FnOk P w K mg base CX0 2 fP fdP ["_law_pen_here", "_law_options"] (spPick K)) (gP : mg "_law_pick" = some (.ref fP)) (kP : PySem.W.keepIn K (.ref fP) = true) (bP : Binds K fdP ["_law_pen_here", "_law_options"] [])
    (GA : FnOk P w K mg base CX0 3 fA fdA ["_law_pen_here"] (spAny K)) (gA : mg "_law_any_value" = some (.ref fA)) (kA : PySem.W.keepIn K (.ref fA) = true) (bA : Binds K fdA ["_law_pen_here"] [])
    (BM : PS (LX P w K mg base f cdv A outer s H0 E) (nth bTurn 1) (tMade K)) (BF : PS (LX P w K mg base f cdv A outer s H0 E) (nth bTurn 2) (tFors K))
    (B1 : PS (LX P w K mg base f cdv A outer s H0 E) (nth bTurn 7) (tMetW K T)) (B2 : PS (LX P w K mg base f cdv A outer s H0 E) (nth bTurn 8) (tMetW K T)) :
    PSs (LX P w K mg base f cdv A outer s H0 E) bTurn (tTurn K T) := by
  have nd : NL.Nodup := scLaw.nd
  have hu64 := hu64_of hr
  have base : PSs (LX P w K mg base f cdv A outer s H0 E) bTurn _ :=
    pss_cons (ps_set (i := 3) nd rfl (Or.inl rfl) (pe_call GC (hr.mono (by decide)) rfl gC kC bC .nil pass0 (pa_cons (pv 1) (pa_cons pe_int pa_nil))))
    (pss_cons BM (pss_cons BF
    (pss_cons (ps_set (i := 19) nd rfl (Or.inl rfl) (pe_lst (pa_cons pe_str (pa_cons pe_str (pa_cons pe_str (pa_cons pe_str (pa_cons pe_str (pa_cons pe_str (pa_cons pe_str (pa_cons pe_str (pa_cons pe_str (pa_cons pe_str (pa_cons pe_str pa_nil)))))))))))))
    (pss_cons (ps_set (i := 19) nd rfl (Or.inl rfl) (pe_op op_cat (pv 19) (pe_lst (pa_cons pe_str (pa_cons pe_str pa_nil)))))
    (pss_cons (ps_set (i := 6) nd rfl (Or.inr rfl) (pe_call GP (hr.mono (by decide)) rfl gP kP bP .nil pass0 (pa_cons (pv 1) (pa_cons (pe_lst (pa_cons (pe_call GP (hr.mono (by decide)) rfl gP kP bP .nil pass0 (pa_cons (pv 1) (pa_cons (pv 19) pa_nil))) (pa_cons (pe_call GA (hr.mono (by decide)) rfl gA kA bA .nil pass0 (pa_cons (pv 1) pa_nil)) (pa_cons pe_str pa_nil)))) pa_nil))))
    (pss_cons (ps_set (i := 7) nd rfl (Or.inr rfl) (pe_call GP (hr.mono (by decide)) rfl gP kP bP .nil pass0 (pa_cons (pv 1) (pa_cons (pe_lst (pa_cons pe_str (pa_cons pe_str (pa_cons pe_str (pa_cons pe_str (pa_cons (pe_call GA (hr.mono (by decide)) rfl gA kA bA .nil pass0 (pa_cons (pv 1) pa_nil)) (pa_cons (pe_tup (pa_cons pe_str pa_nil)) (pa_cons (pe_lst (pa_cons pe_str pa_nil)) pa_nil)))))))) pa_nil))))
    (pss_cons B1 (pss_one B2))))))))
  refine PSs.imp base fun D σ H h => ?_
  clear base
  obtain ⟨a, p, c, ns, t, l, v2, v3, v4, v5, v6, v7, v8, v9, v10, v11, v12, v13, v14, v15, v16, v17, v18, v19, rfl, hT, D0, ht, fin⟩ := h
  refine ⟨_, rfl, p, c, ns, t, l, rfl, D0, by omega, fun q rs t1 l1 H1 P1 r5 h1 D1 b1 => ?_⟩
  have T1 := tabs_kp hT (Kp.but D0.d b1)
  clear hT b1
  refine ⟨a, p, q, rs, _, _, _, _, _, _, _, _, _, _, _, _, _, _, _, _, _, rfl, P1, r5, fun m cs H2 s2 M2 => ?_⟩
  have P2 := P1.same s2
  have D2 := D1.same s2
  have T2 := T1.ext s2
  clear P1 T1 s2 D1
  refine ⟨a, p, c, q, m, ns, t1, l1, rs, cs, _, _, _, _, _, _, _, _, _, _, _, _, _, _, _, _, rfl, P2, r5, M2, D2, by omega, fun u5 u6 u7 u8 u9 u10 u11 u12 u13 u14 u15 u16 u17 u18 t3 l3 H3 k3 D3 h3 => ?_⟩
  have T3 := tabs_kp T2 k3
  clear T2 k3 P2 M2 D2
  refine ⟨(by show 11 ≤ sizeLine; decide), fun q4 n4 => ?_⟩
  have s4 := same_new (o := .lst [.str "limit", .str "columns", .str "into", .str "zzzzzzzz", .str "zzzzzzzza", .str "", .str "A", .str "a1", .str "number", .str "word", .str "name"]) (Same.refl H3) n4
  have e4 : (upd H3 q4 (.lst [.str "limit", .str "columns", .str "into", .str "zzzzzzzz", .str "zzzzzzzza", .str "", .str "A", .str "a1", .str "number", .str "word", .str "name"])) q4 = some (.lst (wrds.map V.str)) := upd_same
  generalize upd H3 q4 (.lst [.str "limit", .str "columns", .str "into", .str "zzzzzzzz", .str "zzzzzzzza", .str "", .str "A", .str "a1", .str "number", .str "word", .str "name"]) = H4 at s4 e4 ⊢
  clear n4
  refine ⟨_, rfl, (by show 2 ≤ sizeLine; decide), fun q5 n5 => ?_⟩
  have s5 := same_new (o := .lst [.str "self", .str "a\n"]) (Same.refl H4) n5
  have e5 : (upd H4 q5 (.lst [.str "self", .str "a\n"])) q5 = some (.lst (wrds2.map V.str)) := upd_same
  generalize upd H4 q5 (.lst [.str "self", .str "a\n"]) = H5 at s5 e5 ⊢
  have e4 := s5 _ _ e4
  have s5 := s4.trans s5
  clear n5 s4
  refine ⟨q4, q5, _, _, rfl, rfl, e4, e5, (by show 13 ≤ sizeLine; decide), fun q6 n6 => ?_⟩
  have s6 := same_new (o := .lst (wrds.map V.str ++ wrds2.map V.str)) s5 n6
  have e6 : (upd H5 q6 (.lst (wrds.map V.str ++ wrds2.map V.str))) q6 = some (.lst (wrds.map V.str ++ wrds2.map V.str)) := upd_same
  generalize upd H5 q6 (.lst (wrds.map V.str ++ wrds2.map V.str)) = H6 at s6 e6 ⊢
  rw [← List.map_append] at e6
  have T6 := T3.ext s6
  have D6 := D3.same s6
  clear n6 s5 e4 e5 T3 D3 s6
  refine ⟨_, rfl, _, rfl, _, rfl, p, c, q6, ns, t3, l3, _, rfl, D6, by omega, SqL.of e6, by simp [wrds], (by show 13 < 1000000; decide), fun x t7 l7 H7 hx h7 D7 b7 => ?_⟩
  obtain ⟨w7, hw7, rfl⟩ := List.mem_map.mp hx
  have X7 : Val K H7 (.str w7) := Val.str (wrds_ok w7 hw7)
  have T7 := tabs_kp T6 (Kp.but D6.d b7)
  clear T6 D6 b7 e6 hx
  refine ⟨_, rfl, p, c, ns, t7, l7, rfl, D7, by omega, fun v d t8 l8 H8 th ok h8 D8 b8 => ?_⟩
  have X8 := X7.but D7.d b8
  have Y8 : Val K H8 v := ⟨d, th, ok⟩
  have T8 := tabs_kp T7 (Kp.but D7.d b8)
  clear X7 T7 D7 b8 th ok
  refine ⟨(by show 3 ≤ sizeLine; decide), fun q9 n9 => ?_⟩
  have s9 := same_new (o := .lst [.str w7, v, .str "a"]) (Same.refl H8) n9
  have e9 : (upd H8 q9 (.lst [.str w7, v, .str "a"])) q9 = some (.lst [.str w7, v, .str "a"]) := upd_same
  generalize upd H8 q9 (.lst [.str w7, v, .str "a"]) = H9 at s9 e9 ⊢
  have X9 := X8.same s9
  have Y9 := Y8.same s9
  have T9 := T8.ext s9
  have D9 := D8.same s9
  clear X8 Y8 T8 D8 s9 n9
  refine ⟨p, c, q9, ns, t8, l8, _, rfl, D9, by omega, SqL.of e9, by simp, (by show 3 < 1000000; decide), fun y t10 l10 H10 hy h10 D10 b10 => ?_⟩
  have Z10 : Val K H10 y := by
    refine Val.but ?_ D9.d b10
    simp only [List.mem_cons, List.not_mem_nil, or_false] at hy
    rcases hy with rfl | rfl | rfl
    · exact X9
    · exact Y9
    · exact Val.str (srt_ok _ (by decide))
  have T10 := tabs_kp T9 (Kp.but D9.d b10)
  clear X9 Y9 T9 D9 b10 e9 hy
  refine ⟨_, rfl, _, rfl, p, c, ns, t10, l10, rfl, D10, by omega, fun v d t11 l11 H11 th ok h11 D11 b11 => ?_⟩
  have Z11 := Z10.but D10.d b11
  have X11 : Val K H11 v := ⟨d, th, ok⟩
  have T11 := tabs_kp T10 (Kp.but D10.d b11)
  clear Z10 T10 D10 b11 th ok
  refine ⟨(by show 1 ≤ sizeLine; decide), fun q12 n12 => ?_⟩
  have s12 := same_new (o := .tup [.str "number"]) (Same.refl H11) n12
  have e12 : (upd H11 q12 (.tup [.str "number"])) q12 = some (.tup [.str "number"]) := upd_same
  generalize upd H11 q12 (.tup [.str "number"]) = H12 at s12 e12 ⊢
  refine ⟨(by show 1 ≤ sizeLine; decide), fun q13 n13 => ?_⟩
  have s13 := same_new (o := .lst [.str "word"]) s12 n13
  have e12 := up (o := .lst [.str "word"]) e12 n13
  have e13 : (upd H12 q13 (.lst [.str "word"])) q13 = some (.lst [.str "word"]) := upd_same
  generalize upd H12 q13 (.lst [.str "word"]) = H13 at s13 e12 e13 ⊢
  clear s12 n12
  refine ⟨(by show 7 ≤ sizeLine; decide), fun q14 n14 => ?_⟩
  have s14 := same_new (o := .lst [.str "number", .str "word", .str "words", .str "Number", v, .ref q12, .ref q13]) s13 n14
  have e12 := up (o := .lst [.str "number", .str "word", .str "words", .str "Number", v, .ref q12, .ref q13]) e12 n14
  have e13 := up (o := .lst [.str "number", .str "word", .str "words", .str "Number", v, .ref q12, .ref q13]) e13 n14
  have e14 : (upd H13 q14 (.lst [.str "number", .str "word", .str "words", .str "Number", v, .ref q12, .ref q13])) q14 = some (.lst [.str "number", .str "word", .str "words", .str "Number", v, .ref q12, .ref q13]) := upd_same
  generalize upd H13 q14 (.lst [.str "number", .str "word", .str "words", .str "Number", v, .ref q12, .ref q13]) = H14 at s14 e12 e13 e14 ⊢
  clear s13 n13 n14
  have Z14 := Z11.same s14
  have X14 := X11.same s14
  have T14 := T11.ext s14
  have D14 := D11.same s14
  clear Z11 X11 T11 D11 s14
  refine ⟨p, c, q14, ns, t11, l11, _, rfl, D14, by omega, SqL.of e14, by simp, (by show 7 < 1000000; decide), fun z t15 l15 H15 hz h15 D15 b15 => ?_⟩
  have U15 : Val K H15 z := by
    refine Val.but ?_ D14.d b15
    simp only [List.mem_cons, List.not_mem_nil, or_false] at hz
    rcases hz with rfl | rfl | rfl | rfl | rfl | rfl | rfl
    · exact Val.str (srt_ok _ (by decide))
    · exact Val.str (srt_ok _ (by decide))
    · exact Val.str (srt_ok _ (by decide))
    · exact Val.str (srt_ok _ (by decide))
    · exact X14
    · exact ⟨_, .dp (.tup (SqT.of e12) (.cons (.str _) .nil)) rfl, seq_ok.1⟩
    · exact ⟨_, .dp (.lst (SqL.of e13) (.cons (.str _) .nil)) rfl, seq_ok.2⟩
  have Z15 := Z14.but D14.d b15
  have T15 := tabs_kp T14 (Kp.but D14.d b15)
  clear Z14 X14 T14 D14 b15 e12 e13 e14 hz
  obtain ⟨dt, tu, ou⟩ := Z15
  obtain ⟨ds, tv, ov⟩ := U15
  refine ⟨y, z, dt, ds, rfl, rfl, tu, ou, tv, ov, T15, fun H16 k16 T16 => ?_⟩
  refine ⟨y, z, dt, ds, rfl, rfl, th_ext k16 tu, ou, th_ext k16 tv, ov, T16, fun H17 k17 T17 => ?_⟩
  exact fin _ _ _ _ _ _ _ _ _ _ _ _ _ _ _ _ _ t15 l15 H17 T17 (pen_ext D15 (k16.trans k17)) (by omega)
end
end K01
set_option Elab.async false
set_option linter.all false
set_option maxRecDepth 100000
set_option maxHeartbeats 4000000
namespace K01
open K34 PySem PySem.Spec PyProof.Rows L2 LamX
/-- the law's promise: its table stands empty -/
def spLaw (K : PySem.W.Frag) (PT : Addr) : Sp := fun vs H Q _ => ∃ (a : Addr) (ns : List Int), vs = [.ref a] ∧ SqL K H a (ns.map V.int) ∧ ns.length ≤ 63 ∧ H PT = some (.tbl #[]) ∧ ∀ H', Q (.bl true) H'
section
variable {P : Program} {w : World} {K : PySem.W.Frag} {mg : Str → Option Value} {base : Heap}
/-- okG for a def whose code object is known by its address -/
theorem okGc {x qual : Str} {params : Arguments} {body : List Stmt} {scope : Scope} {dvs : List V} {kws : List (Str × V)} {at_ : Str × Option Str} {fd : FuncData} {N ps : List Str} {k : Nat} {sp : Sp}
    (F : FunD K x qual params body scope dvs kws (He.fAd K at_) fd) (S : FnScope N ps scope) (len : ∀ vs H Q E, sp vs H Q E → vs.length = ps.length)
    (hbody : ∀ (A : Around) (outer : List Env) (s : Shared) (H : Hp) (vs : List V) (Q : VK) (E : XK), A.guards = some [] → Room k (A.deeper (envOfC qual scope s.heap.objs.size (He.fAd K at_) (.ref (He.codeOf K at_)))) → sp vs H Q E →
      ∃ t, PSs (cxOf CX0 P w K mg base N qual scope (He.fAd K at_) (.ref (He.codeOf K at_)) A outer s H E) body t ∧ t { nx := fun _ H' => Q .non H', rt := Q } (start N vs) H) : FnG P w K mg base (k + 1) (He.fAd K at_) fd ps sp := by
  obtain ⟨oc, od, dV, kV, doc, pm, an, cdv, ct, osl, rfl, lk, hcd, hD, hK⟩ := F.ex
  obtain ⟨c, rfl⟩ := He.codeIn_ref hcd
  have ec : He.codeOf K at_ = c := He.codeOf_eq lk rfl
  rw [ec] at hbody
  exact okGl lk hcd S len hbody
variable {fP fC fK fA fS fO fDu fM fI fV fE pN aN pK aK pR aR : Addr} {fd fdP fdC fdK fdA fdS fdO fdDu fdM fdI fdV fdE fdN fdKi fdR : FuncData} {PT : Addr}
theorem ok_law (F : FunD K "law" "law" (defArgs sLaw) (defBody sLaw) (defScope sLaw) [] [] (He.fAd K ("law", none)) fd) (TB : TabB base mg (He.codeOf K ("law", none)) PT) (T : TxR K mg) (TZ : mg "zip" = none)
    (GP : FnOk P w K mg base CX0 1 fP fdP ["_law_script"] (spPen K)) (gP : mg "_law_pen" = some (.ref fP)) (kP : PySem.W.keepIn K (.ref fP) = true) (bP : Binds K fdP ["_law_script"] [])
    (GC : FnOk P w K mg base CX0 4 fC fdC ["_law_pen_here", "_law_most"] (spCols K)) (gC : mg "_law_columns" = some (.ref fC)) (kC : PySem.W.keepIn K (.ref fC) = true) (bC : Binds K fdC ["_law_pen_here", "_law_most"] [])
    (GK : FnOk P w K mg base CX0 2 fK fdK ["_law_pen_here", "_law_options"] (spPick K)) (gK : mg "_law_pick" = some (.ref fK)) (kK : PySem.W.keepIn K (.ref fK) = true) (bK : Binds K fdK ["_law_pen_here", "_law_options"] [])
    (GA : FnOk P w K mg base CX0 3 fA fdA ["_law_pen_here"] (spAny K)) (gA : mg "_law_any_value" = some (.ref fA)) (kA : PySem.W.keepIn K (.ref fA) = true) (bA : Binds K fdA ["_law_pen_here"] [])
    (GS : FnOk P w K mg base CX0 4 fS fdS ["_law_pen_here"] (spVal K 13 fun vs p => vs = [.ref p])) (gS : mg "_law_some_value" = some (.ref fS)) (kS : PySem.W.keepIn K (.ref fS) = true) (bS : Binds K fdS ["_law_pen_here"] [])
    (GO : FnOk P w K mg base CX0 2 fO fdO ["_law_sort", "_law_thing"] (spOf K)) (gO : mg "_law_is_of" = some (.ref fO)) (kO : PySem.W.keepIn K (.ref fO) = true) (bO : Binds K fdO ["_law_sort", "_law_thing"] [])
    (GD : FnG P w K mg base 3 fDu fdDu ["_law_title", "_law_sort"] (spDue K)) (gD : mg "_law_due" = some (.ref fDu)) (kD : PySem.W.keepIn K (.ref fDu) = true) (bD : Binds K fdDu ["_law_title", "_law_sort"] [])
    (FM : FnP K "_law_met" sMet fM fdM) (gM : mg "_law_met" = some (.ref fM)) (TM : MetT K mg)
    (CE : ColE P w K mg base fE fdE) (MC : Mk K (He.ga K "Column") fI) (GI : FnOk P w K mg base (L2.CX P w) 3 fI fdI psI (spInit K)) (FI : FInit K fI fdI)
    (GV : FnOk P w K mg base CX0 2 fV fdV ["self", "value"] (spIsVal K)) (FV : FunD K "is_value" "Column.is_value" (defArgs sIsVal) (defBody sIsVal) (defScope sIsVal) [] [] fV fdV) (MV : Meth K (He.ga K "Column") "is_value" fV)
    (PN : PrT P w K mg base "name" (fun n _ _ => .str n) pN aN fdN) (PK : PrT P w K mg base "kind" (fun _ k _ => .str k) pK aK fdKi) (PR : PrT P w K mg base "is_required" (fun _ _ b => .bl b) pR aR fdR) :
    FnG P w K mg base 7 (He.fAd K ("law", none)) fd ["_law_script"] (spLaw K PT) := by
  have bM : Binds K fdM ["_law_call"] [] := FM.bindsN fun _ _ _ _ _ _ us hl => match us, hl with | [_], _ => rfl
  have kM := FM.kp
  obtain ⟨oc, od, dV, kV, doc, pm, an, cdm, ct, osl, rfl, lkM, hcM, _, _⟩ := FM.ex
  have C : ColT K mg := CE.I.toColT
  refine okGc F scLaw (fun vs H Q E h => ?_) (fun A outer s H vs Q E hga hr h => ?_)
  · obtain ⟨a, ns, rfl, _⟩ := h
    rfl
  · obtain ⟨a, ns, rfl, hs, hn, hT, q⟩ := h
    have nd : NL.Nodup := scLaw.nd
    have hr6 : Room 6 (LX P w K mg base (He.fAd K ("law", none)) (.ref (He.codeOf K ("law", none))) A outer s H E).A := hr
    have hga6 : (LX P w K mg base (He.fAd K ("law", none)) (.ref (He.codeOf K ("law", none))) A outer s H E).A.guards = some [] := hga
    have BG := blkAgain hr6 hga6 T T.range C GV FV MV GS gS kS bS GO gO kO bO
    have BZ := blkZip hr6 TZ CE
    have BO := blkOne hr6 hga6 T T.range TZ CE BZ BG MC GI FI PN PK PR
    have BF := blkFor hr6 TZ BO
    have BM := blkMade hr6 C MC GI FI
    have B1 := blkMet1 hr6 hga6 C MC GI FI TM lkM hcM bM gM kM GD gD kD bD TB rfl
    have B2 := blkMet2 hr6 hga6 C MC GI FI TM lkM hcM bM gM kM GD gD kD bD TB rfl
    have BT := blkTurn hr6 GC gC kC bC GK gK kK bK GA gA kA bA BM BF B1 B2
    obtain ⟨ds, vds, bI⟩ := bindPos FI
    refine ⟨_, PSs.nox (pss_cons (ps_set (i := 1) nd rfl (Or.inl rfl) (pe_call GP (hr6.mono (by decide)) rfl gP kP bP .nil pass0 (pa_cons (pv 0) pa_nil)))
      (pss_cons (ps_for PassesOwn.never rfl (pi_range1 rfl T.range (pa_cons pe_int pa_nil)) (pg_name (i := 2) nd rfl (Or.inl rfl)) BT)
      (pss_one (ps_ret (pe_cmpR op_isBl (pe_prop (pe_make MC GI (hr6.mono (by decide)) (by rfl) C.g bI vds passL (pa_cons pe_str (pa_cons pe_str pa_nil))) C.cl PR.pr PR.ok (hr6.mono (by decide)) PR.b .nil pass0 (by rfl)) pe_bl (nomark _)))))), ?_⟩
    refine ⟨_, rfl, a, ns, rfl, hs, hn, fun p c ms H1 D s1 => ?_⟩
    have T1 : Tabs [(PT, qL)] H1 := fun z hz => by
      rw [List.mem_singleton.mp hz]
      exact TabS.nil (s1 _ _ hT)
    refine ⟨12, rfl, by decide, by decide, for_range (lo := 0) (n := 12) (fun i σ H' => ∃ (v2 v3 v4 v5 v6 v7 v8 v9 v10 v11 v12 v13 v14 v15 v16 v17 v18 v19 : Option V) (t l : Int), σ = SL a p v2 v3 v4 v5 v6 v7 v8 v9 v10 v11 v12 v13 v14 v15 v16 v17 v18 v19 ∧ Tabs [(PT, qL)] H' ∧ PenAt H' p c ms t l ∧ t ≤ 300 * (i : Int))
      ⟨_, _, _, _, _, _, _, _, _, _, _, _, _, _, _, _, _, _, 0, 0, rfl, T1, D, by decide⟩ ?_ ?_⟩
    · rintro i σ H2 hi ⟨v2, v3, v4, v5, v6, v7, v8, v9, v10, v11, v12, v13, v14, v15, v16, v17, v18, v19, t, l, rfl, T2, D2, ht⟩
      refine ⟨a, p, c, ms, t, l, _, _, _, _, _, _, _, _, _, _, _, _, _, _, _, _, _, _, rfl, T2, D2, by omega, fun u3 u4 u5 u6 u7 u8 u9 u10 u11 u12 u13 u14 u15 u16 u17 u18 u19 t' l' H3 T3 D3 h3 => ?_⟩
      exact ⟨_, _, _, _, _, _, _, _, _, _, _, _, _, _, _, _, _, _, t', l', rfl, T3, D3, by push_cast; omega⟩
    · rintro σ H2 ⟨v2, v3, v4, v5, v6, v7, v8, v9, v10, v11, v12, v13, v14, v15, v16, v17, v18, v19, t, l, rfl, T2, D2, ht⟩
      refine fun x dx h1 h2 ne => rd_init (by decide +kernel) (.inr rfl) h1 h2 ne fun H5 s5 c5 => ⟨rfl, ?_⟩
      obtain ⟨d5, hcol⟩ := id c5
      exact ⟨x, d5, _, rfl, hcol, x, _, _, _, rfl, c5, false, false, rfl, rfl, q _⟩
end
end K01
set_option Elab.async false
set_option linter.all false
set_option maxRecDepth 100000
set_option maxHeartbeats 4000000
/-! the law's call where its def has a table and no guard runs -/
namespace K01
open K34 PySem PySem.Spec PyProof.Rows L2 LamX
abbrev emp : Obj := { cls := .none, data := .fields #[] }
theorem law_GT {P : Program} {w : World} {K : PySem.W.Frag} {mg mb : Str → Option Value} {k : Nat} {fa a c T : Addr} {fd : FuncData} {x : Str} {sp : Sp} {s1 : Shared} {vs : List Value} {ns : List Int}
    (kx : K.In s1.heap) (hns : s1.heap.Ns mainGlobals mg) (hb : s1.heap.Ns builtinsNs mb) (hbb : ∀ y : Str, y ≠ "__name__" → mb y = bootBuiltins y) (hlim : s1.heap.NoLimit) (hg : s1.gens = #[])
    (hT : s1.heap.get? T = some emp) (nT : K.lookup T = none) (hC : PySem.W.CodeHd s1.heap c T)
    (hM : ∃ (m : Addr) (o : Obj), mg "__builtins__" = some (.ref m) ∧ m ≠ builtinsNs ∧ s1.heap.get? m = some o ∧ o.cls = .type "module" ∧ o.dict = some builtinsNs ∧ o.data = .plain)
    (ha : s1.heap.get? a = some { cls := .type "list", data := .seq vs.toArray }) (hi : IntsAre vs ns) (hl : ns.length ≤ sizeLine) (hr : Room k callerA)
    (F : ∀ base : Heap, K.In base → base.Ns mainGlobals mg → TabB base mg c T → FnG P w K mg base k fa fd [x] sp) (hbd : ∀ (s : Shared) (u : Value), BindsTo s fd ⟨[u], []⟩ [(x, u)])
    (hsp : ∀ H : Hp, H T = some (.tbl #[]) → SqL K H a (ns.map V.int) → sp [.ref a] H (fun v _ => v = .bl true) fun _ _ _ => False) :
    codeAny (model P w) callerA (.call (.ref fa) ⟨[.ref a], []⟩) (fun r s' => r = .ok (.ret (.bool true)) ∧ OldK s1.heap s'.heap ∧ s'.os = s1.os ∧ AllBare s'.gens) s1 := by
  have rv := vals_ints hi
  have lv := hi.length
  have aT : a ≠ T := fun z => by
    rw [z, hT] at ha
    have y : Data.fields #[] = Data.seq vs.toArray _ := congrArg Obj.data (Option.some.inj ha)
    cases y
  have core : ∀ H : Hp, H T = some (.tbl #[]) → (∀ b, H b = none ∨ b = T ∨ ∃ ob xs, H b = some (.frz ob (.lst xs))) → SqL K H a (ns.map V.int) → HOk P w H s1.heap → (∀ b, H b ≠ none → b = a ∨ b = T) → (H a ≠ none → K.lookup a = none) →
      codeAny (model P w) callerA (.call (.ref fa) ⟨[.ref a], []⟩) (fun r s' => r = .ok (.ret (.bool true)) ∧ OldK s1.heap s'.heap ∧ s'.os = s1.os ∧ AllBare s'.gens) s1 := by
    intro H hH hO hS hok hA hK
    have bo : ∀ {b : Addr} {o : Obj}, s1.heap.get? b = some o → H b = none → (hidT s1.heap H).get? b = some o := fun e n => hidT_get e n
    -- what is neither a list nor an empty table is not tracked
    have far : ∀ {b : Addr} {o : Obj}, s1.heap.get? b = some o → (∀ us i, o.data = .seq us i → False) → (o.data = .fields #[] → False) → H b = none := fun {b o} e n1 n2 => by
      cases q : H b with
      | none => rfl
      | some u =>
        rcases hA b (by rw [q]; simp) with rfl | rfl
        · rw [ha] at e
          cases e
          exact (n1 _ _ rfl).elim
        · rw [hT] at e
          cases e
          exact (n2 rfl).elim
    have farD : ∀ {b : Addr} {o : Obj} {es : Array DictEntry} {ep : Nat}, s1.heap.get? b = some o → o.data = .dict es ep → H b = none := fun {b o es ep} e d =>
      far e (fun us i z => by rw [d] at z; cases z) (fun z => by rw [d] at z; cases z)
    have nsK : ∀ {b : Addr} {m : Str → Option Value}, s1.heap.Ns b m → (hidT s1.heap H).Ns b m := fun {b m} ⟨o, es, ep, e, d, r⟩ => ⟨o, es, ep, bo e (farD e d), d, r⟩
    have hKb : K.In (hidT s1.heap H) := fun b o e => bo (kx b o e) (by
      cases q : H b with
      | none => rfl
      | some u =>
        rcases hA b (by rw [q]; simp) with rfl | rfl
        · rw [hK (by rw [q]; simp)] at e
          cases e
        · rw [nT] at e
          cases e)
    have mod : L2.Mod K mg (hidT s1.heap H) := ⟨hKb, nsK hns, ⟨mb, nsK hb, hbb⟩, let ⟨mc, h1, h2⟩ := hlim; ⟨mc, nsK h1, h2⟩⟩
    have gT : mainGlobals ≠ T := fun z => by
      obtain ⟨o, es, ep, e, hd, _⟩ := hns
      rw [z, hT] at e
      cases e
      cases hd
    have tb : TabB (hidT s1.heap H) mg c T := by
      refine ⟨?_, ?_, gT⟩
      · obtain ⟨o, us, file, tf, fl, tg, inF, text, tt, e1, r⟩ := hC
        refine ⟨o, us, file, tf, fl, tg, inF, text, tt, bo e1 (far e1 (fun _ _ z => ?_) fun z => ?_), r⟩
        · rw [r.2.1] at z
          cases z
        · have r3 := r.2.2.1
          rw [r.2.1] at z
          cases z
          simp at r3
      · obtain ⟨m, o, m1, m2, m3, m4, m5, m6⟩ := hM
        refine ⟨m, o, m1, m2, fun z => ?_, fun z => ?_, bo m3 (far m3 (fun _ _ z => ?_) fun z => ?_), m4, m5, m6⟩
        · obtain ⟨o', es, ep, e, hd, _⟩ := hns
          rw [z, e] at m3
          cases m3
          rw [hd] at m6
          cases m6
        · rw [z, hT] at m3
          cases m3
          cases m6
        · rw [m6] at z
          cases z
        · rw [m6] at z
          cases z
    have e0 : Env0 P w K mg (hidT s1.heap H) callerA [] s1 H := ⟨rfl, mod, fun b o e => of_hidT e, Nat.le_of_eq (hidT_size _ _), trivial, fun b hb => absurd (show b ∈ ([] : List Addr) from hb) (by simp), hok, .of_eq hg⟩
    refine codeAny_mono ((F _ hKb (nsK hns) tb).go callerA [] s1 H ⟨[.ref a], []⟩ [.ref a] [.ref a] _ _ rfl hr e0 (hbd s1 (.ref a)) (.cons rfl .nil) (hsp H hH hS)) fun r s' h => ?_
    cases r with
    | error e => exact False.elim h
    | ok fl =>
      cases fl with
      | next => exact False.elim h
      | brk => exact False.elim h
      | cont => exact False.elim h
      | ret u =>
        obtain ⟨v, H', os, bare, un, hok', r', q⟩ := h
        have q' : v = .bl true := q
        subst q'
        obtain rfl : u = Value.bool true := r'
        have old : ∀ b o, b ≠ T → s1.heap.get? b = some o → s'.heap.get? b = some o := fun b o nb e => by
          rcases hO b with z | z | ⟨ob, xs, z⟩
          · exact un.keep b o e z (by intro y; exact absurd (show b ∈ ([] : List Addr) from y) (by simp)) (by simp)
          · exact absurd z nb
          · obtain ⟨e1, _⟩ := hok b _ z
            obtain ⟨e2, _⟩ := hok' b _ (un.frzs b ob _ z)
            rw [e] at e1
            cases e1
            exact e2
        obtain ⟨more, z⟩ := un.tbls T #[] hH
        have new := hok' T _ z
        refine ⟨rfl, ⟨fun b o e => ?_, fun b o e => ?_⟩, os, bare⟩
        · by_cases nb : b = T
          · subst nb
            rw [hT] at e
            cases e
            exact .inr (.inl ⟨(hC.tab hT).isCodeTable, rfl, #[], _, rfl, by rw [Array.empty_append]; exact new⟩)
          · exact .inl (old b o nb e)
        · by_cases nb : b = T
          · subst nb
            exact ⟨_, new⟩
          · exact ⟨o, old b o nb e⟩
  cases hk : K.lookup a with
  | some o =>
    have e := kx a o hk
    rw [ha] at e
    cases e
    refine core (fun b => if b = T then some (.tbl #[]) else none) (if_pos rfl) (fun b => ?_) (.inr ⟨_, vs.toArray, _, hk, rfl, rfl, rfl, by rw [List.size_toArray, lv]; exact hl, by simpa using rv⟩) (fun b u z => ?_) (fun b z => ?_) fun z => absurd (show (if a = T then some (HO.tbl #[]) else none) = none from if_neg aT) z
    · by_cases n : b = T
      · exact .inr (.inl n)
      · exact .inl (if_neg n)
    · by_cases n : b = T
      · have z' := (if_pos n).symm.trans z
        cases z'
        rw [n]
        exact hT
      · have z' := (if_neg n).symm.trans z
        cases z'
    · by_cases n : b = T
      · exact .inr n
      · exact absurd (if_neg n) z
  | none =>
    refine core (fun b => if b = T then some (.tbl #[]) else if b = a then some (.frz { cls := .type "list", data := .seq vs.toArray } (.lst (ns.map V.int))) else none) (if_pos rfl) (fun b => ?_) (.inl (.inr ⟨{ cls := .type "list", data := .seq vs.toArray }, (if_neg aT).trans (if_pos rfl)⟩)) (fun b u z => ?_) (fun b z => ?_) fun _ => hk
    · by_cases n : b = T
      · exact .inr (.inl n)
      · by_cases m : b = a
        · exact .inr (.inr ⟨_, _, (if_neg n).trans (if_pos m)⟩)
        · exact .inl ((if_neg n).trans (if_neg m))
    · by_cases n : b = T
      · have z' := (if_pos n).symm.trans z
        cases z'
        rw [n]
        exact hT
      · have z1 := (if_neg n).symm.trans z
        by_cases m : b = a
        · have z' := (if_pos m).symm.trans z1
          cases z'
          subst m
          exact ⟨ha, by rw [List.length_map]; exact hl, vs, _, rv, ha⟩
        · have z' := (if_neg m).symm.trans z1
          cases z'
    · by_cases n : b = T
      · exact .inr n
      · by_cases m : b = a
        · exact .inl m
        · exact absurd ((if_neg n).trans (if_neg m)) z
/-- a law whose def has a table -/
theorem walk_GT {l : PySem.W.OpenLaw} {n k : Nat} {q : Program} {loose : List Str} {XP : (Str → Option Value) → Heap → Prop} {YP : World → Heap → Prop} {d : DefRec} {x : Str}
    (hn : l.most = some n) (hn2 : n ≤ sizeLine) (hdf : d.params.defaults = []) (hr : Room k callerA)
    (F : ∀ (w : World) (mg : Str → Option Value) (fa : Addr) (h : Heap), YP w h → h.Ns mainGlobals mg → mg d.name = some (.ref fa) →
      ∃ (K : PySem.W.Frag) (fd : FuncData) (c T : Addr) (sp : Sp), K.In h ∧ h.get? T = some emp ∧ K.lookup T = none ∧ PySem.W.CodeHd h c T ∧ (∀ (s : Shared) (u : Value), BindsTo s fd ⟨[u], []⟩ [(x, u)]) ∧
        (∀ (H : Hp) (a : Addr) (ns : List Int), ns.length ≤ n → H T = some (.tbl #[]) → SqL K H a (ns.map V.int) → sp [.ref a] H (fun v _ => v = .bl true) fun _ _ _ => False) ∧
        ∀ base : Heap, K.In base → base.Ns mainGlobals mg → TabB base mg c T → FnG l.prog w K mg base k fa fd [x] sp) :
    PySem.W.WalkO q loose XP YP l.row.toRowW d [] (fun f vs => PySem.call f vs) := by
  refine Att.attach_call hn hdf fun w s0 s1 mg mb fa o pm cd doc a vs ns G Y ho hd hcd hmg hobj hints hlen hg => ?_
  obtain ⟨K, fd, c, T, sp, kx, h1, h2, h3, hb, hsp, hF⟩ := F w mg fa _ Y G.T.g hmg
  exact law_GT kx G.T.g G.T.b G.T.builtins G.T.nolimit hg h1 h2 h3 G.T.bmain hobj hints (Nat.le_trans hlen hn2) hr hF hb fun H hH hS => hsp H a ns hlen hH hS
end K01
set_option Elab.async false
set_option linter.all false
set_option maxRecDepth 100000
set_option maxHeartbeats 0
namespace K01
open K34 PySem PySem.Spec PyProof.Rows L2 LamX
section
variable {K : PySem.W.Frag}
theorem clsB_ok {C : Addr} {k : Kd} (h : clsB K C k = true) : ∃ nm q N bs sn sub ab col dd k0 k1 k2 k3 k5, K.lookup C = some (excClassObj nm q C N bs k.bm true sn sub ab col dd k0 k1 k2 k3 k5 k.newId) := by
  unfold clsB at h
  cases e : K.lookup C with
  | none =>
    rw [e] at h
    cases h
  | some o =>
    obtain ⟨oc, od, dt, sl⟩ := o
    rw [e] at h
    cases oc with
    | type t =>
      cases dt with
      | cls cd =>
        obtain ⟨h1, w1⟩ := He.ba h
        obtain ⟨h2, w2⟩ := He.ba w1
        obtain ⟨h3, w3⟩ := He.ba w2
        obtain ⟨h4, w4⟩ := He.ba w3
        clear h w1 w2 w3
        obtain ⟨nm, bs, mro, ns, qn, hd, sn, sb, ab, col, dl⟩ := cd
        have e1 : t = "type" := of_decide_eq_true h1
        have e2 : mro = .ref C :: k.bm := of_decide_eq_true h2
        have e3 : hd = true := h3
        have e4 : dl = false := by simpa using h4
        subst e1 e2 e3 e4
        obtain ⟨l⟩ := sl
        match l, w4 with
        | [k0, k1, k2, k3, some (.builtin n), k5], w4 =>
          have e5 : n = k.newId := of_decide_eq_true w4
          subst e5
          exact ⟨nm, qn, ns, bs, sn, sb, ab, col, od, k0, k1, k2, k3, k5, rfl⟩
      | _ => cases h
    | _ => cases h
theorem ecB_ok {C : Addr} {k : Kd} (h : ecB K C k = true) (s1 : PySem.W.specialIn K (.builtin "object.__class__") "__get__" = some (some (.builtin "getset_descriptor.__get__"))) (s2 : PySem.W.takesIn K (.builtin "object.__class__") = some true) : EC K C k := by
  obtain ⟨h1, h⟩ := He.ba h
  obtain ⟨h2, h⟩ := He.ba h
  obtain ⟨h3, h⟩ := He.ba h
  obtain ⟨h4, h⟩ := He.ba h
  obtain ⟨h5, h⟩ := He.ba h
  obtain ⟨h6, h⟩ := He.ba h
  obtain ⟨h7, h⟩ := He.ba h
  obtain ⟨h8, h9⟩ := He.ba h
  exact ⟨clsB_ok h1, He.eqO_ok h2, h3, ⟨He.eqO_ok h4, He.eqO_ok h5, of_decide_eq_true h6, h7, He.eqO_ok h8, s1, s2, of_decide_eq_true h9⟩⟩
theorem gt_ok {m x q : Str} {st : Stmt} (e : gtW K m = gtv x q st) (c : gtB K m q = true) : ∃ fd, FunD K x q (defArgs st) (defBody st) (defScope st) [] [] (gtA K m) fd := by
  obtain ⟨kp, c2⟩ := He.ba c
  unfold gtW gtv at e
  generalize gtA K m = g at kp c2 e ⊢
  cases hg : K.lookup g with
  | none =>
    rw [hg] at e
    cases e
  | some o =>
    rw [hg] at e c2
    obtain ⟨oc, od, dt, sl⟩ := o
    cases dt with
    | func u =>
      obtain ⟨a1, a2, a3, a4, a5, a6, a7, a8, a9, a10, a11, a12, a13, a14, a15⟩ := u
      have e2 : (some (a1, a2, a3, a4, a5, a6, a7, a15) : He.FnW) = some (x, q, defArgs st, .stmts (defBody st), defScope st, mainGlobals, [], builtinsNs) := e
      simp only [Option.some.injEq, Prod.mk.injEq] at e2
      obtain ⟨rfl, rfl, rfl, rfl, rfl, rfl, rfl, rfl⟩ := e2
      obtain ⟨y1, y2⟩ := He.ba (show (PySem.W.codeIn K a13 a2 && (He.dflB K a8 [] && He.kwdB K a9 [])) = true from c2)
      obtain ⟨y3, y4⟩ := He.ba y2
      exact ⟨_, ⟨oc, od, a8, a9, a10, a11, a12, a13, a14, sl, rfl, hg, y1, He.dflB_ok y3, He.kwdB_ok y4⟩, kp⟩
    | _ => cases e
theorem pr_ok {m : Str} (h : prB K m = true) : PropOf K (He.ga K "Column") m (He.ma K (He.ga K "Column") m) (gtA K m) := by
  obtain ⟨h1, h⟩ := He.ba h
  obtain ⟨h2, h⟩ := He.ba h
  obtain ⟨h3, h4⟩ := He.ba h
  refine ⟨He.eqO_ok h1, of_decide_eq_true h2, of_decide_eq_true h3, ?_⟩
  unfold gtA
  cases e : PySem.W.recIn K (He.ma K (He.ga K "Column") m) "property" with
  | none =>
    rw [e] at h4
    cases h4
  | some l =>
    rw [e] at h4
    match l, h4 with
    | .ref g :: r, _ => exact ⟨r, rfl⟩
theorem dvs_v : ∀ l : List Str, (dvs l).map (He.Dv.v K) = l.map V.str
  | [] => rfl
  | x :: r => by
    show V.str x :: (dvs r).map (He.Dv.v K) = V.str x :: r.map V.str
    rw [dvs_v r]
structure ExF (K : PySem.W.Frag) : Prop where
  eN : EC K (He.ga K "InvalidName") .ve
  eK : EC K (He.ga K "InvalidKind") .ve
  iN : PySem.W.findIn K (.ref (He.ga K "InvalidName")) "__init__" = some (some (.ref (He.ma K (He.ga K "InvalidName") "__init__")))
  iK : PySem.W.findIn K (.ref (He.ga K "InvalidKind")) "__init__" = some (some (.ref (He.ma K (He.ga K "InvalidKind") "__init__")))
  tN : PySem.W.typeIn K (.ref (He.ma K (He.ga K "InvalidName") "__init__")) = some (.type "function")
  tK : PySem.W.typeIn K (.ref (He.ma K (He.ga K "InvalidKind") "__init__")) = some (.type "function")
  ne : He.ga K "InvalidName" ≠ He.ga K "InvalidKind"
  rs : ∀ H : Hp, SqT K H (He.ga K "RESERVED") (reserved.map V.str)
  ks : ∀ H : Hp, SqT K H (He.ga K "KINDS") (kinds.map V.str)
  c1 : (PySem.W.clsIn K (He.ga K "Column")).isSome = true
  c2 : PySem.W.typeIn K (.ref (He.ga K "Column")) = some (.type "type")
  c3 : PySem.W.findIn K (.ref (He.ga K "Column")) "__class__" = some (some (.builtin "object.__class__"))
  c4 : PySem.W.mroIn K (He.ga K "Column") (.type "object") = some true
  c5 : PySem.W.findIn K (.ref (He.ga K "Column")) "__ne__" = some (some (.builtin "object.__ne__"))
  s1 : PySem.W.specialIn K (.builtin "object.__class__") "__get__" = some (some (.builtin "getset_descriptor.__get__"))
  s2 : PySem.W.takesIn K (.builtin "object.__class__") = some true
  pN : prB K "name" = true
  pK : prB K "kind" = true
  pR : prB K "is_required" = true
  gN : gtB K "name" "Column.name" = true
  gK : gtB K "kind" "Column.kind" = true
  gR : gtB K "is_required" "Column.is_required" = true
theorem ex_ok (h : exB K = true) : ExF K := by
  obtain ⟨h1, h⟩ := He.ba h
  obtain ⟨e1, e2⟩ := He.ba h1
  obtain ⟨h2, h⟩ := He.ba h
  obtain ⟨h3, h⟩ := He.ba h
  obtain ⟨t1, t2⟩ := He.ba h3
  obtain ⟨h4, h⟩ := He.ba h
  obtain ⟨c1, h4⟩ := He.ba h4
  obtain ⟨c2, h4⟩ := He.ba h4
  obtain ⟨c3, h4⟩ := He.ba h4
  obtain ⟨c4, c5⟩ := He.ba h4
  obtain ⟨h5, h⟩ := He.ba h
  obtain ⟨s1, s2⟩ := He.ba h5
  obtain ⟨p1, h⟩ := He.ba h
  obtain ⟨p2, p3⟩ := He.ba h
  obtain ⟨p1, q1⟩ := He.ba p1
  obtain ⟨p2, q2⟩ := He.ba p2
  obtain ⟨p3, q3⟩ := He.ba p3
  obtain ⟨a1, e1⟩ := He.ba e1
  obtain ⟨a2, a3⟩ := He.ba e1
  obtain ⟨b1, e2⟩ := He.ba e2
  obtain ⟨b2, b3⟩ := He.ba e2
  have s1 := of_decide_eq_true s1
  have s2 := of_decide_eq_true s2
  refine ⟨ecB_ok a1 s1 s2, ecB_ok b1 s1 s2, He.eqO_ok a2, He.eqO_ok b2, of_decide_eq_true a3, of_decide_eq_true b3, ?_, fun H => ?_, fun H => ?_, c1, of_decide_eq_true c2, He.eqO_ok c3, of_decide_eq_true c4, He.eqO_ok c5, s1, s2, p1, p2, p3, q1, q2, q3⟩
  · intro z
    rw [decide_eq_true z] at h2
    cases h2
  · have z := He.tupB_ok t1 H
    rw [dvs_v] at z
    exact z
  · have z := He.tupB_ok t2 H
    rw [dvs_v] at z
    exact z
end
theorem facts {P : Program} {w : World} {K : PySem.W.Frag} {h : Heap} {mg : Str → Option Value} {f : Addr} (S : Says1 h K) (G : h.Ns mainGlobals mg) (hfa : mg ("law" : Str) = some (.ref f)) :
    ∃ fd : FuncData, (∀ (s : Shared) (v : Value), BindsTo s fd ⟨[v], []⟩ [("_law_script", v)]) ∧ ∀ base : Heap, K.In base → base.Ns mainGlobals mg → TabB base mg (He.cT K ("law", none)).1 (He.cT K ("law", none)).2 →
      FnG P w K mg base 7 f fd ["_law_script"] (spLaw K (He.cT K ("law", none)).2) := by
  have X := S.kin
  have c := S.d
  have x := ex_ok S.x
  have z_int := He.free_ok X G (c.fact 0 (f := .free "int") rfl)
  have z_len := He.free_ok X G (c.fact 1 (f := .free "len") rfl)
  have z_abs := He.free_ok X G (c.fact 2 (f := .free "abs") rfl)
  have z_list := He.free_ok X G (c.fact 3 (f := .free "list") rfl)
  have z_repr := He.free_ok X G (c.fact 4 (f := .free "repr") rfl)
  have z_range := He.free_ok X G (c.fact 5 (f := .free "range") rfl)
  have z_isinstance := He.free_ok X G (c.fact 6 (f := .free "isinstance") rfl)
  have z_str := He.free_ok X G (c.fact 7 (f := .free "str") rfl)
  have z_bool := He.free_ok X G (c.fact 8 (f := .free "bool") rfl)
  have z_all := He.free_ok X G (c.fact 9 (f := .free "all") rfl)
  have z_zip := He.free_ok X G (c.fact 10 (f := .free "zip") rfl)
  have z_ValueError := He.free_ok X G (c.fact 11 (f := .free "ValueError") rfl)
  have z_max := He.int_ok X G (c.fact 12 (f := .int "MAX_NUMBER" 1000000000000000000000000000000) rfl)
  have z_let := He.int_ok X G (c.fact 13 (f := .int "MAX_LETTERS" 8) rfl)
  have g_Column := He.glo_ok X G (c.fact 14 (f := .glo "Column") rfl)
  have g_KINDS := He.glo_ok X G (c.fact 15 (f := .glo "KINDS") rfl)
  have g_RESERVED := He.glo_ok X G (c.fact 16 (f := .glo "RESERVED") rfl)
  have g_InvalidName := He.glo_ok X G (c.fact 17 (f := .glo "InvalidName") rfl)
  have g_InvalidKind := He.glo_ok X G (c.fact 18 (f := .glo "InvalidKind") rfl)
  have g_is_number := He.glo_ok X G (c.fact 19 (f := .glo "is_number") rfl)
  have g_is_word := He.glo_ok X G (c.fact 20 (f := .glo "is_word") rfl)
  have g_is_name := He.glo_ok X G (c.fact 21 (f := .glo "is_name") rfl)
  have g__law_pen := He.glo_ok X G (c.fact 22 (f := .glo "_law_pen") rfl)
  have g__law_draw := He.glo_ok X G (c.fact 23 (f := .glo "_law_draw") rfl)
  have g__law_pick := He.glo_ok X G (c.fact 24 (f := .glo "_law_pick") rfl)
  have g__law_value := He.glo_ok X G (c.fact 25 (f := .glo "_law_value") rfl)
  have g__law_any_value := He.glo_ok X G (c.fact 26 (f := .glo "_law_any_value") rfl)
  have g__law_words := He.glo_ok X G (c.fact 27 (f := .glo "_law_words") rfl)
  have g__law_columns := He.glo_ok X G (c.fact 28 (f := .glo "_law_columns") rfl)
  have g__law_is_word := He.glo_ok X G (c.fact 29 (f := .glo "_law_is_word") rfl)
  have g__law_is_of := He.glo_ok X G (c.fact 30 (f := .glo "_law_is_of") rfl)
  have g__law_met := He.glo_ok X G (c.fact 31 (f := .glo "_law_met") rfl)
  have g__law_due := He.glo_ok X G (c.fact 32 (f := .glo "_law_due") rfl)
  have g__law_some_value := He.glo_ok X G (c.fact 33 (f := .glo "_law_some_value") rfl)
  have g_law := He.glo_ok X G (c.fact 34 (f := .glo "law") rfl)
  have cC := He.cls_ok (c.fact 35 (f := .cls "Column") rfl)
  have n_name := He.noat_ok (c.fact 36 (f := .noat "Column" "_name") rfl)
  have n_kind := He.noat_ok (c.fact 37 (f := .noat "Column" "_kind") rfl)
  have n_is_required := He.noat_ok (c.fact 38 (f := .noat "Column" "_is_required") rfl)
  have m_is_value := He.meth_ok (c.fact 39 (f := .meth "Column" "is_value") rfl)
  have m___eq__ := He.meth_ok (c.fact 40 (f := .meth "Column" "__eq__") rfl)
  have mk := He.mkr_ok (c.fact 41 (f := .mkr "Column") rfl)
  have no_InvalidName : PySem.W.findIn K (.ref (He.ga K "InvalidName")) "value" = some none := He.noat_ok (c.fact 42 (f := .noat "InvalidName" "value") rfl)
  have no_InvalidKind : PySem.W.findIn K (.ref (He.ga K "InvalidKind")) "value" = some none := He.noat_ok (c.fact 43 (f := .noat "InvalidKind" "value") rfl)
  obtain ⟨fd_InvalidName___init__, F_InvalidName___init__⟩ := c.def_ 0 (d := hd0) rfl
  obtain ⟨fd_InvalidKind___init__, F_InvalidKind___init__⟩ := c.def_ 1 (d := hd1) rfl
  obtain ⟨fd_Column___init__, F_Column___init__⟩ := c.def_ 2 (d := hd2) rfl
  obtain ⟨fd_Column_is_value, F_Column_is_value⟩ := c.def_ 3 (d := hd3) rfl
  obtain ⟨fd_Column___eq__, F_Column___eq__⟩ := c.def_ 4 (d := hd4) rfl
  obtain ⟨fd_is_number, F_is_number⟩ := c.def_ 5 (d := hd5) rfl
  obtain ⟨fd_is_word, F_is_word⟩ := c.def_ 6 (d := hd6) rfl
  obtain ⟨fd_is_name, F_is_name⟩ := c.def_ 7 (d := hd7) rfl
  obtain ⟨fd__law_pen, F__law_pen⟩ := c.def_ 8 (d := hd8) rfl
  obtain ⟨fd__law_draw, F__law_draw⟩ := c.def_ 9 (d := hd9) rfl
  obtain ⟨fd__law_pick, F__law_pick⟩ := c.def_ 10 (d := hd10) rfl
  obtain ⟨fd__law_value, F__law_value⟩ := c.def_ 11 (d := hd11) rfl
  obtain ⟨fd__law_any_value, F__law_any_value⟩ := c.def_ 12 (d := hd12) rfl
  obtain ⟨fd__law_words, F__law_words⟩ := c.def_ 13 (d := hd13) rfl
  obtain ⟨fd__law_columns, F__law_columns⟩ := c.def_ 14 (d := hd14) rfl
  obtain ⟨fd__law_is_word, F__law_is_word⟩ := c.def_ 15 (d := hd15) rfl
  obtain ⟨fd__law_is_of, F__law_is_of⟩ := c.def_ 16 (d := hd16) rfl
  obtain ⟨fd__law_met, F__law_met⟩ := c.def_ 17 (d := hd17) rfl
  obtain ⟨fd__law_due, F__law_due⟩ := c.def_ 18 (d := hd18) rfl
  obtain ⟨fd__law_some_value, F__law_some_value⟩ := c.def_ 19 (d := hd19) rfl
  obtain ⟨fd_law, F_law⟩ := c.def_ 20 (d := hd20) rfl
  have g1 : gtW K "name" = gtv "name" "Column.name" sGetN := (List.cons.inj S.g).1
  have g2 : gtW K "kind" = gtv "kind" "Column.kind" sGetK := (List.cons.inj (List.cons.inj S.g).2).1
  have g3 : gtW K "is_required" = gtv "is_required" "Column.is_required" sGetR := (List.cons.inj (List.cons.inj (List.cons.inj S.g).2).2).1
  obtain ⟨fdN, F_N⟩ := gt_ok g1 x.gN
  obtain ⟨fdK, F_K⟩ := gt_ok g2 x.gK
  obtain ⟨fdR, F_R⟩ := gt_ok g3 x.gR
  have e := hfa.symm.trans g_law
  cases e
  have b := FunD.bindsA (ps := ["_law_script"]) F_law fun _ _ _ _ _ _ us hl => match us, hl with | [_], _ => rfl
  refine ⟨fd_law, fun s v => b s [v] rfl, fun base _ _ TB => ?_⟩
  have T1 : TxB mg := ⟨z_int, z_len, z_abs, z_list⟩
  have T2 : TxW mg := ⟨T1, z_isinstance, z_str, z_bool, z_all, z_max, z_let⟩
  have T3 : TxN K mg := ⟨T2, g_RESERVED, x.rs⟩
  have T4 : TxV K mg := ⟨T3, z_range⟩
  have T5 : TxR K mg := ⟨T4, z_repr⟩
  have CT : ColT K mg := ⟨T3, g_Column, cC, n_name, n_kind, n_is_required, g_KINDS, x.ks⟩
  have CI : ColI K mg := ⟨CT, x.c1, x.c2, x.c3, x.s1, x.s2, x.c4⟩
  have oE := ok_eq (P := P) (w := w) (base := base) F_Column___eq__ CI
  have CE : ColE P w K mg base _ fd_Column___eq__ := ⟨CI, oE, F_Column___eq__.bindsN fun _ _ _ _ _ _ us hl => match us, hl with | [_, _], _ => rfl, m___eq__.at_, x.c5, m___eq__.fn⟩
  have MT : MetT K mg := ⟨g_InvalidName, g_InvalidKind, x.eN, x.eK, no_InvalidName, no_InvalidKind, x.ne, z_isinstance, z_repr, z_ValueError⟩
  obtain ⟨oN, bN⟩ := ok_eN (P := P) (w := w) (mg := mg) (base := base) F_InvalidName___init__ x.eN no_InvalidName
  obtain ⟨oK, bK⟩ := ok_eK (P := P) (w := w) (mg := mg) (base := base) F_InvalidKind___init__ x.eK no_InvalidKind
  have GI := ok_init (P := P) (w := w) (base := base) F_Column___init__ CT F_is_name g_is_name F_is_word g_is_word ⟨g_InvalidName, x.eN, x.iN, x.tN, oN⟩ bN ⟨g_InvalidKind, x.eK, x.iK, x.tK, oK⟩ bK
  have GV := ok_isval (P := P) (w := w) (base := base) F_Column_is_value CT F_is_number g_is_number F_is_word g_is_word
  have PN : PrT P w K mg base "name" (fun n _ _ => .str n) _ _ fdN := ⟨pr_ok x.pN, ok_getN F_N CT, F_N.bindsN fun _ _ _ _ _ _ us hl => match us, hl with | [_], _ => rfl⟩
  have PK : PrT P w K mg base "kind" (fun _ k _ => .str k) _ _ fdK := ⟨pr_ok x.pK, ok_getK F_K CT, F_K.bindsN fun _ _ _ _ _ _ us hl => match us, hl with | [_], _ => rfl⟩
  have PR : PrT P w K mg base "is_required" (fun _ _ b => .bl b) _ _ fdR := ⟨pr_ok x.pR, ok_getR F_R CT, F_R.bindsN fun _ _ _ _ _ _ us hl => match us, hl with | [_], _ => rfl⟩
  exact ok_law F_law TB T5 z_zip
    (ok_pen F__law_pen T1) g__law_pen F__law_pen.kp (F__law_pen.bindsN fun _ _ _ _ _ _ us hl => match us, hl with | [_], _ => rfl)
    (ok_cols F__law_columns T4 F__law_draw g__law_draw F__law_pick g__law_pick F__law_words g__law_words) g__law_columns F__law_columns.kp (F__law_columns.bindsN fun _ _ _ _ _ _ us hl => match us, hl with | [_, _], _ => rfl)
    (ok_pick F__law_pick T1 F__law_draw g__law_draw) g__law_pick F__law_pick.kp (F__law_pick.bindsN fun _ _ _ _ _ _ us hl => match us, hl with | [_, _], _ => rfl)
    (ok_any F__law_any_value T1 F__law_draw g__law_draw F__law_pick g__law_pick) g__law_any_value F__law_any_value.kp (F__law_any_value.bindsN fun _ _ _ _ _ _ us hl => match us, hl with | [_], _ => rfl)
    (ok_somev F__law_some_value T1 F__law_draw g__law_draw F__law_pick g__law_pick F__law_any_value g__law_any_value F__law_value g__law_value) g__law_some_value F__law_some_value.kp (F__law_some_value.bindsN fun _ _ _ _ _ _ us hl => match us, hl with | [_], _ => rfl)
    (ok_of F__law_is_of T2 F__law_is_word g__law_is_word) g__law_is_of F__law_is_of.kp (F__law_is_of.bindsN fun _ _ _ _ _ _ us hl => match us, hl with | [_, _], _ => rfl)
    (ok_due F__law_due T5 F__law_is_word g__law_is_word) g__law_due F__law_due.kp (F__law_due.bindsN fun _ _ _ _ _ _ us hl => match us, hl with | [_, _], _ => rfl)
    F__law_met g__law_met MT CE mk GI F_Column___init__ GV F_Column_is_value m_is_value PN PK PR
end K01
open PySem PySem.W PySem.Calls PyProof.Rows
theorem PySem.Challenge.cw_partwise_k01_columns_holds : PySem.Challenge.rw_partwise_k01_columns.Holds := by
  w_on; o_law
  refine HandSHeadRun.head_any (r := OpenLaw.row PySem.Challenge.rw_partwise_k01_columns) (q := view (OpenLaw.row PySem.Challenge.rw_partwise_k01_columns).prog [26]) (H := K01.hk) (ob := K01.ob) (M := 20000) (loose := K01.namesL) (d := HandSHeadRun.topDef (OpenLaw.row PySem.Challenge.rw_partwise_k01_columns).prog 26) (kwd := []) K01.ob_eq
    (by kernel_rfl) (fun s => by kernel_rfl) K01.run (by kernel_rfl) (by kernel_rfl) (by kernel_rfl) (by rfl) (by first | assumption | decide +kernel) (by decide +kernel) ⟨rfl, rfl, rfl, rfl, rfl, by decide +kernel⟩ ?hw ?hc
  case hw => w_witness2
  case hc =>
    refine K01.walk_GT (l := PySem.Challenge.rw_partwise_k01_columns) (n := 63) (k := 7) (x := "_law_script") rfl (by decide) (by kernel_rfl) ⟨rfl, by decide, by decide⟩ ?F
    intro w mg fa h Y G hmg0
    obtain ⟨K, S⟩ := Y
    have hmg : mg ("law" : PySem.Str) = some (.ref fa) := by
      have e : (HandSHeadRun.topDef (OpenLaw.row PySem.Challenge.rw_partwise_k01_columns).prog 26).name = ("law" : PySem.Str) := by kernel_rfl
      rw [← e]
      exact hmg0
    obtain ⟨fd, hb, hF⟩ := K01.facts (P := (PySem.Challenge.rw_partwise_k01_columns).prog) (w := w) S G hmg
    exact ⟨K, fd, _, _, K01.spLaw K _, S.kin, S.nil, S.out, PySem.W.codeHd_of_K S.kin S.hd, hb, fun H a ns hl hT hS => ⟨a, ns, rfl, hS, hl, hT, fun _ => rfl⟩, hF⟩
