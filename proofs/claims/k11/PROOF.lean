import PyProof.Rows.All
import Wide.All
import OpenK.AllK
import Wide.FinOn
import HandS.DictComp
import HandS.TupSets
import HandS.Head0
import HandS.Head1
import HandS.Head2
import HandS.Head3
import HandS.HeadHook4
import HandS.HeadNt
import KE.GoesEnum
import KE.KExcInit
import PyProof.ExcBaseAll.RuntimeError
import PyProof.ExcBaseAll.ArithmeticError
import HandS.DictEq
import PyProof.ListStr
import KE.GoesMore
import KE.GoesZip
import HandS.ForMost
import HandS.Property
import HandS.IsInst
import HandS.Wide
import HandS.WideBits
import HandS.Defaults
import HandS.StrMore
import HandS.Style
import HandS.Codes
import HandS.OwnEq
import HandS.Conv
import HandS.SetFor
import HandS.WrittenGet
import PyProof.StrBlock2
import PyProof.LongRange
import PyProof.ReprRoads
import HandS.FStr
import HandS.MakeKwOnly
import HandS.ListItems
import HandS.Gcd
import HandS.Small
import HandS.NoneIn
import HandS.Walk
import HandS.Deep
import HandS.SortRule
import HandS.SortInts
import HandS.Star
import KE.KOpsOwn
import KE.KMathGC
import HandS.Flt
import KE.KMathG
import KE.DataMinMax
import HandS.SortKw
import HandS.Zip
import Flt.RightSqrt
import PyProof.ReprNest
import HandS.ClsMeth
import HandS.TupLe
import HandS.Lambda
import HandS.ExcInit
import HandS.ExcIs
import HandS.ExcField
import HandS.ExcOwn
import HandS.TryMany
import HandS.WordsExc
import KE.KExcIs
import HandS.EndTab
import KE.KDictZip
import PyProof.ListNew
import HandS.TupAny
import KE.KDictDisplayH
import HandS.HotCalls
import HandS.ExcInitHot
import PySem.Challenge.RW_ringrows_k11_forms_refused
set_option Elab.async false
set_option linter.all false
set_option maxRecDepth 100000
set_option maxHeartbeats 4000000
namespace Rx
open PySem PySem.Spec PyProof.Rows L2
def fdR (K : PySem.W.Frag) (a : Addr) : Option FuncData := match K.lookup a with
  | some ⟨_, _, .func fd, _⟩ => some fd
  | _ => none
def shR (K : PySem.W.Frag) (a : Addr) : He.FnW := (fdR K a).map fun fd => (fd.name, fd.qualname, fd.params, fd.body, fd.scope, fd.globals, fd.closure, fd.builtins)
def dfR (K : PySem.W.Frag) (a : Addr) : Option Value := (fdR K a).map fun fd => fd.defaults
def cdR (K : PySem.W.Frag) (a : Addr) : Value := match fdR K a with
  | some fd => fd.code
  | none => .none
def adV : Value → Addr
  | .ref a => a
  | _ => 0
def tbR (K : PySem.W.Frag) (c : Addr) : Option Value := match K.lookup c with
  | some ⟨_, _, .fields vs, _⟩ => vs[11]?
  | _ => none
def tbA (K : PySem.W.Frag) (c : Addr) : Addr := match tbR K c with
  | some v => adV v
  | none => 0
def tkI : Option (Option Value) → Tok
  | some (some (.int _ t)) => t
  | some (some (.str _ t)) => t
  | _ => 0
def xcR (K : PySem.W.Frag) (C : Addr) : Bool := match K.lookup C with
  | some ⟨.type c, _, .cls cd, sl⟩ => decide (c = "type") && (match cd.mro, sl.toList with
    | .ref D :: bm, [_, _, _, _, some (.builtin n), _] => decide (D = C) && (decide (n = "ValueError.__new__") && (cd.hasDict && (!cd.hasDel && PySem.HandSPX.refsVE bm)))
    | _, _ => false)
  | _ => false
abbrev AlR : Type := Bool × List He.FnW × List (Option (List (Option (Str × Int))))
def obK (ex : PySem.W.Frag → Bool) (fn : List (PySem.W.Frag → Addr)) (ts : List He.Tab) (K : PySem.W.Frag) : AlR := (ex K, fn.map fun a => shR K (a K), ts.map fun t => He.dicW K (t.1 K))
def vaR (vs : List He.FnW) (ts : List He.Tab) (w : World) : AlR := (true, vs, ts.map fun t => some (He.keysIn w.params t.2))
def obR (n : Nat) (ex : PySem.W.Frag → Bool) (fn : List (PySem.W.Frag → Addr)) (ts : List He.Tab) (g : Addr → Option Obj) : AlR := obK ex fn ts (He.frT g (List.range n))
def hkR (n : Nat) (ex : PySem.W.Frag → Bool) (fn : List (PySem.W.Frag → Addr)) (vs : List He.FnW) (ts : List He.Tab) : PySem.W.Hook where
  α := AlR
  obs := fun s => obR n ex fn ts s.heap.get?
  val := fun w => vaR vs ts w
  says := fun w h => ∃ K : PySem.W.Frag, K.In h ∧ obK ex fn ts K = vaR vs ts w
  of := fun _ _ e => ⟨_, He.frT_in, e⟩
  keeps := fun _ _ _ ⟨K, hK, c⟩ k => ⟨K, PySem.W.Frag.In.keeps hK k, c⟩
def frcO {α : Type} (o : Obj) (k : Obj → α) : α := match o with
  | ⟨c, d, dt, sl⟩ => k ⟨c, d, dt, sl⟩
def frcK {α : Type} : PySem.W.Frag → (PySem.W.Frag → α) → α
  | [], k => k []
  | (a, o) :: r, k => frcO o fun o => frcK r fun r => k ((a, o) :: r)
def obA (n : Nat) (ex : PySem.W.Frag → Bool) (s : PySem.W.SharedT) : Bool := frcK (He.frT (HandSHeadRun.getT s) (List.range n)) ex
def obB (n : Nat) (fn : List (PySem.W.Frag → Addr)) (ts : List He.Tab) (s : PySem.W.SharedT) : List He.FnW × List (Option (List (Option (Str × Int)))) :=
  frcK (He.frT (HandSHeadRun.getT s) (List.range n)) fun K => (fn.map fun a => shR K (a K), ts.map fun t => He.dicW K (t.1 K))
def obF (n : Nat) (ea eb : PySem.W.Frag → Bool) (fn : List (PySem.W.Frag → Addr)) (ts : List He.Tab) (s : PySem.W.SharedT) : AlR := (obA n ea s && obA n eb s, obB n fn ts s)
theorem map_four {σ α β δ : Type} {o : Option σ} {f : σ → α} {g : σ → β} {h h2 : σ → Bool} {k : σ → δ} {a : α} {b : β} {d : δ} (x : o.map (fun s => (f s, g s)) = some (a, b)) (y : o.map h = some true) (y2 : o.map h2 = some true) (z : o.map k = some d) :
    o.map (fun s => (f s, g s, (h s && h2 s), k s)) = some (a, b, true, d) := by
  cases o with
  | none => cases x
  | some s =>
    have x1 := Option.some.inj x
    have y1 : h s = true := Option.some.inj y
    have y3 : h2 s = true := Option.some.inj y2
    have z1 : k s = d := Option.some.inj z
    obtain ⟨x2, x3⟩ := Prod.mk.inj x1
    show some (f s, g s, (h s && h2 s), k s) = _
    rw [x2, x3, y1, y3, z1]
    rfl
noncomputable abbrev endI (p : Program) (w : World) : Option (Shared × PySem.W.SharedT) := HandSHeadRun.wholeF (fun p => HandSHeadRun.stepQ (HandSHeadRun.denQ HandSHeadRun.tabQ) p w) HandSHeadRun.fenceQ 60000 p
theorem runEqI_of {R : PySem.W.OpenRow} {q : Program} {ea eb : PySem.W.Frag → Bool} {fn : List (PySem.W.Frag → Addr)} {vs : List He.FnW} {ts : List He.Tab} {loose : List Str} {w : World} {n : Nat}
    (x : (endI R.prog w).map (fun x => (HandSHeadRun.looksF R.prog x.1.heap x.2.abs, HandSHeadRun.seenQ q loose (importedModules R.prog.main.body) (fun s => PySem.W.xlAt q [] s && PySem.W.recOk R.toRowW.records s) x.2.abs)) = some (true, PySem.W.openGood q loose))
    (y : (endI R.prog w).map (fun x => obA n ea x.2) = some true) (y2 : (endI R.prog w).map (fun x => obA n eb x.2) = some true)
    (z : (endI R.prog w).map (fun x => obB n fn ts x.2) = some (vs, ts.map fun t => some (He.keysIn w.params t.2))) :
    HandSHeadRun.RunEqI R q (hkR n (fun K => ea K && eb K) fn vs ts) (obF n ea eb fn ts) 60000 loose w := map_four x y y2 z
end Rx
namespace Lw
open PySem PySem.Spec PyProof.Rows L2 Rx
def topS (i : Nat) : Stmt := PySem.Challenge.pw_ringrows_k11_forms_refused.main.body.getD i (.Pass ⟨0, 0, 0, 0⟩)
abbrev s_draw : Stmt := (topS 40)
abbrev s_pick : Stmt := (topS 41)
abbrev s_no_integer : Stmt := (topS 45)
abbrev s_no_count : Stmt := (topS 46)
abbrev s_first : Stmt := (topS 48)
abbrev s_spoilt : Stmt := (topS 49)
abbrev s_early : Stmt := (topS 50)
abbrev s_no_row : Stmt := (topS 47)
abbrev s_rows : Stmt := (topS 51)
abbrev s_is_integer : Stmt := (topS 11)
abbrev s_is_count : Stmt := (topS 12)
abbrev s_check_first : Stmt := (topS 28)
abbrev s_is_list : Stmt := (topS 13)
abbrev s_check_values : Stmt := (topS 30)
abbrev s_is_row : Stmt := (topS 32)
abbrev s_check_rows : Stmt := (topS 31)
abbrev s_check_parts : Stmt := (topS 29)
abbrev s_Form_init : Stmt := (inClass (topS 26) 0)
abbrev s_is_value : Stmt := (topS 42)
abbrev s_heard : Stmt := (topS 43)
abbrev s_is_due : Stmt := (topS 44)
abbrev s_is_form_right : Stmt := (topS 52)
abbrev s_checked : Stmt := (topS 33)
abbrev s_Form_level : Stmt := (inClass (topS 26) 1)
abbrev s_is_level_right : Stmt := (topS 53)
abbrev s_right : Stmt := (topS 54)
abbrev s_pot : Stmt := (topS 39)
abbrev s_law : Stmt := (topS 55)
abbrev s_Reckoned_init : Stmt := (inClass (topS 25) 0)
abbrev s_InvalidFirst_init : Stmt := (inClass (topS 3) 0)
abbrev s_InvalidNumber_init : Stmt := (inClass (topS 6) 0)
abbrev s_InvalidRows_init : Stmt := (inClass (topS 5) 0)
abbrev s_InvalidValues_init : Stmt := (inClass (topS 4) 0)
abbrev s_TooMany_init : Stmt := (inClass (topS 9) 0)
def xa_CInvalidFirst (K : PySem.W.Frag) : Addr := He.ga K "InvalidFirst"
def xa_CInvalidNumber (K : PySem.W.Frag) : Addr := He.ga K "InvalidNumber"
def xa_CInvalidRows (K : PySem.W.Frag) : Addr := He.ga K "InvalidRows"
def xa_CInvalidValues (K : PySem.W.Frag) : Addr := He.ga K "InvalidValues"
def xa_CLeagueError (K : PySem.W.Frag) : Addr := He.ga K "LeagueError"
def xa_CLimitError (K : PySem.W.Frag) : Addr := He.ga K "LimitError"
def xa_CTooMany (K : PySem.W.Frag) : Addr := He.ga K "TooMany"
def xa_CForm (K : PySem.W.Frag) : Addr := He.ga K "Form"
def xa_CReckoned (K : PySem.W.Frag) : Addr := He.ga K "Reckoned"
def xa_Adraw (K : PySem.W.Frag) : Addr := He.ga K "_law_draw"
def xa_Apick (K : PySem.W.Frag) : Addr := He.ga K "_law_pick"
def xa_Ano_integer (K : PySem.W.Frag) : Addr := He.ga K "_law_no_integer"
def xa_Ano_count (K : PySem.W.Frag) : Addr := He.ga K "_law_no_count"
def xa_Afirst (K : PySem.W.Frag) : Addr := He.ga K "_law_first"
def xa_Aspoilt (K : PySem.W.Frag) : Addr := He.ga K "_law_spoilt"
def xa_Aearly (K : PySem.W.Frag) : Addr := He.ga K "_law_early"
def xa_Ano_row (K : PySem.W.Frag) : Addr := He.ga K "_law_no_row"
def xa_Arows (K : PySem.W.Frag) : Addr := He.ga K "_law_rows"
def xa_Ais_integer (K : PySem.W.Frag) : Addr := He.ga K "is_integer"
def xa_Ais_count (K : PySem.W.Frag) : Addr := He.ga K "is_count"
def xa_Acheck_first (K : PySem.W.Frag) : Addr := He.ga K "_check_first"
def xa_Ais_list (K : PySem.W.Frag) : Addr := He.ga K "is_list"
def xa_Acheck_values (K : PySem.W.Frag) : Addr := He.ga K "_check_values"
def xa_Ais_row (K : PySem.W.Frag) : Addr := He.ga K "_is_row"
def xa_Acheck_rows (K : PySem.W.Frag) : Addr := He.ga K "_check_rows"
def xa_Acheck_parts (K : PySem.W.Frag) : Addr := He.ga K "_check_parts"
def xa_AForm_init (K : PySem.W.Frag) : Addr := He.ma K (xa_CForm K) "__init__"
def xa_Ais_value (K : PySem.W.Frag) : Addr := He.ga K "_law_is_value"
def xa_Aheard (K : PySem.W.Frag) : Addr := He.ga K "_law_heard"
def xa_Ais_due (K : PySem.W.Frag) : Addr := He.ga K "_law_is_due"
def xa_Ais_form_right (K : PySem.W.Frag) : Addr := He.ga K "_law_is_form_right"
def xa_Achecked (K : PySem.W.Frag) : Addr := He.ga K "_checked"
def xa_AForm_level (K : PySem.W.Frag) : Addr := He5.wf K (xa_CForm K) "staticmethod" "level"
def xa_Ais_level_right (K : PySem.W.Frag) : Addr := He.ga K "_law_is_level_right"
def xa_Aright (K : PySem.W.Frag) : Addr := He.ga K "_law_right"
def xa_Apot (K : PySem.W.Frag) : Addr := He.ga K "_law_pot"
def xa_Alaw (K : PySem.W.Frag) : Addr := He.ga K "law"
def xa_AReckoned_init (K : PySem.W.Frag) : Addr := He.ma K (xa_CReckoned K) "__init__"
def xa_AInvalidFirst_init (K : PySem.W.Frag) : Addr := He.ma K (xa_CInvalidFirst K) "__init__"
def xa_AInvalidNumber_init (K : PySem.W.Frag) : Addr := He.ma K (xa_CInvalidNumber K) "__init__"
def xa_AInvalidRows_init (K : PySem.W.Frag) : Addr := He.ma K (xa_CInvalidRows K) "__init__"
def xa_AInvalidValues_init (K : PySem.W.Frag) : Addr := He.ma K (xa_CInvalidValues K) "__init__"
def xa_ATooMany_init (K : PySem.W.Frag) : Addr := He.ma K (xa_CTooMany K) "__init__"
def xa_Kis_form_right (K : PySem.W.Frag) : Addr := adV (cdR K (xa_Ais_form_right K))
def xa_TTis_form_right (K : PySem.W.Frag) : Addr := tbA K (xa_Kis_form_right K)
def xa_Kis_level_right (K : PySem.W.Frag) : Addr := adV (cdR K (xa_Ais_level_right K))
def xa_TTis_level_right (K : PySem.W.Frag) : Addr := tbA K (xa_Kis_level_right K)
def sv_draw : He.FnW := some ("_law_draw", "_law_draw", defArgs s_draw, .stmts (defBody s_draw), defScope s_draw, mainGlobals, [], builtinsNs)
def sv_pick : He.FnW := some ("_law_pick", "_law_pick", defArgs s_pick, .stmts (defBody s_pick), defScope s_pick, mainGlobals, [], builtinsNs)
def sv_no_integer : He.FnW := some ("_law_no_integer", "_law_no_integer", defArgs s_no_integer, .stmts (defBody s_no_integer), defScope s_no_integer, mainGlobals, [], builtinsNs)
def sv_no_count : He.FnW := some ("_law_no_count", "_law_no_count", defArgs s_no_count, .stmts (defBody s_no_count), defScope s_no_count, mainGlobals, [], builtinsNs)
def sv_first : He.FnW := some ("_law_first", "_law_first", defArgs s_first, .stmts (defBody s_first), defScope s_first, mainGlobals, [], builtinsNs)
def sv_spoilt : He.FnW := some ("_law_spoilt", "_law_spoilt", defArgs s_spoilt, .stmts (defBody s_spoilt), defScope s_spoilt, mainGlobals, [], builtinsNs)
def sv_early : He.FnW := some ("_law_early", "_law_early", defArgs s_early, .stmts (defBody s_early), defScope s_early, mainGlobals, [], builtinsNs)
def sv_no_row : He.FnW := some ("_law_no_row", "_law_no_row", defArgs s_no_row, .stmts (defBody s_no_row), defScope s_no_row, mainGlobals, [], builtinsNs)
def sv_rows : He.FnW := some ("_law_rows", "_law_rows", defArgs s_rows, .stmts (defBody s_rows), defScope s_rows, mainGlobals, [], builtinsNs)
def sv_is_integer : He.FnW := some ("is_integer", "is_integer", defArgs s_is_integer, .stmts (defBody s_is_integer), defScope s_is_integer, mainGlobals, [], builtinsNs)
def sv_is_count : He.FnW := some ("is_count", "is_count", defArgs s_is_count, .stmts (defBody s_is_count), defScope s_is_count, mainGlobals, [], builtinsNs)
def sv_check_first : He.FnW := some ("_check_first", "_check_first", defArgs s_check_first, .stmts (defBody s_check_first), defScope s_check_first, mainGlobals, [], builtinsNs)
def sv_is_list : He.FnW := some ("is_list", "is_list", defArgs s_is_list, .stmts (defBody s_is_list), defScope s_is_list, mainGlobals, [], builtinsNs)
def sv_check_values : He.FnW := some ("_check_values", "_check_values", defArgs s_check_values, .stmts (defBody s_check_values), defScope s_check_values, mainGlobals, [], builtinsNs)
def sv_is_row : He.FnW := some ("_is_row", "_is_row", defArgs s_is_row, .stmts (defBody s_is_row), defScope s_is_row, mainGlobals, [], builtinsNs)
def sv_check_rows : He.FnW := some ("_check_rows", "_check_rows", defArgs s_check_rows, .stmts (defBody s_check_rows), defScope s_check_rows, mainGlobals, [], builtinsNs)
def sv_check_parts : He.FnW := some ("_check_parts", "_check_parts", defArgs s_check_parts, .stmts (defBody s_check_parts), defScope s_check_parts, mainGlobals, [], builtinsNs)
def sv_Form_init : He.FnW := some ("__init__", "Form.__init__", defArgs s_Form_init, .stmts (defBody s_Form_init), defScope s_Form_init, mainGlobals, [], builtinsNs)
def sv_is_value : He.FnW := some ("_law_is_value", "_law_is_value", defArgs s_is_value, .stmts (defBody s_is_value), defScope s_is_value, mainGlobals, [], builtinsNs)
def sv_heard : He.FnW := some ("_law_heard", "_law_heard", defArgs s_heard, .stmts (defBody s_heard), defScope s_heard, mainGlobals, [], builtinsNs)
def sv_is_due : He.FnW := some ("_law_is_due", "_law_is_due", defArgs s_is_due, .stmts (defBody s_is_due), defScope s_is_due, mainGlobals, [], builtinsNs)
def sv_is_form_right : He.FnW := some ("_law_is_form_right", "_law_is_form_right", defArgs s_is_form_right, .stmts (defBody s_is_form_right), defScope s_is_form_right, mainGlobals, [], builtinsNs)
def sv_checked : He.FnW := some ("_checked", "_checked", defArgs s_checked, .stmts (defBody s_checked), defScope s_checked, mainGlobals, [], builtinsNs)
def sv_Form_level : He.FnW := some ("level", "Form.level", defArgs s_Form_level, .stmts (defBody s_Form_level), defScope s_Form_level, mainGlobals, [], builtinsNs)
def sv_is_level_right : He.FnW := some ("_law_is_level_right", "_law_is_level_right", defArgs s_is_level_right, .stmts (defBody s_is_level_right), defScope s_is_level_right, mainGlobals, [], builtinsNs)
def sv_right : He.FnW := some ("_law_right", "_law_right", defArgs s_right, .stmts (defBody s_right), defScope s_right, mainGlobals, [], builtinsNs)
def sv_pot : He.FnW := some ("_law_pot", "_law_pot", defArgs s_pot, .stmts (defBody s_pot), defScope s_pot, mainGlobals, [], builtinsNs)
def sv_law : He.FnW := some ("law", "law", defArgs s_law, .stmts (defBody s_law), defScope s_law, mainGlobals, [], builtinsNs)
def sv_Reckoned_init : He.FnW := some ("__init__", "Reckoned.__init__", defArgs s_Reckoned_init, .stmts (defBody s_Reckoned_init), defScope s_Reckoned_init, mainGlobals, [], builtinsNs)
def sv_InvalidFirst_init : He.FnW := some ("__init__", "InvalidFirst.__init__", defArgs s_InvalidFirst_init, .stmts (defBody s_InvalidFirst_init), defScope s_InvalidFirst_init, mainGlobals, [], builtinsNs)
def sv_InvalidNumber_init : He.FnW := some ("__init__", "InvalidNumber.__init__", defArgs s_InvalidNumber_init, .stmts (defBody s_InvalidNumber_init), defScope s_InvalidNumber_init, mainGlobals, [], builtinsNs)
def sv_InvalidRows_init : He.FnW := some ("__init__", "InvalidRows.__init__", defArgs s_InvalidRows_init, .stmts (defBody s_InvalidRows_init), defScope s_InvalidRows_init, mainGlobals, [], builtinsNs)
def sv_InvalidValues_init : He.FnW := some ("__init__", "InvalidValues.__init__", defArgs s_InvalidValues_init, .stmts (defBody s_InvalidValues_init), defScope s_InvalidValues_init, mainGlobals, [], builtinsNs)
def sv_TooMany_init : He.FnW := some ("__init__", "TooMany.__init__", defArgs s_TooMany_init, .stmts (defBody s_TooMany_init), defScope s_TooMany_init, mainGlobals, [], builtinsNs)
def gx0 (K : PySem.W.Frag) : Bool := decide ((PySem.W.nsIn K mainGlobals "_law_draw" = some (some (.ref (xa_Adraw K)))) ∧ (dfR K (xa_Adraw K) = some .none) ∧ (PySem.W.codeIn K (cdR K (xa_Adraw K)) "_law_draw" = true) ∧ (PySem.W.keepIn K (.ref (xa_Adraw K)) = true) ∧ (PySem.W.nsIn K mainGlobals "_law_pick" = some (some (.ref (xa_Apick K)))) ∧ (dfR K (xa_Apick K) = some .none) ∧ (PySem.W.codeIn K (cdR K (xa_Apick K)) "_law_pick" = true) ∧ (PySem.W.keepIn K (.ref (xa_Apick K)) = true) ∧ (PySem.W.nsIn K mainGlobals "_law_no_integer" = some (some (.ref (xa_Ano_integer K)))) ∧ (dfR K (xa_Ano_integer K) = some .none))
def gx1 (K : PySem.W.Frag) : Bool := decide ((PySem.W.codeIn K (cdR K (xa_Ano_integer K)) "_law_no_integer" = true) ∧ (PySem.W.keepIn K (.ref (xa_Ano_integer K)) = true) ∧ (PySem.W.nsIn K mainGlobals "_law_no_count" = some (some (.ref (xa_Ano_count K)))) ∧ (dfR K (xa_Ano_count K) = some .none) ∧ (PySem.W.codeIn K (cdR K (xa_Ano_count K)) "_law_no_count" = true) ∧ (PySem.W.keepIn K (.ref (xa_Ano_count K)) = true) ∧ (PySem.W.nsIn K mainGlobals "_law_first" = some (some (.ref (xa_Afirst K)))) ∧ (dfR K (xa_Afirst K) = some .none) ∧ (PySem.W.codeIn K (cdR K (xa_Afirst K)) "_law_first" = true) ∧ (PySem.W.keepIn K (.ref (xa_Afirst K)) = true))
def gx2 (K : PySem.W.Frag) : Bool := decide ((PySem.W.nsIn K mainGlobals "_law_spoilt" = some (some (.ref (xa_Aspoilt K)))) ∧ (dfR K (xa_Aspoilt K) = some .none) ∧ (PySem.W.codeIn K (cdR K (xa_Aspoilt K)) "_law_spoilt" = true) ∧ (PySem.W.keepIn K (.ref (xa_Aspoilt K)) = true) ∧ (PySem.W.nsIn K mainGlobals "_law_early" = some (some (.ref (xa_Aearly K)))) ∧ (dfR K (xa_Aearly K) = some .none) ∧ (PySem.W.codeIn K (cdR K (xa_Aearly K)) "_law_early" = true) ∧ (PySem.W.keepIn K (.ref (xa_Aearly K)) = true) ∧ (PySem.W.nsIn K mainGlobals "_law_no_row" = some (some (.ref (xa_Ano_row K)))) ∧ (dfR K (xa_Ano_row K) = some .none))
def gx3 (K : PySem.W.Frag) : Bool := decide ((PySem.W.codeIn K (cdR K (xa_Ano_row K)) "_law_no_row" = true) ∧ (PySem.W.keepIn K (.ref (xa_Ano_row K)) = true) ∧ (PySem.W.nsIn K mainGlobals "_law_rows" = some (some (.ref (xa_Arows K)))) ∧ (dfR K (xa_Arows K) = some .none) ∧ (PySem.W.codeIn K (cdR K (xa_Arows K)) "_law_rows" = true) ∧ (PySem.W.keepIn K (.ref (xa_Arows K)) = true) ∧ (PySem.W.nsIn K mainGlobals "is_integer" = some (some (.ref (xa_Ais_integer K)))) ∧ (dfR K (xa_Ais_integer K) = some .none) ∧ (PySem.W.codeIn K (cdR K (xa_Ais_integer K)) "is_integer" = true) ∧ (PySem.W.keepIn K (.ref (xa_Ais_integer K)) = true))
def gx4 (K : PySem.W.Frag) : Bool := decide ((PySem.W.nsIn K mainGlobals "is_count" = some (some (.ref (xa_Ais_count K)))) ∧ (dfR K (xa_Ais_count K) = some .none) ∧ (PySem.W.codeIn K (cdR K (xa_Ais_count K)) "is_count" = true) ∧ (PySem.W.keepIn K (.ref (xa_Ais_count K)) = true) ∧ (PySem.W.nsIn K mainGlobals "_check_first" = some (some (.ref (xa_Acheck_first K)))) ∧ (dfR K (xa_Acheck_first K) = some .none) ∧ (PySem.W.codeIn K (cdR K (xa_Acheck_first K)) "_check_first" = true) ∧ (PySem.W.keepIn K (.ref (xa_Acheck_first K)) = true) ∧ (PySem.W.nsIn K mainGlobals "is_list" = some (some (.ref (xa_Ais_list K)))) ∧ (dfR K (xa_Ais_list K) = some .none))
def gx5 (K : PySem.W.Frag) : Bool := decide ((PySem.W.codeIn K (cdR K (xa_Ais_list K)) "is_list" = true) ∧ (PySem.W.keepIn K (.ref (xa_Ais_list K)) = true) ∧ (PySem.W.nsIn K mainGlobals "_check_values" = some (some (.ref (xa_Acheck_values K)))) ∧ (dfR K (xa_Acheck_values K) = some .none) ∧ (PySem.W.codeIn K (cdR K (xa_Acheck_values K)) "_check_values" = true) ∧ (PySem.W.keepIn K (.ref (xa_Acheck_values K)) = true) ∧ (PySem.W.nsIn K mainGlobals "_is_row" = some (some (.ref (xa_Ais_row K)))) ∧ (dfR K (xa_Ais_row K) = some .none) ∧ (PySem.W.codeIn K (cdR K (xa_Ais_row K)) "_is_row" = true) ∧ (PySem.W.keepIn K (.ref (xa_Ais_row K)) = true))
def gx6 (K : PySem.W.Frag) : Bool := decide ((PySem.W.nsIn K mainGlobals "_check_rows" = some (some (.ref (xa_Acheck_rows K)))) ∧ (dfR K (xa_Acheck_rows K) = some .none) ∧ (PySem.W.codeIn K (cdR K (xa_Acheck_rows K)) "_check_rows" = true) ∧ (PySem.W.keepIn K (.ref (xa_Acheck_rows K)) = true) ∧ (PySem.W.nsIn K mainGlobals "_check_parts" = some (some (.ref (xa_Acheck_parts K)))) ∧ (dfR K (xa_Acheck_parts K) = some .none) ∧ (PySem.W.codeIn K (cdR K (xa_Acheck_parts K)) "_check_parts" = true) ∧ (PySem.W.keepIn K (.ref (xa_Acheck_parts K)) = true) ∧ (PySem.W.findIn K (.ref (xa_CForm K)) "__init__" = some (some (.ref (xa_AForm_init K)))) ∧ (PySem.W.isFn K (.ref (xa_AForm_init K)) = true))
def gx7 (K : PySem.W.Frag) : Bool := decide ((dfR K (xa_AForm_init K) = some .none) ∧ (PySem.W.codeIn K (cdR K (xa_AForm_init K)) "Form.__init__" = true) ∧ (PySem.W.keepIn K (.ref (xa_AForm_init K)) = true) ∧ (PySem.W.nsIn K mainGlobals "_law_is_value" = some (some (.ref (xa_Ais_value K)))) ∧ (dfR K (xa_Ais_value K) = some .none) ∧ (PySem.W.codeIn K (cdR K (xa_Ais_value K)) "_law_is_value" = true) ∧ (PySem.W.keepIn K (.ref (xa_Ais_value K)) = true) ∧ (PySem.W.nsIn K mainGlobals "_law_heard" = some (some (.ref (xa_Aheard K)))) ∧ (dfR K (xa_Aheard K) = some .none) ∧ (PySem.W.codeIn K (cdR K (xa_Aheard K)) "_law_heard" = true))
def gx8 (K : PySem.W.Frag) : Bool := decide ((PySem.W.keepIn K (.ref (xa_Aheard K)) = true) ∧ (PySem.W.nsIn K mainGlobals "_law_is_due" = some (some (.ref (xa_Ais_due K)))) ∧ (dfR K (xa_Ais_due K) = some .none) ∧ (PySem.W.codeIn K (cdR K (xa_Ais_due K)) "_law_is_due" = true) ∧ (PySem.W.keepIn K (.ref (xa_Ais_due K)) = true) ∧ (PySem.W.nsIn K mainGlobals "_law_is_form_right" = some (some (.ref (xa_Ais_form_right K)))) ∧ (dfR K (xa_Ais_form_right K) = some .none) ∧ (cdR K (xa_Ais_form_right K) = .ref (xa_Kis_form_right K)) ∧ (PySem.W.codeIn K (.ref (xa_Kis_form_right K)) "_law_is_form_right" = true) ∧ (PySem.W.keepIn K (.ref (xa_Ais_form_right K)) = true))
def gx9 (K : PySem.W.Frag) : Bool := decide ((PySem.W.nsIn K mainGlobals "_checked" = some (some (.ref (xa_Achecked K)))) ∧ (dfR K (xa_Achecked K) = some .none) ∧ (PySem.W.codeIn K (cdR K (xa_Achecked K)) "_checked" = true) ∧ (PySem.W.keepIn K (.ref (xa_Achecked K)) = true) ∧ (PySem.W.readsIn K (xa_CForm K) (.type "type") = true) ∧ (PySem.W.specialIn K (.ref (xa_CForm K)) "__getattribute__" = some (some (.builtin "type.__getattribute__"))) ∧ (He5.wrapB K (xa_CForm K) "staticmethod" "staticmethod.__get__" "level" = true) ∧ (dfR K (xa_AForm_level K) = some .none) ∧ (PySem.W.codeIn K (cdR K (xa_AForm_level K)) "Form.level" = true) ∧ (PySem.W.keepIn K (.ref (xa_AForm_level K)) = true))
def gx10 (K : PySem.W.Frag) : Bool := decide ((PySem.W.nsIn K mainGlobals "_law_is_level_right" = some (some (.ref (xa_Ais_level_right K)))) ∧ (dfR K (xa_Ais_level_right K) = some .none) ∧ (cdR K (xa_Ais_level_right K) = .ref (xa_Kis_level_right K)) ∧ (PySem.W.codeIn K (.ref (xa_Kis_level_right K)) "_law_is_level_right" = true) ∧ (PySem.W.keepIn K (.ref (xa_Ais_level_right K)) = true) ∧ (PySem.W.nsIn K mainGlobals "_law_right" = some (some (.ref (xa_Aright K)))) ∧ (dfR K (xa_Aright K) = some .none) ∧ (PySem.W.codeIn K (cdR K (xa_Aright K)) "_law_right" = true) ∧ (PySem.W.keepIn K (.ref (xa_Aright K)) = true) ∧ (PySem.W.nsIn K mainGlobals "_law_pot" = some (some (.ref (xa_Apot K)))))
def gx11 (K : PySem.W.Frag) : Bool := decide ((dfR K (xa_Apot K) = some .none) ∧ (PySem.W.codeIn K (cdR K (xa_Apot K)) "_law_pot" = true) ∧ (PySem.W.keepIn K (.ref (xa_Apot K)) = true) ∧ (PySem.W.nsIn K mainGlobals "law" = some (some (.ref (xa_Alaw K)))) ∧ (dfR K (xa_Alaw K) = some .none) ∧ (PySem.W.codeIn K (cdR K (xa_Alaw K)) "law" = true) ∧ (PySem.W.keepIn K (.ref (xa_Alaw K)) = true) ∧ (PySem.W.findIn K (.ref (xa_CReckoned K)) "__init__" = some (some (.ref (xa_AReckoned_init K)))) ∧ (PySem.W.isFn K (.ref (xa_AReckoned_init K)) = true) ∧ (dfR K (xa_AReckoned_init K) = some .none))
def gx12 (K : PySem.W.Frag) : Bool := decide ((PySem.W.codeIn K (cdR K (xa_AReckoned_init K)) "Reckoned.__init__" = true) ∧ (PySem.W.keepIn K (.ref (xa_AReckoned_init K)) = true) ∧ (PySem.W.findIn K (.ref (xa_CInvalidFirst K)) "__init__" = some (some (.ref (xa_AInvalidFirst_init K)))) ∧ (PySem.W.isFn K (.ref (xa_AInvalidFirst_init K)) = true) ∧ (dfR K (xa_AInvalidFirst_init K) = some .none) ∧ (PySem.W.codeIn K (cdR K (xa_AInvalidFirst_init K)) "InvalidFirst.__init__" = true) ∧ (PySem.W.keepIn K (.ref (xa_AInvalidFirst_init K)) = true) ∧ (PySem.W.findIn K (.ref (xa_CInvalidNumber K)) "__init__" = some (some (.ref (xa_AInvalidNumber_init K)))) ∧ (PySem.W.isFn K (.ref (xa_AInvalidNumber_init K)) = true) ∧ (dfR K (xa_AInvalidNumber_init K) = some .none))
def gx13 (K : PySem.W.Frag) : Bool := decide ((PySem.W.codeIn K (cdR K (xa_AInvalidNumber_init K)) "InvalidNumber.__init__" = true) ∧ (PySem.W.keepIn K (.ref (xa_AInvalidNumber_init K)) = true) ∧ (PySem.W.findIn K (.ref (xa_CInvalidRows K)) "__init__" = some (some (.ref (xa_AInvalidRows_init K)))) ∧ (PySem.W.isFn K (.ref (xa_AInvalidRows_init K)) = true) ∧ (dfR K (xa_AInvalidRows_init K) = some .none) ∧ (PySem.W.codeIn K (cdR K (xa_AInvalidRows_init K)) "InvalidRows.__init__" = true) ∧ (PySem.W.keepIn K (.ref (xa_AInvalidRows_init K)) = true) ∧ (PySem.W.findIn K (.ref (xa_CInvalidValues K)) "__init__" = some (some (.ref (xa_AInvalidValues_init K)))) ∧ (PySem.W.isFn K (.ref (xa_AInvalidValues_init K)) = true) ∧ (dfR K (xa_AInvalidValues_init K) = some .none))
def gx14 (K : PySem.W.Frag) : Bool := decide ((PySem.W.codeIn K (cdR K (xa_AInvalidValues_init K)) "InvalidValues.__init__" = true) ∧ (PySem.W.keepIn K (.ref (xa_AInvalidValues_init K)) = true) ∧ (PySem.W.findIn K (.ref (xa_CTooMany K)) "__init__" = some (some (.ref (xa_ATooMany_init K)))) ∧ (PySem.W.isFn K (.ref (xa_ATooMany_init K)) = true) ∧ (dfR K (xa_ATooMany_init K) = some .none) ∧ (PySem.W.codeIn K (cdR K (xa_ATooMany_init K)) "TooMany.__init__" = true) ∧ (PySem.W.keepIn K (.ref (xa_ATooMany_init K)) = true) ∧ (PySem.W.nsIn K mainGlobals "InvalidFirst" = some (some (.ref (xa_CInvalidFirst K)))) ∧ (PySem.W.nsIn K mainGlobals "InvalidNumber" = some (some (.ref (xa_CInvalidNumber K)))) ∧ (PySem.W.nsIn K mainGlobals "InvalidRows" = some (some (.ref (xa_CInvalidRows K)))))
def gx15 (K : PySem.W.Frag) : Bool := decide ((PySem.W.nsIn K mainGlobals "InvalidValues" = some (some (.ref (xa_CInvalidValues K)))) ∧ (PySem.W.nsIn K mainGlobals "LeagueError" = some (some (.ref (xa_CLeagueError K)))) ∧ (PySem.W.nsIn K mainGlobals "LimitError" = some (some (.ref (xa_CLimitError K)))) ∧ (PySem.W.nsIn K mainGlobals "TooMany" = some (some (.ref (xa_CTooMany K)))) ∧ (xcR K (xa_CInvalidFirst K) = true) ∧ (PySem.W.findIn K (.ref (xa_CInvalidFirst K)) "__setattr__" = some (some (.builtin "object.__setattr__"))) ∧ (PySem.W.subIn K (.ref (xa_CInvalidFirst K)) (.type "BaseException") = some true) ∧ (PySem.W.typeIn K (.ref (xa_CInvalidFirst K)) = some (.type "type")) ∧ (PySem.W.keepIn K (.ref (xa_CInvalidFirst K)) = true) ∧ (PySem.W.findIn K (.ref (xa_CInvalidFirst K)) "value" = some none))
def gx16 (K : PySem.W.Frag) : Bool := decide ((xcR K (xa_CInvalidNumber K) = true) ∧ (PySem.W.findIn K (.ref (xa_CInvalidNumber K)) "__setattr__" = some (some (.builtin "object.__setattr__"))) ∧ (PySem.W.subIn K (.ref (xa_CInvalidNumber K)) (.type "BaseException") = some true) ∧ (PySem.W.typeIn K (.ref (xa_CInvalidNumber K)) = some (.type "type")) ∧ (PySem.W.keepIn K (.ref (xa_CInvalidNumber K)) = true) ∧ (PySem.W.findIn K (.ref (xa_CInvalidNumber K)) "value" = some none) ∧ (xcR K (xa_CInvalidRows K) = true) ∧ (PySem.W.findIn K (.ref (xa_CInvalidRows K)) "__setattr__" = some (some (.builtin "object.__setattr__"))) ∧ (PySem.W.subIn K (.ref (xa_CInvalidRows K)) (.type "BaseException") = some true) ∧ (PySem.W.typeIn K (.ref (xa_CInvalidRows K)) = some (.type "type")))
def gx17 (K : PySem.W.Frag) : Bool := decide ((PySem.W.keepIn K (.ref (xa_CInvalidRows K)) = true) ∧ (PySem.W.findIn K (.ref (xa_CInvalidRows K)) "position" = some none) ∧ (xcR K (xa_CInvalidValues K) = true) ∧ (PySem.W.findIn K (.ref (xa_CInvalidValues K)) "__setattr__" = some (some (.builtin "object.__setattr__"))) ∧ (PySem.W.subIn K (.ref (xa_CInvalidValues K)) (.type "BaseException") = some true) ∧ (PySem.W.typeIn K (.ref (xa_CInvalidValues K)) = some (.type "type")) ∧ (PySem.W.keepIn K (.ref (xa_CInvalidValues K)) = true) ∧ (PySem.W.findIn K (.ref (xa_CInvalidValues K)) "position" = some none) ∧ (PySem.W.excInitIn K (xa_CTooMany K) [.type "ArithmeticError", .type "Exception", .type "BaseException", .type "object"] "ArithmeticError.__new__" = true) ∧ (PySem.W.excOver K (xa_CTooMany K) [.type "ArithmeticError", .type "Exception", .type "BaseException", .type "object"] = true))
def gx18 (K : PySem.W.Frag) : Bool := decide (((PySem.W.clsIn K (xa_CTooMany K)).any (fun cd => cd.hasDict) = true) ∧ (PySem.W.findIn K (.ref (xa_CTooMany K)) "__setattr__" = some (some (.builtin "object.__setattr__"))) ∧ (PySem.W.subIn K (.ref (xa_CTooMany K)) (.type "BaseException") = some true) ∧ (PySem.W.typeIn K (.ref (xa_CTooMany K)) = some (.type "type")) ∧ (PySem.W.keepIn K (.ref (xa_CTooMany K)) = true) ∧ (PySem.W.findIn K (.ref (xa_CTooMany K)) "what" = some none) ∧ (PySem.W.findIn K (.ref (xa_CTooMany K)) "limit" = some none) ∧ (PySem.W.findIn K (.ref (xa_CInvalidFirst K)) "__getattribute__" = some (some (.builtin "BaseException.__getattribute__"))) ∧ (PySem.W.findIn K (.ref (xa_CInvalidFirst K)) "__getattr__" = some none) ∧ (PySem.W.hasDictIn K (xa_CInvalidFirst K) = true))
def gx19 (K : PySem.W.Frag) : Bool := decide ((PySem.W.findIn K (.ref (xa_CInvalidFirst K)) "__class__" = some (some (.builtin "object.__class__"))) ∧ (PySem.W.specialIn K (.builtin "object.__class__") "__get__" = some (some (.builtin "getset_descriptor.__get__"))) ∧ (PySem.W.takesIn K (.builtin "object.__class__") = some true) ∧ (PySem.W.mroIn K (xa_CInvalidFirst K) (.type "object") = some true) ∧ (PySem.W.findIn K (.ref (xa_CInvalidNumber K)) "__getattribute__" = some (some (.builtin "BaseException.__getattribute__"))) ∧ (PySem.W.findIn K (.ref (xa_CInvalidNumber K)) "__getattr__" = some none) ∧ (PySem.W.hasDictIn K (xa_CInvalidNumber K) = true) ∧ (PySem.W.findIn K (.ref (xa_CInvalidNumber K)) "__class__" = some (some (.builtin "object.__class__"))) ∧ (PySem.W.specialIn K (.builtin "object.__class__") "__get__" = some (some (.builtin "getset_descriptor.__get__"))) ∧ (PySem.W.takesIn K (.builtin "object.__class__") = some true))
def gx20 (K : PySem.W.Frag) : Bool := decide ((PySem.W.mroIn K (xa_CInvalidNumber K) (.type "object") = some true) ∧ (PySem.W.findIn K (.ref (xa_CInvalidRows K)) "__getattribute__" = some (some (.builtin "BaseException.__getattribute__"))) ∧ (PySem.W.findIn K (.ref (xa_CInvalidRows K)) "__getattr__" = some none) ∧ (PySem.W.hasDictIn K (xa_CInvalidRows K) = true) ∧ (PySem.W.findIn K (.ref (xa_CInvalidRows K)) "__class__" = some (some (.builtin "object.__class__"))) ∧ (PySem.W.specialIn K (.builtin "object.__class__") "__get__" = some (some (.builtin "getset_descriptor.__get__"))) ∧ (PySem.W.takesIn K (.builtin "object.__class__") = some true) ∧ (PySem.W.mroIn K (xa_CInvalidRows K) (.type "object") = some true) ∧ (PySem.W.findIn K (.ref (xa_CInvalidValues K)) "__getattribute__" = some (some (.builtin "BaseException.__getattribute__"))) ∧ (PySem.W.findIn K (.ref (xa_CInvalidValues K)) "__getattr__" = some none))
def gx21 (K : PySem.W.Frag) : Bool := decide ((PySem.W.hasDictIn K (xa_CInvalidValues K) = true) ∧ (PySem.W.findIn K (.ref (xa_CInvalidValues K)) "__class__" = some (some (.builtin "object.__class__"))) ∧ (PySem.W.specialIn K (.builtin "object.__class__") "__get__" = some (some (.builtin "getset_descriptor.__get__"))) ∧ (PySem.W.takesIn K (.builtin "object.__class__") = some true) ∧ (PySem.W.mroIn K (xa_CInvalidValues K) (.type "object") = some true) ∧ (PySem.W.findIn K (.ref (xa_CTooMany K)) "__getattribute__" = some (some (.builtin "BaseException.__getattribute__"))) ∧ (PySem.W.findIn K (.ref (xa_CTooMany K)) "__getattr__" = some none) ∧ (PySem.W.hasDictIn K (xa_CTooMany K) = true) ∧ (PySem.W.findIn K (.ref (xa_CTooMany K)) "__class__" = some (some (.builtin "object.__class__"))) ∧ (PySem.W.specialIn K (.builtin "object.__class__") "__get__" = some (some (.builtin "getset_descriptor.__get__"))))
def gx22 (K : PySem.W.Frag) : Bool := decide ((PySem.W.takesIn K (.builtin "object.__class__") = some true) ∧ (PySem.W.mroIn K (xa_CTooMany K) (.type "object") = some true) ∧ (PySem.W.exmOne K (.ref (xa_CInvalidFirst K)) (.ref (xa_CInvalidFirst K)) = some true) ∧ (PySem.W.exmOne K (.ref (xa_CInvalidNumber K)) (.ref (xa_CInvalidFirst K)) = some false) ∧ (PySem.W.exmOne K (.ref (xa_CInvalidNumber K)) (.ref (xa_CInvalidNumber K)) = some true) ∧ (PySem.W.exmOne K (.ref (xa_CInvalidNumber K)) (.ref (xa_CInvalidRows K)) = some false) ∧ (PySem.W.exmOne K (.ref (xa_CInvalidNumber K)) (.ref (xa_CInvalidValues K)) = some false) ∧ (PySem.W.exmOne K (.ref (xa_CInvalidRows K)) (.ref (xa_CInvalidFirst K)) = some false) ∧ (PySem.W.exmOne K (.ref (xa_CInvalidRows K)) (.ref (xa_CInvalidRows K)) = some true) ∧ (PySem.W.exmOne K (.ref (xa_CInvalidRows K)) (.ref (xa_CInvalidValues K)) = some false))
def gx23 (K : PySem.W.Frag) : Bool := decide ((PySem.W.exmOne K (.ref (xa_CInvalidValues K)) (.ref (xa_CInvalidFirst K)) = some false) ∧ (PySem.W.exmOne K (.ref (xa_CInvalidValues K)) (.ref (xa_CInvalidValues K)) = some true) ∧ (PySem.W.exmOne K (.ref (xa_CTooMany K)) (.ref (xa_CInvalidFirst K)) = some false) ∧ (PySem.W.exmOne K (.ref (xa_CTooMany K)) (.ref (xa_CInvalidNumber K)) = some false) ∧ (PySem.W.exmOne K (.ref (xa_CTooMany K)) (.ref (xa_CInvalidRows K)) = some false) ∧ (PySem.W.exmOne K (.ref (xa_CTooMany K)) (.ref (xa_CInvalidValues K)) = some false) ∧ (PySem.W.exmOne K (.ref (xa_CTooMany K)) (.ref (xa_CTooMany K)) = some true) ∧ (PySem.W.kitOne K (.ref (xa_CInvalidFirst K)) (.ref (xa_CLeagueError K)) = some true) ∧ (PySem.W.kitOne K (.ref (xa_CInvalidFirst K)) (.type "ValueError") = some true) ∧ (PySem.W.kitOne K (.ref (xa_CInvalidNumber K)) (.ref (xa_CLeagueError K)) = some true))
def gx24 (K : PySem.W.Frag) : Bool := decide ((PySem.W.kitOne K (.ref (xa_CInvalidNumber K)) (.type "ValueError") = some true) ∧ (PySem.W.kitOne K (.ref (xa_CInvalidRows K)) (.ref (xa_CLeagueError K)) = some true) ∧ (PySem.W.kitOne K (.ref (xa_CInvalidRows K)) (.type "ValueError") = some true) ∧ (PySem.W.kitOne K (.ref (xa_CInvalidValues K)) (.ref (xa_CLeagueError K)) = some true) ∧ (PySem.W.kitOne K (.ref (xa_CInvalidValues K)) (.type "ValueError") = some true) ∧ (PySem.W.kitOne K (.ref (xa_CTooMany K)) (.type "ArithmeticError") = some true) ∧ (PySem.W.kitOne K (.ref (xa_CTooMany K)) (.ref (xa_CLimitError K)) = some true) ∧ (tbR K (xa_Kis_form_right K) = some (.ref (xa_TTis_form_right K))) ∧ ((K.lookup (xa_TTis_form_right K)).isNone = true) ∧ (tbR K (xa_Kis_level_right K) = some (.ref (xa_TTis_level_right K))))
def gx25 (K : PySem.W.Frag) : Bool := decide (((K.lookup (xa_TTis_level_right K)).isNone = true) ∧ (([(xa_TTis_form_right K), (xa_TTis_level_right K)] : List Addr).Nodup) ∧ (PySem.W.nsIn K mainGlobals "Form" = some (some (.ref (xa_CForm K)))) ∧ (PySem.W.plainGet K (xa_CForm K) Str.empty = true) ∧ (PySem.W.hasDictIn K (xa_CForm K) = true) ∧ (PySem.W.plainOver K (xa_CForm K) = true) ∧ (PySem.W.findIn K (.ref (xa_CForm K)) "__setattr__" = some (some (.builtin "object.__setattr__"))) ∧ (PySem.W.makesIn K (xa_CForm K) = true) ∧ (PySem.W.keepIn K (.ref (xa_CForm K)) = true) ∧ (PySem.W.findIn K (.ref (xa_CForm K)) "_first" = some none))
def gx26 (K : PySem.W.Frag) : Bool := decide ((PySem.W.findIn K (.ref (xa_CForm K)) "_early" = some none) ∧ (PySem.W.findIn K (.ref (xa_CForm K)) "_rows" = some none) ∧ (PySem.W.nsIn K mainGlobals "Reckoned" = some (some (.ref (xa_CReckoned K)))) ∧ (PySem.W.plainGet K (xa_CReckoned K) Str.empty = true) ∧ (PySem.W.hasDictIn K (xa_CReckoned K) = true) ∧ (PySem.W.plainOver K (xa_CReckoned K) = true) ∧ (PySem.W.findIn K (.ref (xa_CReckoned K)) "__setattr__" = some (some (.builtin "object.__setattr__"))) ∧ (PySem.W.makesIn K (xa_CReckoned K) = true) ∧ (PySem.W.keepIn K (.ref (xa_CReckoned K)) = true) ∧ (PySem.W.findIn K (.ref (xa_CReckoned K)) "parts" = some none))
def gx27 (K : PySem.W.Frag) : Bool := decide ((PySem.W.isClsIn K (xa_CReckoned K) = true) ∧ (PySem.W.typeIn K (.ref (xa_CReckoned K)) = some (.type "type")) ∧ (PySem.W.nsIn K mainGlobals "ArithmeticError" = some none) ∧ (PySem.W.nsIn K mainGlobals "ValueError" = some none) ∧ (PySem.W.nsIn K mainGlobals "abs" = some none) ∧ (PySem.W.nsIn K mainGlobals "all" = some none) ∧ (PySem.W.nsIn K mainGlobals "any" = some none) ∧ (PySem.W.nsIn K mainGlobals "bool" = some none) ∧ (PySem.W.nsIn K mainGlobals "dict" = some none) ∧ (PySem.W.nsIn K mainGlobals "divmod" = some none))
def gx28 (K : PySem.W.Frag) : Bool := decide ((PySem.W.nsIn K mainGlobals "enumerate" = some none) ∧ (PySem.W.nsIn K mainGlobals "int" = some none) ∧ (PySem.W.nsIn K mainGlobals "isinstance" = some none) ∧ (PySem.W.nsIn K mainGlobals "len" = some none) ∧ (PySem.W.nsIn K mainGlobals "list" = some none) ∧ (PySem.W.nsIn K mainGlobals "max" = some none) ∧ (PySem.W.nsIn K mainGlobals "min" = some none) ∧ (PySem.W.nsIn K mainGlobals "range" = some none) ∧ (PySem.W.nsIn K mainGlobals "repr" = some none) ∧ (PySem.W.nsIn K mainGlobals "set" = some none))
def gx29 (K : PySem.W.Frag) : Bool := decide ((PySem.W.nsIn K mainGlobals "sorted" = some none) ∧ (PySem.W.nsIn K mainGlobals "sum" = some none) ∧ (PySem.W.nsIn K mainGlobals "tuple" = some none) ∧ (PySem.W.nsIn K mainGlobals "zip" = some none) ∧ (PySem.W.nsIn K mainGlobals "MOST_ROWS" = some (some (.int 24 (tkI (PySem.W.nsIn K mainGlobals "MOST_ROWS"))))) ∧ (PySem.W.nsIn K mainGlobals "MOST_VALUES" = some (some (.int 200 (tkI (PySem.W.nsIn K mainGlobals "MOST_VALUES"))))))
def gxa (K : PySem.W.Frag) : Bool := gx0 K && (gx1 K && (gx2 K && (gx3 K && (gx4 K && (gx5 K && (gx6 K && (gx7 K && (gx8 K && (gx9 K && (gx10 K && (gx11 K && (gx12 K && (gx13 K && (gx14 K))))))))))))))
def gxb (K : PySem.W.Frag) : Bool := gx15 K && (gx16 K && (gx17 K && (gx18 K && (gx19 K && (gx20 K && (gx21 K && (gx22 K && (gx23 K && (gx24 K && (gx25 K && (gx26 K && (gx27 K && (gx28 K && (gx29 K))))))))))))))
def fnL0 : List (PySem.W.Frag → Addr) := [xa_Adraw, xa_Apick, xa_Ano_integer, xa_Ano_count, xa_Afirst, xa_Aspoilt, xa_Aearly, xa_Ano_row, xa_Arows, xa_Ais_integer, xa_Ais_count, xa_Acheck_first, xa_Ais_list, xa_Acheck_values, xa_Ais_row, xa_Acheck_rows, xa_Acheck_parts, xa_AForm_init, xa_Ais_value, xa_Aheard]
def fnL1 : List (PySem.W.Frag → Addr) := [xa_Ais_due, xa_Ais_form_right, xa_Achecked, xa_AForm_level, xa_Ais_level_right, xa_Aright, xa_Apot, xa_Alaw, xa_AReckoned_init, xa_AInvalidFirst_init, xa_AInvalidNumber_init, xa_AInvalidRows_init, xa_AInvalidValues_init, xa_ATooMany_init]
def fnL : List (PySem.W.Frag → Addr) := fnL0 ++ (fnL1)
def fnV0 : List He.FnW := [sv_draw, sv_pick, sv_no_integer, sv_no_count, sv_first, sv_spoilt, sv_early, sv_no_row, sv_rows, sv_is_integer, sv_is_count, sv_check_first, sv_is_list, sv_check_values, sv_is_row, sv_check_rows, sv_check_parts, sv_Form_init, sv_is_value, sv_heard]
def fnV1 : List He.FnW := [sv_is_due, sv_is_form_right, sv_checked, sv_Form_level, sv_is_level_right, sv_right, sv_pot, sv_law, sv_Reckoned_init, sv_InvalidFirst_init, sv_InvalidNumber_init, sv_InvalidRows_init, sv_InvalidValues_init, sv_TooMany_init]
def fnV : List He.FnW := fnV0 ++ (fnV1)
def tsL : List He.Tab := []
def looseL0 : List PySem.Str := ["__name__", "LeagueError", "InvalidFirst", "InvalidValues", "InvalidRows", "InvalidNumber", "InvalidPlace", "LimitError", "TooMany", "is_integer", "is_count", "is_list", "row_value", "place_value", "spread_row", "spread", "folded", "fewest_rows", "fewest_early", "MOST_VALUES"]
def looseL1 : List PySem.Str := ["MOST_ROWS", "Reckoned", "Form", "reckoned_form", "_check_first", "_check_parts", "_check_values", "_check_rows", "_is_row", "_checked", "_value", "_joined", "_lifted", "_scaled", "_law_pot", "_law_draw", "_law_pick", "_law_is_value", "_law_heard", "_law_is_due"]
def looseL2 : List PySem.Str := ["_law_no_integer", "_law_no_count", "_law_no_row", "_law_first", "_law_spoilt", "_law_early", "_law_rows", "_law_right"]
def looseL : List PySem.Str := looseL0 ++ (looseL1 ++ (looseL2))
abbrev RR : PySem.W.OpenRow := PySem.W.OpenLaw.row PySem.Challenge.rw_ringrows_k11_forms_refused
abbrev qV : Program := PySem.W.view RR.prog [0, 52, 53, 55]
abbrev hk : PySem.W.Hook := hkR 4000 (fun K => gxa K && gxb K) fnL fnV tsL
abbrev ob : PySem.W.SharedT → hk.α := obF 4000 gxa gxb fnL tsL
set_option maxHeartbeats 0 in
theorem runA_false (w : World) : (endI RR.prog (w.withFollow "special-get-raises" false)).map (fun x => (HandSHeadRun.looksF RR.prog x.1.heap x.2.abs, HandSHeadRun.seenQ qV looseL (importedModules RR.prog.main.body) (fun s => PySem.W.xlAt qV [] s && PySem.W.recOk RR.toRowW.records s) x.2.abs)) = some (true, PySem.W.openGood qV looseL) := by
  kernel_rfl
set_option maxHeartbeats 0 in
theorem runBa_false (w : World) : (endI RR.prog (w.withFollow "special-get-raises" false)).map (fun x => obA 4000 gxa x.2) = some true := by
  kernel_rfl
set_option maxHeartbeats 0 in
theorem runBb_false (w : World) : (endI RR.prog (w.withFollow "special-get-raises" false)).map (fun x => obA 4000 gxb x.2) = some true := by
  kernel_rfl
set_option maxHeartbeats 0 in
theorem runC_false (w : World) : (endI RR.prog (w.withFollow "special-get-raises" false)).map (fun x => obB 4000 fnL tsL x.2) = some (fnV, tsL.map fun t => some (He.keysIn (w.withFollow "special-get-raises" false).params t.2)) := by
  kernel_rfl
theorem run_false (w : World) : HandSHeadRun.RunEqI RR qV hk ob 60000 looseL (w.withFollow "special-get-raises" false) := runEqI_of (runA_false w) (runBa_false w) (runBb_false w) (runC_false w)
set_option maxHeartbeats 0 in
theorem runA_true (w : World) : (endI RR.prog (w.withFollow "special-get-raises" true)).map (fun x => (HandSHeadRun.looksF RR.prog x.1.heap x.2.abs, HandSHeadRun.seenQ qV looseL (importedModules RR.prog.main.body) (fun s => PySem.W.xlAt qV [] s && PySem.W.recOk RR.toRowW.records s) x.2.abs)) = some (true, PySem.W.openGood qV looseL) := by
  kernel_rfl
set_option maxHeartbeats 0 in
theorem runBa_true (w : World) : (endI RR.prog (w.withFollow "special-get-raises" true)).map (fun x => obA 4000 gxa x.2) = some true := by
  kernel_rfl
set_option maxHeartbeats 0 in
theorem runBb_true (w : World) : (endI RR.prog (w.withFollow "special-get-raises" true)).map (fun x => obA 4000 gxb x.2) = some true := by
  kernel_rfl
set_option maxHeartbeats 0 in
theorem runC_true (w : World) : (endI RR.prog (w.withFollow "special-get-raises" true)).map (fun x => obB 4000 fnL tsL x.2) = some (fnV, tsL.map fun t => some (He.keysIn (w.withFollow "special-get-raises" true).params t.2)) := by
  kernel_rfl
theorem run_true (w : World) : HandSHeadRun.RunEqI RR qV hk ob 60000 looseL (w.withFollow "special-get-raises" true) := runEqI_of (runA_true w) (runBa_true w) (runBb_true w) (runC_true w)
theorem run (w : World) : HandSHeadRun.RunEqI RR qV hk ob 60000 looseL w := PySem.W.byRow2 "special-get-raises" (P := fun w => HandSHeadRun.RunEqI RR qV hk ob 60000 looseL w) run_false run_true w
end Lw
namespace Rx
open PySem PySem.Spec PyProof.Rows L2

inductive D where
  | v (x : V)
  | lst (xs : List D)
  | tup (xs : List D)
  | ins (C : Addr) (ns : List Str) (xs : List D)
  | dct (ks : List Key) (xs : List D)
  | dcT (ks : List (List Key)) (xs : List D)

mutual
def rep (ms : List Addr) (H : Hp) : D → V → Prop
  | .v x, u => u = x
  | .lst ds, u => ∃ p vs, u = .ref p ∧ p ∉ ms ∧ H p = some (.lst vs) ∧ repL ms H ds vs
  | .tup ds, u => ∃ p vs, u = .ref p ∧ p ∉ ms ∧ H p = some (.tup vs) ∧ repL ms H ds vs
  | .ins C ns ds, u => ∃ p dx vs, u = .ref p ∧ p ∉ ms ∧ H p = some (.ins C dx (ns.zip vs)) ∧ ns.length = vs.length ∧ repL ms H ds vs
  | .dct ks ds, u => ∃ p vs, u = .ref p ∧ p ∉ ms ∧ H p = some (.dK (ks.zip vs)) ∧ ks.length = vs.length ∧ repL ms H ds vs
  | .dcT ks ds, u => ∃ p vs, u = .ref p ∧ p ∉ ms ∧ H p = some (.dT (ks.zip vs)) ∧ ks.length = vs.length ∧ repL ms H ds vs
def repL (ms : List Addr) (H : Hp) : List D → List V → Prop
  | [], vs => vs = []
  | d :: ds, vs => ∃ u us, vs = u :: us ∧ rep ms H d u ∧ repL ms H ds us
end

mutual
theorem rep_map {ms ms' : List Addr} {H H' : Hp} (f : ∀ p o, p ∉ ms → H p = some o → p ∉ ms' ∧ H' p = some o) : ∀ (d : D) (u : V), rep ms H d u → rep ms' H' d u
  | .v x, u, h => by
    simp only [rep] at h ⊢
    exact h
  | .lst ds, u, h => by
    simp only [rep] at h ⊢
    obtain ⟨p, vs, e, n, hp, hl⟩ := h
    exact ⟨p, vs, e, (f p _ n hp).1, (f p _ n hp).2, repL_map f ds vs hl⟩
  | .tup ds, u, h => by
    simp only [rep] at h ⊢
    obtain ⟨p, vs, e, n, hp, hl⟩ := h
    exact ⟨p, vs, e, (f p _ n hp).1, (f p _ n hp).2, repL_map f ds vs hl⟩
  | .ins C ns ds, u, h => by
    simp only [rep] at h ⊢
    obtain ⟨p, dx, vs, e, n, hp, hn, hl⟩ := h
    exact ⟨p, dx, vs, e, (f p _ n hp).1, (f p _ n hp).2, hn, repL_map f ds vs hl⟩
  | .dct ks ds, u, h => by
    simp only [rep] at h ⊢
    obtain ⟨p, vs, e, n, hp, hn, hl⟩ := h
    exact ⟨p, vs, e, (f p _ n hp).1, (f p _ n hp).2, hn, repL_map f ds vs hl⟩
  | .dcT ks ds, u, h => by
    simp only [rep] at h ⊢
    obtain ⟨p, vs, e, n, hp, hn, hl⟩ := h
    exact ⟨p, vs, e, (f p _ n hp).1, (f p _ n hp).2, hn, repL_map f ds vs hl⟩
theorem repL_map {ms ms' : List Addr} {H H' : Hp} (f : ∀ p o, p ∉ ms → H p = some o → p ∉ ms' ∧ H' p = some o) : ∀ (ds : List D) (us : List V), repL ms H ds us → repL ms' H' ds us
  | [], us, h => by
    simp only [repL] at h ⊢
    exact h
  | d :: ds, us, h => by
    simp only [repL] at h ⊢
    obtain ⟨u, vs, e, h1, h2⟩ := h
    exact ⟨u, vs, e, rep_map f d u h1, repL_map f ds vs h2⟩
end

theorem repL_len {ms : List Addr} {H : Hp} : ∀ {ds : List D} {vs : List V}, repL ms H ds vs → ds.length = vs.length
  | [], vs, h => by
    simp only [repL] at h
    rw [h]
    rfl
  | d :: ds, vs, h => by
    simp only [repL] at h
    obtain ⟨u, us, e, _, h2⟩ := h
    rw [e]
    show ds.length + 1 = us.length + 1
    rw [repL_len h2]
theorem repL_get {ms : List Addr} {H : Hp} : ∀ {ds : List D} {vs : List V} {j : Nat} {d : D}, repL ms H ds vs → ds[j]? = some d → ∃ v, vs[j]? = some v ∧ rep ms H d v
  | [], vs, j, d, h, e => by simp at e
  | d0 :: ds, vs, 0, d, h, e => by
    simp only [repL] at h
    obtain ⟨u, us, rfl, h1, _⟩ := h
    have e' : d0 = d := Option.some.inj e
    subst e'
    exact ⟨u, rfl, h1⟩
  | d0 :: ds, vs, j + 1, d, h, e => by
    simp only [repL] at h
    obtain ⟨u, us, rfl, _, h2⟩ := h
    exact repL_get (j := j) h2 (by simpa using e)
theorem repL_app {ms : List Addr} {H : Hp} : ∀ {ds es : List D} {vs us : List V}, repL ms H ds vs → repL ms H es us → repL ms H (ds ++ es) (vs ++ us)
  | [], es, vs, us, h, h' => by
    simp only [repL] at h
    rw [h]
    exact h'
  | d :: ds, es, vs, us, h, h' => by
    simp only [repL] at h
    obtain ⟨u, ws, rfl, h1, h2⟩ := h
    show repL ms H (d :: (ds ++ es)) (u :: (ws ++ us))
    simp only [repL]
    exact ⟨u, ws ++ us, rfl, h1, repL_app h2 h'⟩
theorem repL_one {ms : List Addr} {H : Hp} {d : D} {u : V} (h : rep ms H d u) : repL ms H [d] [u] := by
  simp only [repL]
  exact ⟨u, [], rfl, h, rfl⟩
theorem repL_nil {ms : List Addr} {H : Hp} : repL ms H [] [] := by simp only [repL]
theorem repL_cons {ms : List Addr} {H : Hp} {d : D} {u : V} {ds : List D} {us : List V} (h : rep ms H d u) (t : repL ms H ds us) : repL ms H (d :: ds) (u :: us) := by
  simp only [repL]
  exact ⟨u, us, rfl, h, t⟩
theorem rep_v {ms : List Addr} {H : Hp} {x : V} : rep ms H (.v x) x := by simp only [rep]
theorem of_v {ms : List Addr} {H : Hp} {x u : V} (h : rep ms H (.v x) u) : u = x := by
  simp only [rep] at h
  exact h
theorem repL_flat {ms : List Addr} {H : Hp} : ∀ {xs vs : List V}, repL ms H (xs.map D.v) vs ↔ vs = xs
  | [], vs => by simp only [List.map_nil, repL]
  | x :: xs, vs => by
    simp only [List.map_cons, repL]
    constructor
    · rintro ⟨u, us, rfl, h1, h2⟩
      rw [of_v h1, repL_flat.mp h2]
    · rintro rfl
      exact ⟨x, xs, rfl, rep_v, repL_flat.mpr rfl⟩

def PotH (H : Hp) (a : Addr) : Prop := ∃ i j : Int, H a = some (.lst [.int i, .int j]) ∧ j.natAbs < 4294967296
abbrev PEn := Addr × Option Str
abbrev ad (ps : List PEn) : List Addr := ps.map Prod.fst
def EntH (H : Hp) (p : PEn) : Prop := match p.2 with
  | none => PotH H p.1
  | some q => LamX.TabS H p.1 q
theorem ent_ne {H : Hp} {p : PEn} {o : HO} (h : EntH H p) (e : H p.1 = some o) : (∃ xs, o = .lst xs) ∨ ∃ xs, o = .tbl xs := by
  obtain ⟨a, k⟩ := p
  cases k with
  | none =>
    obtain ⟨i, j, h1, _⟩ := h
    rw [h1] at e
    cases e
    exact .inl ⟨_, rfl⟩
  | some q =>
    obtain ⟨xs, h1, _⟩ := h
    rw [h1] at e
    cases e
    exact .inr ⟨_, rfl⟩
theorem ent_some {H : Hp} {p : PEn} (h : EntH H p) : H p.1 ≠ none := fun z => by
  obtain ⟨a, k⟩ := p
  cases k with
  | none =>
    obtain ⟨i, j, h1, _⟩ := h
    rw [z] at h1
    cases h1
  | some q =>
    obtain ⟨xs, h1, _⟩ := h
    rw [z] at h1
    cases h1
theorem ent_stay {H H' : Hp} {p : PEn} (h : EntH H p) (f : ∀ o, H p.1 = some o → H' p.1 = some o) (g : ∀ c q, H c = some (LamX.CodeO c q) → H' c = some (LamX.CodeO c q)) : EntH H' p := by
  obtain ⟨a, k⟩ := p
  cases k with
  | none =>
    obtain ⟨i, j, h1, h2⟩ := h
    exact ⟨i, j, f _ h1, h2⟩
  | some q =>
    obtain ⟨xs, h1, h2, h3⟩ := h
    exact ⟨xs, f _ h1, h2, fun pos cv hc => by
      obtain ⟨c, e1, e2⟩ := h3 pos cv hc
      exact ⟨c, e1, g c q e2⟩⟩
structure Ret (ps : List PEn) (H H' : Hp) : Prop where
  kp : ∀ a o, a ∉ ad ps → H a = some o → H' a = some o
  pot : ∀ a ∈ ps, EntH H' a
  grow : ∀ a, H a ≠ none → H' a ≠ none
abbrev Ext (H H' : Hp) : Prop := Ret [] H H'
theorem Ext.keep {H H' : Hp} (e : Ext H H') {a : Addr} {o : HO} (h : H a = some o) : H' a = some o := e.kp a o (by simp) h
theorem Ext.new {H : Hp} {p : Addr} {o : HO} (np : H p = none) : Ext H (upd H p o) := by
  refine ⟨fun a u _ h => ?_, fun _ h => absurd h List.not_mem_nil, fun a h => ?_⟩
  · rw [upd_ne (ne_of_none h np)]
    exact h
  · by_cases e : a = p
    · rw [e, upd_same]
      exact fun z => nomatch z
    · rw [upd_ne e]
      exact h
structure Wd (ms : List Addr) (ps : List PEn) (cs : List (Addr × List V)) (H0 H : Hp) : Prop where
  kp : ∀ a o, a ∉ ad ps → H0 a = some o → H a = some o
  grow : ∀ a, H0 a ≠ none → H a ≠ none
  tr : ∀ m ∈ ms, H m ≠ none
  pot : ∀ a ∈ ps, EntH H a
  pm : ∀ a ∈ ad ps, a ∈ ms
  cel : ∀ c ∈ cs, H c.1 = some (.lst c.2) ∧ c.1 ∈ ms ∧ c.1 ∉ ad ps ∧ H0 c.1 = none

section
variable {ms : List Addr} {ps ps' : List PEn} {cs : List (Addr × List V)} {H0 H H' : Hp} {d : D} {u : V}
theorem ad_mem {ps ps' : List PEn} (hs : ∀ a ∈ ps', a ∈ ps) {a : Addr} (h : a ∈ ad ps') : a ∈ ad ps := by
  obtain ⟨p, hp, rfl⟩ := List.mem_map.mp h
  exact List.mem_map.mpr ⟨p, hs p hp, rfl⟩
theorem mem_ad {ps : List PEn} {p : PEn} (h : p ∈ ps) : p.1 ∈ ad ps := List.mem_map.mpr ⟨p, h, rfl⟩
theorem Wd.ret (hs : ∀ a ∈ ps', a ∈ ps) (hu : ∀ p ∈ ps, p.1 ∈ ad ps' → p ∈ ps') (w : Wd ms ps cs H0 H) (e : Ret ps' H H') : Wd ms ps cs H0 H' where
  kp := fun a o n h => e.kp a o (fun z => n (ad_mem hs z)) (w.kp a o n h)
  grow := fun a h => e.grow a (w.grow a h)
  tr := fun m h => e.grow m (w.tr m h)
  pot := fun p h => by
    by_cases z : p ∈ ps'
    · exact e.pot p z
    · refine ent_stay (w.pot p h) (fun o ho => e.kp _ o (fun y => z (hu p h y)) ho) fun c q hc => e.kp _ _ (fun y => ?_) hc
      obtain ⟨p2, h2, e2⟩ := List.mem_map.mp y
      have := w.pot p2 (hs p2 h2)
      rw [← e2] at hc
      rcases ent_ne this hc with ⟨xs, hx⟩ | ⟨xs, hx⟩ <;> cases hx
  pm := w.pm
  cel := fun c h => by
    obtain ⟨h1, h2, h3, h4⟩ := w.cel c h
    exact ⟨e.kp _ _ (fun z => h3 (ad_mem hs z)) h1, h2, h3, h4⟩
theorem Wd.ret0 (w : Wd ms ps cs H0 H) (e : Ret [] H H') : Wd ms ps cs H0 H' := w.ret (fun _ h => absurd h List.not_mem_nil) (fun _ _ h => absurd h List.not_mem_nil) e
theorem Wd.retP (w : Wd ms ps cs H0 H) (e : Ret ps H H') : Wd ms ps cs H0 H' := w.ret (fun _ h => h) (fun _ h _ => h) e
theorem Wd.retS (hs : ∀ a ∈ ps', a ∈ ps) (hk : ∀ a ∈ ps', a.2 = none) (w : Wd ms ps cs H0 H) (e : Ret ps' H H') : Wd ms ps cs H0 H' := w.ret hs (fun p h z => by
  obtain ⟨p2, h2, e2⟩ := List.mem_map.mp z
  have a1 := w.pot p h
  have a2 := w.pot p2 (hs p2 h2)
  have k2 := hk p2 h2
  obtain ⟨a, k⟩ := p
  obtain ⟨b, k'⟩ := p2
  cases k2
  cases e2
  cases k with
  | none => exact h2
  | some q =>
    obtain ⟨i, j, h1, _⟩ := a2
    obtain ⟨xs, h3, _⟩ := a1
    rw [h1] at h3
    cases h3) e
theorem Wd.enterS (hs : ∀ a ∈ ps', a ∈ ps) (w : Wd ms ps cs H0 H) : Wd ms ps' [] H H := ⟨fun _ _ _ h => h, fun _ h => h, w.tr, fun a h => w.pot a (hs a h), fun a h => w.pm a (ad_mem hs h), fun _ h => absurd h List.not_mem_nil⟩
theorem Wd.enter0 (w : Wd ms ps cs H0 H) : Wd ms [] [] H H := ⟨fun _ _ _ h => h, fun _ h => h, w.tr, fun _ h => absurd h List.not_mem_nil, fun _ h => absurd h List.not_mem_nil, fun _ h => absurd h List.not_mem_nil⟩
theorem Wd.enterP (w : Wd ms ps cs H0 H) : Wd ms ps [] H H := ⟨fun _ _ _ h => h, fun _ h => h, w.tr, w.pot, w.pm, fun _ h => absurd h List.not_mem_nil⟩
theorem Wd.out (w : Wd ms ps cs H0 H) : Ret ps H0 H := ⟨w.kp, w.pot, w.grow⟩
theorem rep_ret (w : Wd ms ps cs H0 H) (e : Ret ps H H') (h : rep ms H d u) : rep ms H' d u := rep_map (fun p o n hp => ⟨n, e.kp p o (fun z => n (w.pm p z)) hp⟩) d u h
theorem rep_ext (e : Ret [] H H') (h : rep ms H d u) : rep ms H' d u := rep_map (fun p o n hp => ⟨n, e.kp p o (by simp) hp⟩) d u h
theorem repL_ext {ds : List D} {us : List V} (e : Ret [] H H') (h : repL ms H ds us) : repL ms H' ds us := repL_map (fun p o n hp => ⟨n, e.kp p o (by simp) hp⟩) ds us h
theorem Wd.cell {l : Addr} {xs : List V} (w : Wd ms ps cs H0 H) (nl : H l = none) : Wd (l :: ms) ps ((l, xs) :: cs) H0 (upd H l (.lst xs)) := by
  have e : Ext H (upd H l (.lst xs)) := Ext.new nl
  have w1 := w.ret0 e
  refine ⟨w1.kp, w1.grow, fun m h => ?_, w1.pot, fun a h => List.mem_cons_of_mem _ (w.pm a h), fun c h => ?_⟩
  · rcases List.mem_cons.mp h with rfl | h
    · rw [upd_same]
      exact fun z => nomatch z
    · exact w1.tr m h
  · rcases List.mem_cons.mp h with rfl | h
    · refine ⟨upd_same, List.mem_cons_self, fun z => ?_, ?_⟩
      · obtain ⟨p, hp, e2⟩ := List.mem_map.mp z
        exact ent_some (w.pot p hp) (by rw [e2]; exact nl)
      · show H0 l = none
        cases q : H0 l with
        | none => rfl
        | some o => exact absurd nl (w.grow l (by rw [q]; exact fun z => nomatch z))
    · obtain ⟨h1, h2, h3, h4⟩ := w1.cel c h
      exact ⟨h1, List.mem_cons_of_mem _ h2, h3, h4⟩
theorem rep_cell {l : Addr} {o : HO} (nl : H l = none) (h : rep ms H d u) : rep (l :: ms) (upd H l o) d u := by
  refine rep_map (fun p o n hp => ?_) d u h
  have ne : p ≠ l := ne_of_none hp nl
  refine ⟨fun z => ?_, by rw [upd_ne ne]; exact hp⟩
  rcases List.mem_cons.mp z with z | z
  · exact ne z
  · exact n z
theorem rep_put {l : Addr} {o : HO} (lm : l ∈ ms) (h : rep ms H d u) : rep ms (upd H l o) d u :=
  rep_map (fun p o n hp => ⟨n, by rw [upd_ne (fun z => n (by rw [z]; exact lm))]; exact hp⟩) d u h
theorem repL_put {ds : List D} {us : List V} {l : Addr} {o : HO} (lm : l ∈ ms) (h : repL ms H ds us) : repL ms (upd H l o) ds us :=
  repL_map (fun p o n hp => ⟨n, by rw [upd_ne (fun z => n (by rw [z]; exact lm))]; exact hp⟩) ds us h
theorem Wd.froze {l : Addr} {xs : List V} (w : Wd (l :: ms) ps ((l, xs) :: cs) H0 H) (hp : ∀ a ∈ ad ps, a ∈ ms) (hc : ∀ c ∈ cs, c.1 ∈ ms) : Wd ms ps cs H0 H :=
  ⟨w.kp, w.grow, fun m h => w.tr m (List.mem_cons_of_mem _ h), w.pot, hp, fun c h => by
    obtain ⟨h1, _, h3, h4⟩ := w.cel c (List.mem_cons_of_mem _ h)
    exact ⟨h1, hc c h, h3, h4⟩⟩
theorem repL_weak {ds : List D} {us : List V} {l : Addr} (h : repL (l :: ms) H ds us) : repL ms H ds us := repL_map (fun p o n hp => ⟨fun z => n (List.mem_cons_of_mem _ z), hp⟩) ds us h
end

def upE (t : TE) : TE := fun σ H Q => ∃ Q' : VK, t σ H Q' ∧ ∀ v H', Q' v H' → Q v H'
def upS (t : TS) : TS := fun D σ H => ∃ N : L2.St → Hp → Prop, t { D with nx := N } σ H ∧ ∀ σ' H', N σ' H' → D.nx σ' H'
section
variable {X : Cx}
theorem pe_up {e : Expr} {t : TE} (h : PE X e t) : PE X e (upE t) := ⟨fun pins s σ H Q I ⟨Q', hq, m⟩ => thn (h.run pins s σ H Q' I hq) fun u s' ⟨v, H', I', r, q⟩ => ⟨v, H', I', r, m v H' q⟩⟩
end

def mapC {α β : Type} (body : α → (β → Prop) → Prop) : List α → List β → (List β → Prop) → Prop
  | [], acc, k => k acc
  | x :: xs, acc, k => body x fun y => mapC body xs (acc ++ [y]) k
def filC {α β : Type} (body : α → (Option β → Prop) → Prop) : List α → List β → (List β → Prop) → Prop
  | [], acc, k => k acc
  | x :: xs, acc, k => body x fun o => match o with
    | some y => filC body xs (acc ++ [y]) k
    | none => filC body xs acc k
def forC {α S : Type} (body : α → S → (S → Prop) → Prop) : List α → S → (S → Prop) → Prop
  | [], s, k => k s
  | x :: xs, s, k => body x s fun s' => forC body xs s' k
def rangeI (lo hi : Int) : List Int := (List.range (hi - lo).toNat).map fun i => lo + ((i : Nat) : Int)
theorem rangeI_len {lo hi : Int} : (rangeI lo hi).length = (hi - lo).toNat := by simp [rangeI]
theorem rangeI_get {lo hi : Int} {i : Nat} (h : i < (hi - lo).toNat) : (rangeI lo hi)[i]? = some (lo + (i : Int)) := by
  simp [rangeI, List.getElem?_map, List.getElem?_range h]
theorem drop_cons' {α : Type} {xs : List α} {i : Nat} {x : α} (h : xs[i]? = some x) : xs.drop i = x :: xs.drop (i + 1) := by
  obtain ⟨h1, h2⟩ := List.getElem?_eq_some_iff.mp h
  rw [List.drop_eq_getElem_cons h1, h2]

def Keep (ms : List Addr) (H H' : Hp) : Prop := ∀ a o, a ∉ ms → H a = some o → H' a = some o
section
variable {ms : List Addr} {ps : List PEn} {cs : List (Addr × List V)} {H0 H H1 H' : Hp} {d : D} {u : V}
theorem Keep.refl : Keep ms H H := fun _ _ _ h => h
theorem keep_ret (w : Wd ms ps cs H0 H) (e : Ret ps H H') (k : Keep ms H1 H) : Keep ms H1 H' := fun a o n h => e.kp a o (fun z => n (w.pm a z)) (k a o n h)
theorem keep_ext (e : Ret [] H H') (k : Keep ms H1 H) : Keep ms H1 H' := fun a o n h => e.kp a o (by simp) (k a o n h)
theorem keep_cell {l : Addr} {o : HO} (nl : H l = none) (k : Keep ms H1 H) : Keep (l :: ms) H1 (upd H l o) := fun a u n h => by
  rw [upd_ne (fun z => n (by rw [z]; exact List.mem_cons_self))]
  exact k a u (fun z => n (List.mem_cons_of_mem _ z)) h
theorem keep_put {l : Addr} {o : HO} (lm : l ∈ ms) (k : Keep ms H1 H) : Keep ms H1 (upd H l o) := fun a u n h => by
  rw [upd_ne (fun z => n (by rw [z]; exact lm))]
  exact k a u n h
theorem rep_keep (k : Keep ms H H') (h : rep ms H d u) : rep ms H' d u := rep_map (fun p o n hp => ⟨n, k p o n hp⟩) d u h
theorem repL_keep {ds : List D} {us : List V} (k : Keep ms H H') (h : repL ms H ds us) : repL ms H' ds us := repL_map (fun p o n hp => ⟨n, k p o n hp⟩) ds us h
end

theorem ite3 {c : Prop} [Decidable c] {A B P R : Prop} (h : if c then A else B) (h1 : A → P) (h2 : B → R) : if c then P else R := by
  by_cases q : c
  · rw [if_pos q] at h ⊢
    exact h1 h
  · rw [if_neg q] at h ⊢
    exact h2 h

section
variable {K : PySem.W.Frag} {ms : List Addr} {ps : List PEn} {cs : List (Addr × List V)} {H0 H : Hp} {d : D} {u x : V}
theorem rep_ixL {α : Type} {e : α → D} {xs : List α} {i : Int} {Q : VK} (h : rep ms H (.lst (xs.map e)) x) (h0 : 0 ≤ i) (hi : i.toNat < xs.length) (k : ∀ v, rep ms H (e (xs[i.toNat]'hi)) v → Q v H) : rIxL K x (.int i) H Q := by
  simp only [rep] at h
  obtain ⟨p, vs, e', _, hp, hr⟩ := h
  obtain ⟨v, hv, rv⟩ := repL_get (d := e (xs[i.toNat]'hi)) hr (by rw [List.getElem?_map, List.getElem?_eq_getElem hi]; rfl)
  refine ⟨p, vs, i, v, e', rfl, .inl (.inl hp), at_of (j := i.toNat) (by omega) hv, k v rv⟩
theorem rep_lenL {α : Type} {e : α → D} {xs : List α} {P : Nat → Prop} (h : rep ms H (.lst (xs.map e)) x) (k : P xs.length) : ∃ y n, [x] = [y] ∧ LenV K y H n ∧ P n := by
  simp only [rep] at h
  obtain ⟨p, vs, e', _, hp, hr⟩ := h
  subst e'
  have hl := repL_len hr
  rw [List.length_map] at hl
  exact ⟨_, xs.length, rfl, .inl ⟨vs, .inl (.inl hp), hl⟩, k⟩
theorem rep_iter {ds : List D} {P : Addr → Prop} (h : rep ms H (.lst ds) x) (k : ∀ a xs, x = .ref a → a ∉ ms → H a = some (.lst xs) → repL ms H ds xs → P a) : ∃ a, x = .ref a ∧ (∃ xs, SqL K H a xs) ∧ P a := by
  simp only [rep] at h
  obtain ⟨p, vs, e, n, hp, hr⟩ := h
  exact ⟨p, e, ⟨vs, .inl (.inl hp)⟩, k p vs e n hp hr⟩
theorem rep_gtup {ds : List D} {n : Nat} {Q : L2.St → Hp → Prop} {t : TGs} {σ : L2.St} (h : rep ms H (.tup ds) x) (hn : ds.length = n) (k : ∀ vs, repL ms H ds vs → t vs σ H Q) : ∃ a xs, x = .ref a ∧ SqT K H a xs ∧ xs.length = n ∧ t xs σ H Q := by
  simp only [rep] at h
  obtain ⟨p, vs, e, _, hp, hr⟩ := h
  exact ⟨p, vs, e, .inl (.inl hp), by rw [← repL_len hr]; exact hn, k vs hr⟩
theorem rep_tup_mk {p : Addr} {ds : List D} {vs : List V} (w : Wd ms ps cs H0 H) (np : H p = none) (e : Ext H H') (hp : H' p = some (.tup vs)) (hr : repL ms H ds vs) : rep ms H' (.tup ds) (.ref p) := by
  simp only [rep]
  exact ⟨p, vs, rfl, fun z => w.tr p z np, hp, repL_ext e hr⟩
theorem rep_lst_mk {p : Addr} {ds : List D} {vs : List V} (w : Wd ms ps cs H0 H) (np : H p = none) (e : Ext H H') (hp : H' p = some (.lst vs)) (hr : repL ms H ds vs) : rep ms H' (.lst ds) (.ref p) := by
  simp only [rep]
  exact ⟨p, vs, rfl, fun z => w.tr p z np, hp, repL_ext e hr⟩
end

section
variable {α β : Type} {K : PySem.W.Frag} {ms : List Addr} {ps : List PEn} {cs : List (Addr × List V)} {H0 H1 : Hp} {g : TG} {tt : TT} {te : TE} {vl : List Nat} {σ : L2.St} {Qd : Hp → Prop}
structure Trn (ms : List Addr) (ps : List PEn) (cs : List (Addr × List V)) (H0 H1 : Hp) (L : Addr) (eb : β → D) (n : Nat) (ys : List β) (vs : List V) (H : Hp) : Prop where
  w : Wd (L :: ms) ps ((L, vs) :: cs) H0 H
  k : Keep (L :: ms) H1 H
  r : repL (L :: ms) H (ys.map eb) vs
  n : ys.length ≤ n
theorem Trn.start {L : Addr} {eb : β → D} (w : Wd ms ps cs H0 H1) (nl : H1 L = none) : Trn ms ps cs H0 H1 L eb 0 [] [] (upd H1 L (.lst [])) :=
  ⟨w.cell nl, fun a o n h => by rw [upd_ne (ne_of_none h nl)]; exact h, repL_nil, Nat.le_refl _⟩
theorem Trn.done {L : Addr} {eb : β → D} {n : Nat} {ys : List β} {vs : List V} {H : Hp} (w : Wd ms ps cs H0 H1) (nl : H1 L = none) (t : Trn ms ps cs H0 H1 L eb n ys vs H) : Wd ms ps cs H0 H ∧ Keep ms H1 H ∧ rep ms H (.lst (ys.map eb)) (.ref L) := by
  refine ⟨t.w.froze w.pm fun c h => (w.cel c h).2.1, fun a o n h => t.k a o (fun z => ?_) h, ?_⟩
  · rcases List.mem_cons.mp z with z | z
    · rw [z, nl] at h
      cases h
    · exact n z
  · simp only [rep]
    exact ⟨L, vs, rfl, fun z => w.tr L z nl, (t.w.cel _ List.mem_cons_self).1, repL_weak t.r⟩

end

section
variable {α β : Type} {K : PySem.W.Frag} {ms : List Addr} {ps : List PEn} {cs : List (Addr × List V)} {H0 H1 : Hp} {g : TG} {tt : TT} {te : TE} {vl : List Nat} {σ : L2.St} {Qd : Hp → Prop}
theorem Trn.skip {L : Addr} {eb : β → D} {n : Nat} {ys : List β} {vs : List V} {H : Hp} (t : Trn ms ps cs H0 H1 L eb n ys vs H) : Trn ms ps cs H0 H1 L eb (n + 1) ys vs H := ⟨t.w, t.k, t.r, Nat.le_succ_of_le t.n⟩
end

section
variable {α S : Type} {K : PySem.W.Frag} {ms : List Addr} {ps : List PEn} {H0 H1 : Hp} {g : TG} {tb : TS} {D' : Ends} {σ : L2.St} {cs : S → List (Addr × List V)}
end

section
variable {K : PySem.W.Frag} {ms : List Addr} {H : Hp} {d : D} {u x y : V}
theorem repL_uncons {ds : List D} {vs : List V} (h : repL ms H (d :: ds) vs) : ∃ u us, vs = u :: us ∧ rep ms H d u ∧ repL ms H ds us := by
  simp only [repL] at h
  exact h
theorem repL_empty {vs : List V} (h : repL ms H [] vs) : vs = [] := by
  simp only [repL] at h
  exact h
theorem repL_bls {ns : List Bool} {vs : List V} (h : repL ms H (ns.map fun n => D.v (.bl n)) vs) : vs = ns.map V.bl := by
  have e : (ns.map fun n => D.v (.bl n)) = (ns.map V.bl).map D.v := by rw [List.map_map]; rfl
  rw [e] at h
  exact repL_flat.mp h
theorem rep_all {ys : List Bool} {P : List Bool → Prop} (h : rep ms H (.lst (ys.map fun n => D.v (.bl n))) x) (k : P ys) : ∃ (a : Addr) (bs : List Bool), [x] = [V.ref a] ∧ SqL K H a (bs.map V.bl) ∧ P bs := by
  simp only [rep] at h
  obtain ⟨p, vs, e, _, hp, hr⟩ := h
  have ev := repL_bls hr
  subst ev e
  exact ⟨p, ys, rfl, .inl (.inl hp), k⟩
mutual
def pyOf : D → PyData
  | .v .non => .none
  | .v (.bl b) => .bool b
  | .v (.int i) => .int i
  | .v (.str z) => .str z
  | .v _ => .none
  | .lst ds => .list (pyL ds)
  | .tup ds => .tuple (pyL ds)
  | .ins _ _ _ => .none
  | .dct _ _ => .none
  | .dcT _ _ => .none
def pyL : List D → List PyData
  | [] => []
  | d :: ds => pyOf d :: pyL ds
def plainD : D → Bool
  | .v .non => true
  | .v (.bl _) => true
  | .v (.int _) => true
  | .v (.str _) => true
  | .v _ => false
  | .lst ds => plainL ds
  | .tup ds => plainL ds
  | .ins _ _ _ => false
  | .dct _ _ => false
  | .dcT _ _ => false
def plainL : List D → Bool
  | [] => true
  | d :: ds => plainD d && plainL ds
end
mutual
theorem dp_of : ∀ (d : D) (u : V), plainD d = true → rep ms H d u → Dp K H u (pyOf d)
  | .v x, u, p, h => by
    have e := of_v h
    subst e
    cases u <;> simp only [pyOf, plainD] at p ⊢ <;> first | exact .non | exact .bl _ | exact .int _ | exact .str _ | cases p
  | .lst ds, u, p, h => by
    simp only [rep] at h
    obtain ⟨a, vs, e, _, hp, hr⟩ := h
    subst e
    simp only [pyOf, plainD] at p ⊢
    exact .lst (.inl (.inl hp)) (dpL_of ds vs p hr)
  | .tup ds, u, p, h => by
    simp only [rep] at h
    obtain ⟨a, vs, e, _, hp, hr⟩ := h
    subst e
    simp only [pyOf, plainD] at p ⊢
    exact .tup (.inl (.inl hp)) (dpL_of ds vs p hr)
  | .ins _ _ _, u, p, h => by
    simp only [plainD] at p
    cases p
  | .dct _ _, u, p, h => by
    simp only [plainD] at p
    cases p
  | .dcT _ _, u, p, h => by
    simp only [plainD] at p
    cases p
theorem dpL_of : ∀ (ds : List D) (vs : List V), plainL ds = true → repL ms H ds vs → DpAll K H vs (pyL ds)
  | [], vs, p, h => by
    have e := repL_empty h
    subst e
    simp only [pyL]
    exact .nil
  | d :: ds, vs, p, h => by
    obtain ⟨u, us, e, h1, h2⟩ := repL_uncons h
    subst e
    simp only [plainL, Bool.and_eq_true] at p
    simp only [pyL]
    exact .cons (dp_of d u p.1 h1) (dpL_of ds us p.2 h2)
end
theorem rep_eqD {d e : D} {Q : VK} (h1 : rep ms H d x) (h2 : rep ms H e y) (p1 : plainD d = true) (p2 : plainD e = true) (s1 : SeqAt.shaped (pyOf d) = true) (s2 : SeqAt.shaped (pyOf e) = true) (k : Q (.bl (PyData.eqv (pyOf d) (pyOf e))) H) : rEqD K x y H Q :=
  ⟨_, _, dp_of d x p1 h1, dp_of e y p2 h2, s1, s2, k⟩
end

section
variable {ms : List Addr} {H H' H1 : Hp} {d : D} {u : V} {l : Addr}
theorem Keep.trans (a : Keep ms H1 H) (b : Keep ms H H') : Keep ms H1 H' := fun x o n h => b x o n (a x o n h)
theorem Keep.new (k : Keep ms H1 H) : Keep (l :: ms) H1 H := fun x o n h => k x o (fun z => n (List.mem_cons_of_mem _ z)) h
theorem rep_new (nl : H l = none) (h : rep ms H d u) : rep (l :: ms) H d u := rep_map (fun p o n hp => ⟨fun z => by
  rcases List.mem_cons.mp z with z | z
  · exact ne_of_none hp nl z
  · exact n z, hp⟩) d u h
theorem repL_new {ds : List D} {us : List V} (nl : H l = none) (h : repL ms H ds us) : repL (l :: ms) H ds us := repL_map (fun p o n hp => ⟨fun z => by
  rcases List.mem_cons.mp z with z | z
  · exact ne_of_none hp nl z
  · exact n z, hp⟩) ds us h
end

section
variable {X : Cx} {CX : CXT} {k : Nat} {f C : Addr} {fd : FuncData} {ps ks : List Str} {sp : Sp} {E : XK} {m : Str} {apos pos : Pos} {o : Expr} {kws : List Keyword} {ta : TE} {tk : TA} {g : List Value → List Value → List Value} {gV : List V → List V → List V}
end
end Rx
namespace Rx
open PySem PySem.Spec PyProof.Rows L2
theorem vals_getD : ∀ {zs : List V} {ws : List Value}, Vals zs ws → ∀ j : Nat, RelV (zs.getD j .non) (ws.getD j .none)
  | _, _, .nil, _ => rfl
  | _, _, .cons r _, 0 => r
  | _, _, .cons _ t, j + 1 => vals_getD t j
theorem tyes_of {σ : L2.St} {H : Hp} {A B : Hp → Prop} (h : A H) : tYes σ H fun b H3 => if b = true then A H3 else B H3 := by
  show (if true = true then A H else B H)
  rw [if_pos rfl]
  exact h
theorem Ret.keep {H H' : Hp} (e : Ret [] H H') {a : Addr} {o : HO} (h : H a = some o) : H' a = some o := e.kp a o (by simp) h
end Rx
namespace Rx
open PySem PySem.Spec PyProof.Rows L2
section
variable {X : Cx}
end

structure OwnEq (K : PySem.W.Frag) (C f : Addr) : Prop where
  hs : PySem.W.findIn K (.ref C) "__eq__" = some (some (.ref f))
  hf : PySem.W.isFn K (.ref f) = true
section
variable {K : PySem.W.Frag} {ms : List Addr} {ps : List PEn} {cs : List (Addr × List V)} {H H0 H1 : Hp} {d : D} {u x y : V}
theorem rep_cat {α : Type} {xs ys : List α} {e : α → D} {Q : VK} (w : Wd ms ps cs H0 H) (h1 : rep ms H (.lst (xs.map e)) x) (h2 : rep ms H (.lst (ys.map e)) y) (hz : xs.length + ys.length ≤ sizeLine)
    (k : ∀ p H', Ret [] H H' → rep ms H' (.lst ((xs ++ ys).map e)) (.ref p) → Q (.ref p) H') : rCat x y H Q := by
  simp only [rep] at h1 h2
  obtain ⟨p, vs, rfl, np, hp, r1⟩ := h1
  obtain ⟨q, us, rfl, nq, hq, r2⟩ := h2
  have l1 := repL_len r1
  have l2 := repL_len r2
  rw [List.length_map] at l1 l2
  refine ⟨p, q, vs, us, rfl, rfl, hp, hq, by rw [← l1, ← l2]; exact hz, fun a na => ?_⟩
  have ee : Ret [] H (upd H a (.lst (vs ++ us))) := Ext.new na
  refine k a _ ee ?_
  simp only [rep]
  refine ⟨a, vs ++ us, rfl, fun z => w.tr a z na, upd_same, ?_⟩
  rw [List.map_append]
  exact repL_app (repL_ext ee r1) (repL_ext ee r2)
structure IsC (K : PySem.W.Frag) (C : Addr) : Prop where
  cl : Cls K C
  ha : PySem.W.findIn K (.ref C) "__class__" = some (some (.builtin "object.__class__"))
  hn : PySem.W.specialIn K (.builtin "object.__class__") "__get__" = some (some (.builtin "getset_descriptor.__get__"))
  tk : PySem.W.takesIn K (.builtin "object.__class__") = some true
  hm : PySem.W.mroIn K C (.type "object") = some true
end
section
variable {β : Type} {K : PySem.W.Frag} {ms : List Addr} {ps : List PEn} {cs : List (Addr × List V)} {H0 H1 : Hp} {g : TG} {tt : TT} {te : TE} {vl : List Nat} {σ : L2.St} {Qd : Hp → Prop}
end
section
variable {M : Model} {prog : Program} {w : World} {A : Around} {E : Value → Shared → Prop} {s : Shared} {K : PySem.W.Frag} {x y C : Addr} {ox : Obj} {od : Option Obj}
end
structure OwnNe (K : PySem.W.Frag) (C : Addr) : Prop where
  hne : PySem.W.findIn K (.ref C) "__ne__" = some (some (.builtin "object.__ne__"))
  hm : PySem.W.mroIn K C (.type "object") = some true
mutual
def noL : D → Bool
  | .v _ => true
  | .lst _ => false
  | .tup ds => noLs ds
  | .ins _ _ ds => noLs ds
  | .dct _ ds => noLs ds
  | .dcT _ ds => noLs ds
def noLs : List D → Bool
  | [] => true
  | d :: ds => noL d && noLs ds
end
section
variable {ms : List Addr} {ps : List PEn} {cs : List (Addr × List V)} {H0 H H' : Hp} {L : Addr} {vs : List V}
mutual
theorem rep_lift0 (hL : H L = some (.lst vs)) : ∀ (d : D) (u : V), noL d = true → rep ms H d u → rep (L :: ms) H d u
  | .v x, u, _, h => by
    simp only [rep] at h ⊢
    exact h
  | .lst ds, u, n, h => by
    simp only [noL] at n
    cases n
  | .tup ds, u, n, h => by
    simp only [noL] at n
    simp only [rep] at h ⊢
    obtain ⟨p, us, e, np, hp, hl⟩ := h
    refine ⟨p, us, e, fun z => ?_, hp, repL_lift0 hL ds us n hl⟩
    rcases List.mem_cons.mp z with z | z
    · rw [z, hL] at hp
      cases hp
    · exact np z
  | .ins C ns ds, u, n, h => by
    simp only [noL] at n
    simp only [rep] at h ⊢
    obtain ⟨p, dx, us, e, np, hp, hn, hl⟩ := h
    refine ⟨p, dx, us, e, fun z => ?_, hp, hn, repL_lift0 hL ds us n hl⟩
    rcases List.mem_cons.mp z with z | z
    · rw [z, hL] at hp
      cases hp
    · exact np z
  | .dct ks ds, u, n, h => by
    simp only [noL] at n
    simp only [rep] at h ⊢
    obtain ⟨p, us, e, np, hp, hn, hl⟩ := h
    refine ⟨p, us, e, fun z => ?_, hp, hn, repL_lift0 hL ds us n hl⟩
    rcases List.mem_cons.mp z with z | z
    · rw [z, hL] at hp
      cases hp
    · exact np z
  | .dcT ks ds, u, n, h => by
    simp only [noL] at n
    simp only [rep] at h ⊢
    obtain ⟨p, us, e, np, hp, hn, hl⟩ := h
    refine ⟨p, us, e, fun z => ?_, hp, hn, repL_lift0 hL ds us n hl⟩
    rcases List.mem_cons.mp z with z | z
    · rw [z, hL] at hp
      cases hp
    · exact np z
theorem repL_lift0 (hL : H L = some (.lst vs)) : ∀ (ds : List D) (us : List V), noLs ds = true → repL ms H ds us → repL (L :: ms) H ds us
  | [], us, _, h => by
    simp only [repL] at h ⊢
    exact h
  | d :: ds, us, n, h => by
    simp only [noLs, Bool.and_eq_true] at n
    simp only [repL] at h ⊢
    obtain ⟨u, ws, e, h1, h2⟩ := h
    exact ⟨u, ws, e, rep_lift0 hL d u n.1 h1, repL_lift0 hL ds ws n.2 h2⟩
end
structure Mut (ms : List Addr) (ps : List PEn) (cs : List (Addr × List V)) (H0 H : Hp) (L : Addr) (ds : List D) : Prop where
  hp : L ∉ ad ps
  h0 : H0 L = none
  hc : ∀ c ∈ cs, c.1 ≠ L
  nm : L ∉ ms
  val : ∃ vs, H L = some (.lst vs) ∧ repL (L :: ms) H ds vs
variable {ds : List D} {d : D} {u : V}
end
section
variable {ms : List Addr} {ps : List PEn} {cs : List (Addr × List V)} {H0 H H1 H' : Hp} {L : Addr} {K : PySem.W.Frag} {x : V}
end
theorem turn_long {P : Program} {w : World} {K : PySem.W.Frag} {tg : Expr} (it : Addr) (lo : Int) (n : Nat) : Turn P w K tg (Itr lo n) [it] it (fun i h => IsLongIter h it (lo + (i : Nat) * 1) ((n : Int) - (i : Nat)) 1) where
  mem := by simp
  obj := fun i h st b hb => by
    have e : b = it := by simpa using hb
    subst e
    exact ⟨_, st, fun v z => by
      have z' : Data.fields _ = Data.cell v := z
      cases z'⟩
  keep := fun i h h' st k => k it (by simp) _ st
  item := by
    intro X hP hw hK hc i pins s σ H E I hf st hg
    subst hP hw hK
    obtain ⟨f0, f1, f2, f3, f4, f5⟩ := hf it (by simp)
    have W := Walks.longrange (prog := X.prog) (w := X.w) (I.ok.hd hc) it lo 1 n
    refine W.item i s _ _ hg st fun v h' tk hv st' kk => ?_
    obtain ⟨t, rfl⟩ := hv
    have I1 : Inv X pins σ H { s with heap := h', toks := tk } := I.turned (fun b o hb e => kk b o (by simpa using hb) e) f0 f1 f3 f4 f5
    refine ⟨_, rfl, go_of (s := { s with heap := h', toks := tk }) (n := "longrange_iterator") st' rfl rfl (by decide) ⟨.int (lo + i), H, I1, ⟨t, ?_⟩, ⟨rfl, rfl⟩, st', fun b hb => (hf b hb).1⟩⟩
    rw [Int.mul_one]
  done := by
    intro X hP hw hK hc i pins s σ H E I hf st hg
    subst hP hw hK
    obtain ⟨f0, f1, f2, f3, f4, f5⟩ := hf it (by simp)
    exact wpAny_pyNext_long_end (I.ok.hd hc) st (by have : n ≤ i := hg; omega) fun h' eb => ⟨rfl, I.turned (t' := s.toks) (fun b o hb e => eb b o hb e) f0 f1 f3 f4 f5⟩
  self := fun _ _ _ _ _ st h => wpAny_pyIter_longiter st h
section
variable {X : Cx} {tg : Expr}
theorem range_itW {pins : List (Addr × Obj)} {σ : L2.St} {H : Hp} {s : Shared} {R : It → Hp → Prop} {E : Value → Shared → Prop} {lo hi : Int} {t u v : Tok} {tk : Nat} (I : Inv X pins σ H s)
    (q : R (Itr lo (hi - lo).toNat) H) : wpAny (model X.prog X.w) X.A (pyIter (.ref s.heap.objs.size)) (PIE X pins σ tg R) E { s with heap := s.heap.push { cls := .type "range", data := .fields #[.int lo t, .int hi u, .int 1 v] }, toks := tk } := by
  have I1 : Inv X pins σ H { s with heap := s.heap.push { cls := .type "range", data := .fields #[.int lo t, .int hi u, .int 1 v] }, toks := tk } := I.kept fun b o e => Heap.get?_push_of_some _ e
  have e1 : lo + ((0 : Nat) : Int) * 1 = lo := by simp
  have e2 : (((hi - lo).toNat : Nat) : Int) - ((0 : Nat) : Int) = Builtin.Range.rangeSize lo hi 1 := by rw [rangeSize_one]; split <;> omega
  cases hs : Builtin.Range.small lo hi 1 with
  | true =>
    refine wpAny_pyIter_range (IsRange.new ..) hs ?_
    refine ⟨(s.heap.push { cls := .type "range", data := .fields #[.int lo t, .int hi u, .int 1 v] }).objs.size, [(s.heap.push { cls := .type "range", data := .fields #[.int lo t, .int hi u, .int 1 v] }).objs.size], _, _, H, rfl,
      I1.kept (t' := tk) fun b o e => Heap.get?_push_of_some _ e, turn_range _ lo (hi - lo).toNat, ?_, fun b hb => ?_, q⟩
    · show IsRangeIter _ _ (lo + ((0 : Nat) : Int) * 1) ((((hi - lo).toNat : Nat) : Int) - ((0 : Nat) : Int)) 1
      rw [e1, e2]
      exact Heap.get?_push_size _ rfl
    · have e : b = (s.heap.push { cls := .type "range", data := .fields #[.int lo t, .int hi u, .int 1 v] }).objs.size := by simpa using hb
      subst e
      exact I1.fpOk (Nat.le_refl _) (I1.hok.fresh (Nat.le_refl _))
  | false =>
    refine wpAny_pyIter_longrange (IsRange.new ..) hs ?_
    refine ⟨(s.heap.push { cls := .type "range", data := .fields #[.int lo t, .int hi u, .int 1 v] }).objs.size, [(s.heap.push { cls := .type "range", data := .fields #[.int lo t, .int hi u, .int 1 v] }).objs.size], _, _, H, rfl,
      I1.kept (t' := tk) fun b o e => Heap.get?_push_of_some _ e, turn_long _ lo (hi - lo).toNat, ?_, fun b hb => ?_, q⟩
    · show IsLongIter _ _ (lo + ((0 : Nat) : Int) * 1) ((((hi - lo).toNat : Nat) : Int) - ((0 : Nat) : Int)) 1
      rw [e1, e2]
      exact Heap.get?_push_size _ rfl
    · have e : b = (s.heap.push { cls := .type "range", data := .fields #[.int lo t, .int hi u, .int 1 v] }).objs.size := by simpa using hb
      subst e
      exact I1.fpOk (Nat.le_refl _) (I1.hok.fresh (Nat.le_refl _))
def iRngW1 (ta : TA) : TI := fun σ H R => ta σ H fun vs H1 => ∃ j : Int, vs = [.int j] ∧ R (Itr 0 j.toNat) H1
theorem pi_rangeW1 {a : Expr} {ta : TA} {p pos : Pos} (hg : Gl X "range") (hm : X.mg "range" = none) (ha : PA X [a] ta) (hs : starEach [a] X.env = [(false, eval a X.env)] := by rfl) : PI X tg (.Call (.Name "range" p) [a] [] pos) (iRngW1 ta) := by
  refine ⟨fun pins s σ H R I h => ?_⟩
  refine Call_ (ld_blt I hg hm boot_range (PyProof.Rows.callWith_type1 (thn (ha.run pos pins s σ H _ I h) fun us s1 ⟨vs, H1, I1, r1, q1⟩ => ?_) hs rfl))
  obtain ⟨j, e, q⟩ := q1
  subst e
  cases r1 with
  | cons r rr =>
    cases rr
    obtain ⟨t, rfl⟩ := r
    exact call_range_1 (range_itW I1 (by simpa using q))
end
end Rx
namespace Rx
open PySem PySem.Spec PyProof.Rows L2
structure FnG (P : Program) (w : World) (K : PySem.W.Frag) (mg : Str → Option Value) (base : Heap) (k : Nat) (f : Addr) (fd : FuncData) (ps : List Str) (sp : Sp) : Prop where
  len : ∀ vs H Q E, sp vs H Q E → vs.length = ps.length
  run : ∀ (A : Around), A.guards = some [] → Room k A → ∀ (outer : List Env) (s : Shared) (H : Hp) (args : Args) (us : List Value) (vs : List V) (Q : VK) (E : XK), Env0 P w K mg base A outer s H → BindsTo s fd args (ps.zip us) → Vals vs us → sp vs H Q E →
    codeAny (model P w) A (.call (.ref f) args) (CR CX0 outer P w H s Q E) s
theorem FnG.of {P : Program} {w : World} {K : PySem.W.Frag} {mg : Str → Option Value} {base : Heap} {k : Nat} {f : Addr} {fd : FuncData} {ps : List Str} {sp : Sp} (F : FnOk P w K mg base CX0 k f fd ps sp) : FnG P w K mg base k f fd ps sp :=
  ⟨F.len, fun A _ hr outer s H args us vs Q E => F.run A outer s H args us vs Q E hr⟩
section
variable {X : Cx} {k : Nat} {f : Addr} {fd : FuncData} {ps : List Str} {sp : Sp} {x : Str} {e : Expr} {es : List Expr} {p pos : Pos} {t : TA}
theorem runG {pins : List (Addr × Obj)} {σ : L2.St} {H : Hp} {s : Shared} {Q : VK} {us : List Value} {vs : List V} (F : FnG X.prog X.w X.K X.mg X.base k f fd ps sp) (hg : X.A.guards = some []) (hr : Room k X.A) (hb : Binds X.K fd ps [])
    (I : Inv X pins σ H s) (r : Vals vs us) (h : sp vs H Q E0) : wpAny (model X.prog X.w) X.A (call (.ref f) us) (EP X pins σ Q) X.xe s := by
  have hl : us.length = ps.length := r.length.symm.trans (F.len _ _ _ _ h)
  have bt := hb s us I.kIn (by rw [List.append_nil]; exact hl)
  rw [List.append_nil] at bt
  refine wpAny_call (codeAny_mono (F.run X.A hg hr X.stack s H ⟨us, []⟩ us vs Q E0 I.env0 bt r h) fun out s' hq => ?_)
  rcases out with err | fl
  · exact pass0 pins σ H s err s' I hq
  · rcases fl with _ | _ | _ | u
    all_goals first | exact I.after hq | exact hq.elim
theorem pe_callG (F : FnG X.prog X.w X.K X.mg X.base k f fd ps sp) (gu : X.A.guards = some []) (hr : Room k X.A) (hg : Gl X x) (hm : X.mg x = some (.ref f)) (hk : PySem.W.keepIn X.K (.ref f) = true) (hb : Binds X.K fd ps []) (ha : PA X (e :: es) t)
    (hdb : (x == ("__debug__" : Str)) = false := by decide) (he : starEach (e :: es) X.env = (false, eval e X.env) :: starEach es X.env := by rfl) (hpl : (backTo pos (starEach es X.env)).any (·.1) = false := by rfl) :
    PE X (.Call (.Name x p) (e :: es) [] pos) (tCall sp [] E0 t) :=
  ⟨fun pins s σ H Q I h => wpAny_Call_Name_kw (ld_glob I hg hm (PySem.W.callWith_K (h₀ := X.base) I.ok.mod.kin hk (thn (ha.run pos pins s σ H _ I h) fun us s1 ⟨vs, H1, I1, r, q⟩ => ⟨I1.kIn, runG F gu hr hb I1 r (by have q' : sp (vs ++ []) H1 Q E0 := q; rwa [List.append_nil] at q')⟩) he hpl) hdb)⟩
end
section
variable {P : Program} {w : World} {K : PySem.W.Frag} {mg : Str → Option Value} {base : Heap}
theorem okG {x qual : Str} {st : Stmt} {f : Addr} {fd : FuncData} {N ps : List Str} {k : Nat} {sp : Sp} (F : Fun K x qual st f fd) (S : FnScope N ps (defScope st)) (len : ∀ vs H Q E, sp vs H Q E → vs.length = ps.length)
    (hbody : ∀ (cdv : Value) (A : Around) (outer : List Env) (s : Shared) (H : Hp) (vs : List V) (Q : VK) (E : XK), A.guards = some [] → Room k (A.deeper (envOfC qual (defScope st) s.heap.objs.size f cdv)) → sp vs H Q E →
      ∃ t, PSs (cxOf CX0 P w K mg base N qual (defScope st) f cdv A outer s H E).nox (defBody st) t ∧ t { nx := fun _ H' => Q .non H', rt := Q } (start N vs) H) : FnG P w K mg base (k + 1) f fd ps sp := by
  obtain ⟨oc, od, kV, doc, pm, an, cdv, ct, osl, rfl, lk, hcd⟩ := F.ex
  refine ⟨len, fun A gu hr outer s H args us vs Q E en bt rv hs => ?_⟩
  have inK : K.In s.heap := en.mod.kin.keeps fun b o h => (en.bs b o h).1
  have names : ∀ y ∈ ps.zip us, (defScope st).names.lookup y.1 = some .local ∨ ((defScope st).names.lookup y.1 = some .cell ∧ ((cellsFrom (s.heap.objs.size + 1) (defScope st).names []).lookup y.1).isSome = true) := by
    rintro ⟨n, v⟩ hy
    exact (S.par n (List.of_mem_zip hy).1).imp id fun q => ⟨q, PySem.W.cellsFrom_some _ _ _ (.inl q)⟩
  refine codeAny_call_function hr.depth (inK _ _ lk) rfl S.co S.gen rfl (PySem.W.codeRec_of inK hcd) (bt _ _ _ _ (wpAny_newFunctionEnv_cells S.kind names fun env he s1 inner => ?_))
  subst he
  refine ⟨(en.mod.nolimit.keeps fun b o h => (en.bs b o h).1).keeps inner.toInCall.keep, codeAny_func ?_⟩
  obtain ⟨t, ht, hq⟩ := hbody cdv A outer s H vs Q E gu (hr.deeper _) hs
  have start0 : Inv (cxOf CX0 P w K mg base N qual (defScope st) f cdv A outer s H E) [] (start N vs) H s1 := inv_start S hr.hd en (len _ _ _ _ hs) rv inner
  have leave : ∀ {σ' : L2.St} {H' : Hp} {v : V} {u : Value} {s' : Shared}, Inv (cxOf CX0 P w K mg base N qual (defScope st) f cdv A outer s H E) [] σ' H' s' → RelV v u → Q v H' → CE outer P w H s Q u s' :=
    fun {σ' H' v u s'} J r q => ⟨v, H', J.os, J.bare, J.base, J.hok, r, q⟩
  refine wpAny_mono (ht.nox.run [] s1 (start N vs) H _ start0 hq) (fun fl s' hs' => ?_) fun _ _ h => h
  rcases fl with _ | _ | _ | u
  · obtain ⟨σ', H', J, q⟩ := hs'
    exact leave (v := V.non) (u := Value.none) J rfl q
  · obtain ⟨_, _, _, q⟩ := hs'
    exact q.elim
  · obtain ⟨_, _, _, q⟩ := hs'
    exact q.elim
  · obtain ⟨v, σ', H', J, r, q⟩ := hs'
    exact leave J r q
end
section
variable {P : Program} {w : World} {K : PySem.W.Frag} {mg mb : Str → Option Value} {k : Nat} {fa a : Addr} {fd : FuncData} {x : Str} {sp : Sp} {s1 : Shared} {vs : List Value} {ns : List Int}
abbrev EndG (h : Heap) (os : OsState) (r : Result) (s' : Shared) : Prop := r = .ok (.ret (.bool true)) ∧ OldK h s'.heap ∧ s'.os = os ∧ AllBare s'.gens
end
section
variable {K : PySem.W.Frag} {ms : List Addr} {H : Hp} {d : D} {x : V}
end
section
variable {β : Type} {K : PySem.W.Frag} {ms : List Addr} {ps : List PEn} {cs : List (Addr × List V)} {H0 H1 : Hp} {g : TG} {tt : TT} {te : TE} {vl : List Nat} {σ : L2.St} {Qd : Hp → Prop}
variable {x : V} {H : Hp}
end
structure OwnText (K : PySem.W.Frag) (C : Addr) (name : Str) (f : Addr) : Prop where
  hs : PySem.W.findIn K (.ref C) name = some (some (.ref f))
  hf : PySem.W.isFn K (.ref f) = true
section
variable {X : Cx} {n : Nat} {CX : CXT} {C f : Addr} {fd : FuncData} {ps : List Str} {sp : Sp} {E : XK}
end
def encO {α : Type} (e : α → D) : Option α → D
  | none => .v .non
  | some y => e y
theorem rep_some {α : Type} {e : α → D} {ms : List Addr} {H : Hp} {m : Option α} {u : V} {y : α} (hy : m = some y) (h : rep ms H (encO e m) u) : rep ms H (e y) u := by
  subst hy
  exact h
end Rx
namespace Rx
open PySem PySem.Spec PyProof.Rows L2
section
variable {K : PySem.W.Frag} {ms : List Addr} {ps : List PEn} {cs : List (Addr × List V)} {H0 H H1 H' : Hp} {x : V} {ds : List D}
theorem wd_none {p : Addr} (w : Wd ms ps cs H0 H) (np : H p = none) : H0 p = none := by
  cases q : H0 p with
  | none => rfl
  | some o => exact absurd np (w.grow p (by rw [q]; exact fun z => nomatch z))
theorem rep_listT {P : List V → Prop} (h : rep ms H (.tup ds) x) (k : ∀ ys, repL ms H ds ys → P ys) :
    ∃ p ys, [x] = [.ref p] ∧ (SqL K H p ys ∨ SqT K H p ys) ∧ P ys := by
  simp only [rep] at h
  obtain ⟨p, vs, rfl, _, hp, hr⟩ := h
  exact ⟨p, vs, rfl, .inr (.inl (.inl hp)), k vs hr⟩
theorem rep_listL {P : List V → Prop} (h : rep ms H (.lst ds) x) (k : ∀ ys, repL ms H ds ys → P ys) :
    ∃ p ys, [x] = [.ref p] ∧ (SqL K H p ys ∨ SqT K H p ys) ∧ P ys := by
  simp only [rep] at h
  obtain ⟨p, vs, rfl, _, hp, hr⟩ := h
  exact ⟨p, vs, rfl, .inl (.inl (.inl hp)), k vs hr⟩
mutual
theorem rep_noL {L : Addr} {vs vs' : List V} (hL : H L = some (.lst vs)) : ∀ (d : D) (u : V), noL d = true → rep ms H d u → rep ms (upd H L (.lst vs')) d u
  | .v x, u, _, h => by
    simp only [rep] at h ⊢
    exact h
  | .lst ds, u, n, h => by
    simp only [noL] at n
    cases n
  | .tup ds, u, n, h => by
    simp only [noL] at n
    simp only [rep] at h ⊢
    obtain ⟨p, us, e, np, hp, hl⟩ := h
    refine ⟨p, us, e, np, ?_, repL_noL hL ds us n hl⟩
    rw [upd_ne (fun z => by rw [z, hL] at hp; cases hp)]
    exact hp
  | .ins C ns ds, u, n, h => by
    simp only [noL] at n
    simp only [rep] at h ⊢
    obtain ⟨p, dx, us, e, np, hp, hn, hl⟩ := h
    refine ⟨p, dx, us, e, np, ?_, hn, repL_noL hL ds us n hl⟩
    rw [upd_ne (fun z => by rw [z, hL] at hp; cases hp)]
    exact hp
  | .dct ks ds, u, n, h => by
    simp only [noL] at n
    simp only [rep] at h ⊢
    obtain ⟨p, us, e, np, hp, hn, hl⟩ := h
    refine ⟨p, us, e, np, ?_, hn, repL_noL hL ds us n hl⟩
    rw [upd_ne (fun z => by rw [z, hL] at hp; cases hp)]
    exact hp
  | .dcT ks ds, u, n, h => by
    simp only [noL] at n
    simp only [rep] at h ⊢
    obtain ⟨p, us, e, np, hp, hn, hl⟩ := h
    refine ⟨p, us, e, np, ?_, hn, repL_noL hL ds us n hl⟩
    rw [upd_ne (fun z => by rw [z, hL] at hp; cases hp)]
    exact hp
theorem repL_noL {L : Addr} {vs vs' : List V} (hL : H L = some (.lst vs)) : ∀ (ds : List D) (us : List V), noLs ds = true → repL ms H ds us → repL ms (upd H L (.lst vs')) ds us
  | [], us, _, h => by
    simp only [repL] at h ⊢
    exact h
  | d :: ds, us, n, h => by
    simp only [noLs, Bool.and_eq_true] at n
    simp only [repL] at h ⊢
    obtain ⟨u, ws, e, h1, h2⟩ := h
    exact ⟨u, ws, e, rep_noL hL d u n.1 h1, repL_noL hL ds ws n.2 h2⟩
end
end

section
variable {X : Cx} {K : PySem.W.Frag}
theorem ix_listK (hK : X.K = K) : IxR X (rIxL K) := by
  subst hK
  exact ix_list
end
end Rx
namespace Rx
open PySem PySem.Spec PyProof.Rows L2
section
variable {K : PySem.W.Frag} {ms ms' : List Addr} {ps : List PEn} {H0 H H' H1 : Hp} {L L' : Addr} {d d' : D} {ds : List D} {u x : V} {vs : List V}
def valO (ms : List Addr) (H : Hp) (L : Addr) : D → Prop
  | .lst ds => ∃ vs, H L = some (.lst vs) ∧ repL ms H ds vs
  | .dct ks ds => ∃ vs, H L = some (.dK (ks.zip vs)) ∧ ks.length = vs.length ∧ repL ms H ds vs
  | .dcT ks ds => ∃ vs, H L = some (.dT (ks.zip vs)) ∧ ks.length = vs.length ∧ repL ms H ds vs
  | _ => False
theorem valO_map (f : ∀ p o, p ∉ ms → H p = some o → p ∉ ms' ∧ H' p = some o) (g : ∀ o, H L = some o → H' L = some o) : ∀ d : D, valO ms H L d → valO ms' H' L d
  | .lst ds, ⟨vs, h1, h2⟩ => ⟨vs, g _ h1, repL_map f ds vs h2⟩
  | .dct ks ds, ⟨vs, h1, h2, h3⟩ => ⟨vs, g _ h1, h2, repL_map f ds vs h3⟩
  | .dcT ks ds, ⟨vs, h1, h2, h3⟩ => ⟨vs, g _ h1, h2, repL_map f ds vs h3⟩
  | .v _, h => h
  | .tup _, h => h
  | .ins _ _ _, h => h
structure MutO (ms : List Addr) (ps : List PEn) (H0 H : Hp) (L : Addr) (d : D) : Prop where
  im : L ∈ ms
  hp : L ∉ ad ps
  h0 : H0 L = none
  val : valO ms H L d
theorem MutO.some (m : MutO ms ps H0 H L d) : ∃ o, H L = some o := by
  have h := m.val
  cases d with
  | lst ds => exact ⟨_, h.choose_spec.1⟩
  | dct ks ds => exact ⟨_, h.choose_spec.1⟩
  | dcT ks ds => exact ⟨_, h.choose_spec.1⟩
  | v _ => exact h.elim
  | tup _ => exact h.elim
  | ins _ _ _ => exact h.elim
theorem mo_ret (w : Wd ms ps [] H0 H) (e : Ret ps H H') (m : MutO ms ps H0 H L d) : MutO ms ps H0 H' L d :=
  ⟨m.im, m.hp, m.h0, valO_map (fun p o n hp => ⟨n, e.kp p o (fun z => n (w.pm p z)) hp⟩) (fun o h => e.kp L o m.hp h) d m.val⟩
theorem mo_ext (e : Ret [] H H') (m : MutO ms ps H0 H L d) : MutO ms ps H0 H' L d :=
  ⟨m.im, m.hp, m.h0, valO_map (fun p o n hp => ⟨n, e.kp p o (by simp) hp⟩) (fun o h => e.kp L o (by simp) h) d m.val⟩
theorem rep_sub (s : ∀ a ∈ ms', a ∈ ms) (h : rep ms H d u) : rep ms' H d u := rep_map (fun p o n hp => ⟨fun z => n (s p z), hp⟩) d u h
theorem wd_sub (s : ∀ a ∈ ms', a ∈ ms) (hp : ∀ a ∈ ad ps, a ∈ ms') (w : Wd ms ps [] H0 H) : Wd ms' ps [] H0 H :=
  ⟨w.kp, w.grow, fun m h => w.tr m (s m h), w.pot, hp, fun _ h => absurd h List.not_mem_nil⟩
theorem mo_rep (n : L ∉ ms') (s : ∀ a ∈ ms', a ∈ ms) (m : MutO ms ps H0 H L d) : rep ms' H d (.ref L) := by
  have h := m.val
  cases d with
  | lst ds =>
    obtain ⟨vs, h1, h2⟩ := h
    simp only [rep]
    exact ⟨L, vs, rfl, n, h1, repL_map (fun p o n hp => ⟨fun z => n (s p z), hp⟩) ds vs h2⟩
  | dct ks ds =>
    obtain ⟨vs, h1, h2, h3⟩ := h
    simp only [rep]
    exact ⟨L, vs, rfl, n, h1, h2, repL_map (fun p o n hp => ⟨fun z => n (s p z), hp⟩) ds vs h3⟩
  | dcT ks ds =>
    obtain ⟨vs, h1, h2, h3⟩ := h
    simp only [rep]
    exact ⟨L, vs, rfl, n, h1, h2, repL_map (fun p o n hp => ⟨fun z => n (s p z), hp⟩) ds vs h3⟩
  | v _ => exact h.elim
  | tup _ => exact h.elim
  | ins _ _ _ => exact h.elim
theorem wd_cell {o : HO} (w : Wd ms ps [] H0 H) (nl : H L = none) : Wd (L :: ms) ps [] H0 (upd H L o) := by
  have w1 := w.ret0 (Ext.new (o := o) nl)
  refine ⟨w1.kp, w1.grow, fun m h => ?_, w1.pot, fun a h => List.mem_cons_of_mem _ (w.pm a h), fun _ h => absurd h List.not_mem_nil⟩
  rcases List.mem_cons.mp h with rfl | h
  · rw [upd_same]
    exact fun z => nomatch z
  · exact w1.tr m h
theorem pot_new (w : Wd ms ps [] H0 H) (nl : H L = none) : L ∉ ad ps := fun z => by
  obtain ⟨p, hp, e2⟩ := List.mem_map.mp z
  exact ent_some (w.pot p hp) (by rw [e2]; exact nl)
theorem nm_new (w : Wd ms ps [] H0 H) (nl : H L = none) : L ∉ ms := fun z => w.tr L z nl
theorem mo_newL (w : Wd ms ps [] H0 H) (nl : H L = none) (r : repL ms H ds vs) : MutO (L :: ms) ps H0 (upd H L (.lst vs)) L (.lst ds) :=
  ⟨List.mem_cons_self, pot_new w nl, wd_none w nl, vs, upd_same, repL_map (fun p o n hp => ⟨fun z => by
    rcases List.mem_cons.mp z with z | z
    · exact ne_of_none hp nl z
    · exact n z, by rw [upd_ne (ne_of_none hp nl)]; exact hp⟩) _ _ r⟩
theorem mo_newD {ks : List Key} (w : Wd ms ps [] H0 H) (nl : H L = none) (hl : ks.length = vs.length) (r : repL ms H ds vs) : MutO (L :: ms) ps H0 (upd H L (.dK (ks.zip vs))) L (.dct ks ds) :=
  ⟨List.mem_cons_self, pot_new w nl, wd_none w nl, vs, upd_same, hl, repL_map (fun p o n hp => ⟨fun z => by
    rcases List.mem_cons.mp z with z | z
    · exact ne_of_none hp nl z
    · exact n z, by rw [upd_ne (ne_of_none hp nl)]; exact hp⟩) _ _ r⟩
theorem mo_nc {c : Addr} {q : Str} (m : MutO ms ps H0 H L d) (h : H L = some (LamX.CodeO c q)) : False := by
  have v := m.val
  cases d with
  | lst ds =>
    obtain ⟨vs, e, _⟩ := v
    rw [h] at e
    cases e
  | dct ks ds =>
    obtain ⟨vs, e, _⟩ := v
    rw [h] at e
    cases e
  | dcT ks ds =>
    obtain ⟨vs, e, _⟩ := v
    rw [h] at e
    cases e
  | v _ => exact v
  | tup _ => exact v
  | ins _ _ _ => exact v
theorem wd_put {o : HO} (w : Wd ms ps [] H0 H) (m : MutO ms ps H0 H L d) : Wd ms ps [] H0 (upd H L o) := by
  refine ⟨fun a o' n h => ?_, fun a h => ?_, fun a h => ?_, fun a h => ?_, w.pm, fun _ h => absurd h List.not_mem_nil⟩
  · rw [upd_ne (ne_of_none h m.h0)]
    exact w.kp a o' n h
  · by_cases e : a = L
    · rw [e, upd_same]
      exact fun z => nomatch z
    · rw [upd_ne e]
      exact w.grow a h
  · by_cases e : a = L
    · rw [e, upd_same]
      exact fun z => nomatch z
    · rw [upd_ne e]
      exact w.tr a h
  · refine ent_stay (w.pot a h) (fun o ho => by rw [upd_ne (fun z => m.hp (by rw [← z]; exact mem_ad h))]; exact ho) fun c q hc => ?_
    rw [upd_ne (fun z => mo_nc m (by rw [← z]; exact hc))]
    exact hc
theorem mo_setL (m : MutO ms ps H0 H L d) (r : repL ms H ds vs) : MutO ms ps H0 (upd H L (.lst vs)) L (.lst ds) :=
  ⟨m.im, m.hp, m.h0, vs, upd_same, repL_put m.im r⟩
theorem mo_tyL (m : MutO ms ps H0 H L (.lst ds)) : tyV K "list" (.ref L) H := by
  obtain ⟨vs, h1, h2⟩ := m.val
  exact .inl ⟨rfl, vs, .inl (.inl h1)⟩
theorem mo_end {n : Nat} {Nx : Hp → Prop} (m : MutO ms ps H0 H L (.lst ds)) (hn : n < 100000) (hy : ds.length ≤ n) (h : ∀ vs, repL ms H ds vs → Nx (upd H L (.lst (vs ++ [u])))) :
    ∃ acc, H L = some (.lst acc) ∧ acc.length < sizeLine ∧ Nx (upd H L (.lst (acc ++ [u]))) := by
  obtain ⟨vs, h1, h2⟩ := m.val
  refine ⟨vs, h1, ?_, h vs h2⟩
  have q := repL_len h2
  have e : sizeLine = 16777216 := sizeLine_eq
  omega
theorem repL_snoc {α : Type} {e : α → D} {xs : List α} {y : α} (r : repL ms H (xs.map e) vs) (h : rep ms H (e y) u) : repL ms H ((xs ++ [y]).map e) (vs ++ [u]) := by
  rw [List.map_append]
  exact repL_app r (repL_one h)
end

section
variable {α S : Type} {K : PySem.W.Frag} {H1 : Hp} {g : TG} {tb : TS} {D' : Ends} {σ : L2.St}
end

section
variable {α β : Type} {K : PySem.W.Frag} {H1 H2 : Hp} {g : TG} {tt : TT} {te : TE} {vl : List Nat} {σ : L2.St} {Qd : Hp → Prop} {L : Addr}
abbrev Turn (g : TG) (tt : TT) (te : TE) (vl : List Nat) (σ : L2.St) (L : Addr) (u : V) (H : Hp) (Nx : Hp → Prop) : Prop :=
  g u (wipe σ vl) H fun σ2 H2 => wipe σ2 vl = wipe σ vl ∧ tt σ2 H2 fun b H3 => if b = true then te σ2 H3 fun y H4 => ∃ acc, H4 L = some (.lst acc) ∧ acc.length < sizeLine ∧ Nx (upd H4 L (.lst (acc ++ [y]))) else Nx H3
theorem lc_rangeG {lo hi : Int} {N : Nat} {body : Int → (β → Prop) → Prop} {KM : List β → Prop} (SI : Nat → List β → Hp → Prop) (hN : N = (hi - lo).toNat) (hM : (rangeI lo hi).length < 100000 ∧ mapC body (rangeI lo hi) [] KM) (h0 : SI 0 [] (upd H1 L (.lst [])))
    (hs : ∀ (x : Int) (n : Nat) (ys : List β) (k : β → Prop) (H : Hp), n < 100000 → SI n ys H → body x k → ∀ Nx : Hp → Prop, (∀ y H', k y → SI (n + 1) (ys ++ [y]) H' → Nx H') → Turn g tt te vl σ L (.int x) H Nx)
    (hd : ∀ n ys H, KM ys → SI n ys H → Qd H) :
    ∃ W : Nat → Nat → Hp → Prop, (∃ m, W 0 m (upd H1 L (.lst []))) ∧ ∀ i m H, W i m H →
      ((Itr lo N).stop i H ∧ Qd H) ∨ ((Itr lo N).go i H ∧ ∃ Nx : Hp → Prop, (∀ H', Nx H' → ∃ m', m' < m ∧ W (i + 1) m' H') ∧ ∀ x H', (Itr lo N).yld i H x H' → g x (wipe σ vl) H' fun σ2 H2 => wipe σ2 vl = wipe σ vl ∧ tt σ2 H2 fun b H3 =>
        if b = true then te σ2 H3 fun y H4 => ∃ acc, H4 L = some (.lst acc) ∧ acc.length < sizeLine ∧ Nx (upd H4 L (.lst (acc ++ [y]))) else Nx H3) := by
  obtain ⟨hn, hM⟩ := hM
  subst hN
  rw [rangeI_len] at hn
  refine ⟨fun i m H => m = (hi - lo).toNat - i ∧ i ≤ (hi - lo).toNat ∧ ∃ ys, SI i ys H ∧ mapC body ((rangeI lo hi).drop i) ys KM, ⟨_, rfl, Nat.zero_le _, [], h0, hM⟩, ?_⟩
  rintro i m H ⟨rfl, hi', ys, T, q⟩
  by_cases hlt : i < (hi - lo).toNat
  · refine .inr ⟨hlt, fun H' => i + 1 ≤ (hi - lo).toNat ∧ ∃ ys, SI (i + 1) ys H' ∧ mapC body ((rangeI lo hi).drop (i + 1)) ys KM, fun H' p' => ⟨_, by omega, rfl, p'⟩, fun x H' y => ?_⟩
    obtain ⟨e, y⟩ := y
    subst e y
    rw [drop_cons' (rangeI_get hlt)] at q
    exact hs _ i ys _ H' (by omega) T q _ fun y H' k T' => ⟨hlt, _, T', k⟩
  · have e : i = (hi - lo).toNat := by omega
    refine .inl ⟨by rw [e]; exact Nat.le_refl _, ?_⟩
    rw [List.drop_of_length_le (by rw [rangeI_len]; omega)] at q
    exact hd _ ys H q T
theorem lc_listG {items : List α} {e : α → D} {ms : List Addr} {a : Addr} {xs : List V} {body : α → (β → Prop) → Prop} {KM : List β → Prop} (SI : Nat → List β → Hp → Prop) (an : a ∉ ms) (ha : H1 a = some (.lst xs)) (hx : repL ms H1 (items.map e) xs) (nl : H1 L = none)
    (kp : ∀ n ys H, SI n ys H → Keep (L :: ms) H1 H) (hM : items.length < 100000 ∧ mapC body items [] KM) (h0 : SI 0 [] (upd H1 L (.lst [])))
    (hs : ∀ (x : α) (u : V) (n : Nat) (ys : List β) (k : β → Prop) (H : Hp), n < 100000 → SI n ys H → rep (L :: ms) H (e x) u → body x k → ∀ Nx : Hp → Prop, (∀ y H', k y → SI (n + 1) (ys ++ [y]) H' → Nx H') → Turn g tt te vl σ L u H Nx)
    (hd : ∀ n ys H, KM ys → SI n ys H → Qd H) :
    ∃ W : Nat → Nat → Hp → Prop, (∃ m, W 0 m (upd H1 L (.lst []))) ∧ ∀ i m H, W i m H →
      ((Itl K a).stop i H ∧ Qd H) ∨ ((Itl K a).go i H ∧ ∃ Nx : Hp → Prop, (∀ H', Nx H' → ∃ m', m' < m ∧ W (i + 1) m' H') ∧ ∀ x H', (Itl K a).yld i H x H' → g x (wipe σ vl) H' fun σ2 H2 => wipe σ2 vl = wipe σ vl ∧ tt σ2 H2 fun b H3 =>
        if b = true then te σ2 H3 fun y H4 => ∃ acc, H4 L = some (.lst acc) ∧ acc.length < sizeLine ∧ Nx (upd H4 L (.lst (acc ++ [y]))) else Nx H3) := by
  obtain ⟨hn, hM⟩ := hM
  have hl : items.length = xs.length := by
    have := repL_len hx
    rwa [List.length_map] at this
  have aM : a ∉ L :: ms := fun z => by
    rcases List.mem_cons.mp z with z | z
    · exact ne_of_none ha nl z
    · exact an z
  have hx1 : repL (L :: ms) H1 (items.map e) xs := repL_new nl hx
  refine ⟨fun i m H => m = xs.length - i ∧ i ≤ xs.length ∧ ∃ ys, SI i ys H ∧ mapC body (items.drop i) ys KM, ⟨_, rfl, Nat.zero_le _, [], h0, hM⟩, ?_⟩
  rintro i m H ⟨rfl, hi', ys, T, q⟩
  have hA : H a = some (.lst xs) := kp i ys H T a _ aM ha
  by_cases hlt : i < xs.length
  · refine .inr ⟨⟨xs, xs[i], .inl (.inl hA), by simp [hlt]⟩, fun H' => i + 1 ≤ xs.length ∧ ∃ ys, SI (i + 1) ys H' ∧ mapC body (items.drop (i + 1)) ys KM, fun H' p' => ⟨_, by omega, rfl, p'⟩, fun x H' y => ?_⟩
    obtain ⟨e1, y⟩ := y
    subst e1
    have hxi := y xs (.inl (.inl hA))
    have hit : items[i]? = some (items[i]'(by omega)) := List.getElem?_eq_getElem (by omega)
    rw [drop_cons' hit] at q
    obtain ⟨v, hv, rv⟩ := repL_get (repL_keep (kp i ys H' T) hx1) (j := i) (d := e (items[i]'(by omega))) (by rw [List.getElem?_map, hit]; rfl)
    rw [hxi] at hv
    have ev : x = v := Option.some.inj hv
    subst ev
    exact hs _ x i ys _ H' (by omega) T rv q _ fun y H'' k T' => ⟨hlt, _, T', k⟩
  · refine .inl ⟨⟨xs, .inl (.inl hA), by omega⟩, ?_⟩
    rw [List.drop_of_length_le (by omega)] at q
    exact hd _ ys H q T
theorem lf_listG {items : List α} {e : α → D} {ms : List Addr} {a : Addr} {xs : List V} {body : α → (Option β → Prop) → Prop} {KM : List β → Prop} (SI : Nat → List β → Hp → Prop) (an : a ∉ ms) (ha : H1 a = some (.lst xs)) (hx : repL ms H1 (items.map e) xs) (nl : H1 L = none)
    (kp : ∀ n ys H, SI n ys H → Keep (L :: ms) H1 H) (hM : items.length < 100000 ∧ filC body items [] KM) (h0 : SI 0 [] (upd H1 L (.lst [])))
    (hs : ∀ (x : α) (u : V) (n : Nat) (ys : List β) (k : Option β → Prop) (H : Hp), n < 100000 → SI n ys H → rep (L :: ms) H (e x) u → body x k → ∀ Nx : Hp → Prop, (∀ y H', k (some y) → SI (n + 1) (ys ++ [y]) H' → Nx H') → (∀ H', k none → SI (n + 1) ys H' → Nx H') → Turn g tt te vl σ L u H Nx)
    (hd : ∀ n ys H, KM ys → SI n ys H → Qd H) :
    ∃ W : Nat → Nat → Hp → Prop, (∃ m, W 0 m (upd H1 L (.lst []))) ∧ ∀ i m H, W i m H →
      ((Itl K a).stop i H ∧ Qd H) ∨ ((Itl K a).go i H ∧ ∃ Nx : Hp → Prop, (∀ H', Nx H' → ∃ m', m' < m ∧ W (i + 1) m' H') ∧ ∀ x H', (Itl K a).yld i H x H' → g x (wipe σ vl) H' fun σ2 H2 => wipe σ2 vl = wipe σ vl ∧ tt σ2 H2 fun b H3 =>
        if b = true then te σ2 H3 fun y H4 => ∃ acc, H4 L = some (.lst acc) ∧ acc.length < sizeLine ∧ Nx (upd H4 L (.lst (acc ++ [y]))) else Nx H3) := by
  obtain ⟨hn, hM⟩ := hM
  have hl : items.length = xs.length := by
    have := repL_len hx
    rwa [List.length_map] at this
  have aM : a ∉ L :: ms := fun z => by
    rcases List.mem_cons.mp z with z | z
    · exact ne_of_none ha nl z
    · exact an z
  have hx1 : repL (L :: ms) H1 (items.map e) xs := repL_new nl hx
  refine ⟨fun i m H => m = xs.length - i ∧ i ≤ xs.length ∧ ∃ ys, SI i ys H ∧ filC body (items.drop i) ys KM, ⟨_, rfl, Nat.zero_le _, [], h0, hM⟩, ?_⟩
  rintro i m H ⟨rfl, hi', ys, T, q⟩
  have hA : H a = some (.lst xs) := kp i ys H T a _ aM ha
  by_cases hlt : i < xs.length
  · refine .inr ⟨⟨xs, xs[i], .inl (.inl hA), by simp [hlt]⟩, fun H' => i + 1 ≤ xs.length ∧ ∃ ys, SI (i + 1) ys H' ∧ filC body (items.drop (i + 1)) ys KM, fun H' p' => ⟨_, by omega, rfl, p'⟩, fun x H' y => ?_⟩
    obtain ⟨e1, y⟩ := y
    subst e1
    have hxi := y xs (.inl (.inl hA))
    have hit : items[i]? = some (items[i]'(by omega)) := List.getElem?_eq_getElem (by omega)
    rw [drop_cons' hit] at q
    obtain ⟨v, hv, rv⟩ := repL_get (repL_keep (kp i ys H' T) hx1) (j := i) (d := e (items[i]'(by omega))) (by rw [List.getElem?_map, hit]; rfl)
    rw [hxi] at hv
    have ev : x = v := Option.some.inj hv
    subst ev
    exact hs _ x i ys _ H' (by omega) T rv q _ (fun y H'' k T' => ⟨hlt, _, T', k⟩) fun H'' k T' => ⟨hlt, _, T', k⟩
  · refine .inl ⟨⟨xs, .inl (.inl hA), by omega⟩, ?_⟩
    rw [List.drop_of_length_le (by omega)] at q
    exact hd _ ys H q T
end
end Rx
namespace Rx
open PySem PySem.Spec PyProof.Rows L2
structure Drop (ms : List Addr) (L : Addr) (ms' : List Addr) : Prop where
  sub : ∀ a ∈ ms', a ∈ ms
  ex : ∀ a ∈ ms, a ∈ ms' ∨ a = L
theorem dr_here {L : Addr} {ms : List Addr} : Drop (L :: ms) L ms := ⟨fun _ h => List.mem_cons_of_mem _ h, fun a h => (List.mem_cons.mp h).elim .inr .inl⟩
section
variable {K : PySem.W.Frag} {ms ms' : List Addr} {ps : List PEn} {H0 H H' H1 : Hp} {L L' : Addr} {d d' : D} {ds : List D} {u x : V} {vs : List V}
theorem wd_dr (dr : Drop ms L ms') (hp : L ∉ ad ps) (w : Wd ms ps [] H0 H) : Wd ms' ps [] H0 H := wd_sub dr.sub (fun a h => (dr.ex a (w.pm a h)).elim id fun e => absurd (by rw [← e]; exact h) hp) w
theorem rep_dr (dr : Drop ms L ms') (h : rep ms H d u) : rep ms' H d u := rep_sub dr.sub h
theorem mo_rep_dr (dr : Drop ms L ms') (n : L ∉ ms') (m : MutO ms ps H0 H L d) : rep ms' H d (.ref L) := mo_rep n dr.sub m
mutual
def noM : D → Bool
  | .v _ => true
  | .lst _ => false
  | .tup ds => noMs ds
  | .ins _ _ ds => noMs ds
  | .dct _ _ => false
  | .dcT _ _ => false
def noMs : List D → Bool
  | [] => true
  | d :: ds => noM d && noMs ds
end
def isMo : Option HO → Prop
  | some (.lst _) => True
  | some (.dK _) => True
  | some (.dT _) => True
  | _ => False
theorem MutO.isMo (m : MutO ms ps H0 H L d) : isMo (H L) := by
  have h := m.val
  cases d with
  | lst ds =>
    rw [h.choose_spec.1]
    trivial
  | dct ks ds =>
    rw [h.choose_spec.1]
    trivial
  | dcT ks ds =>
    rw [h.choose_spec.1]
    trivial
  | v _ => exact h.elim
  | tup _ => exact h.elim
  | ins _ _ _ => exact h.elim
mutual
theorem rep_liftO (dr : Drop ms L ms') (hL : Rx.isMo (H L)) : ∀ (d : D) (u : V), noM d = true → rep ms' H d u → rep ms H d u
  | .v x, u, _, h => by
    simp only [rep] at h ⊢
    exact h
  | .lst ds, u, n, h => by
    simp only [noM] at n
    cases n
  | .dct _ ds, u, n, h => by
    simp only [noM] at n
    cases n
  | .dcT _ ds, u, n, h => by
    simp only [noM] at n
    cases n
  | .tup ds, u, n, h => by
    simp only [noM] at n
    simp only [rep] at h ⊢
    obtain ⟨p, us, e, np, hp, hl⟩ := h
    refine ⟨p, us, e, fun z => ?_, hp, repL_liftO dr hL ds us n hl⟩
    rcases dr.ex p z with z | z
    · exact np z
    · rw [← z, hp] at hL
      exact hL
  | .ins C ns ds, u, n, h => by
    simp only [noM] at n
    simp only [rep] at h ⊢
    obtain ⟨p, dx, us, e, np, hp, hn, hl⟩ := h
    refine ⟨p, dx, us, e, fun z => ?_, hp, hn, repL_liftO dr hL ds us n hl⟩
    rcases dr.ex p z with z | z
    · exact np z
    · rw [← z, hp] at hL
      exact hL
theorem repL_liftO (dr : Drop ms L ms') (hL : Rx.isMo (H L)) : ∀ (ds : List D) (us : List V), noMs ds = true → repL ms' H ds us → repL ms H ds us
  | [], us, _, h => by
    simp only [repL] at h ⊢
    exact h
  | d :: ds, us, n, h => by
    simp only [noMs, Bool.and_eq_true] at n
    simp only [repL] at h ⊢
    obtain ⟨u, ws, e, h1, h2⟩ := h
    exact ⟨u, ws, e, rep_liftO dr hL d u n.1 h1, repL_liftO dr hL ds ws n.2 h2⟩
end
theorem mo_len {α : Type} {e : α → D} {xs : List α} {P : Nat → Prop} (m : MutO ms ps H0 H L (.lst (xs.map e))) (k : P xs.length) : ∃ y n, [V.ref L] = [y] ∧ LenV K y H n ∧ P n := by
  obtain ⟨vs, hp, hr⟩ := m.val
  have hl := repL_len hr
  rw [List.length_map] at hl
  exact ⟨_, xs.length, rfl, .inl ⟨vs, .inl (.inl hp), hl⟩, k⟩
end
end Rx
namespace Rx
open PySem PySem.Spec PyProof.Rows L2
section
variable {K : PySem.W.Frag} {ms ms' : List Addr} {ps : List PEn} {H0 H H' H1 : Hp} {L L' : Addr} {d d' : D} {ds : List D} {u x : V} {vs : List V}
end
section
variable {α β S : Type} {K : PySem.W.Frag} {H1 H2 : Hp} {g : TG} {tt : TT} {te : TE} {vl : List Nat} {σ : L2.St} {Qd : Hp → Prop} {L : Addr}
end
end Rx
namespace Rx
open PySem PySem.Spec PyProof.Rows L2
section
variable {ms : List Addr} {H : Hp} {x y : V}
end
end Rx
namespace Rx
open PySem PySem.Spec PyProof.Rows L2
section
variable {K : PySem.W.Frag} {ms : List Addr} {H : Hp} {x y : V} {ds : List D} {vs : List V}
theorem rep_iterT {ds : List D} {P : Addr → Prop} (h : rep ms H (.tup ds) x) (k : ∀ a xs, x = .ref a → a ∉ ms → H a = some (.tup xs) → repL ms H ds xs → P a) : ∃ a, x = .ref a ∧ (∃ xs, SqT K H a xs) ∧ P a := by
  simp only [rep] at h
  obtain ⟨p, vs, e, n, hp, hr⟩ := h
  exact ⟨p, e, ⟨vs, .inl (.inl hp)⟩, k p vs e n hp hr⟩
theorem repL_take : ∀ (n : Nat) {ds : List D} {vs : List V}, repL ms H ds vs → repL ms H (ds.take n) (vs.take n)
  | 0, _, _, _ => by
    rw [List.take_zero, List.take_zero]
    exact repL_nil
  | n + 1, [], vs, h => by
    have e := repL_empty h
    subst e
    exact repL_nil
  | n + 1, d :: ds, vs, h => by
    obtain ⟨u, us, rfl, h1, h2⟩ := repL_uncons h
    exact repL_cons h1 (repL_take n h2)
theorem repL_drop : ∀ (n : Nat) {ds : List D} {vs : List V}, repL ms H ds vs → repL ms H (ds.drop n) (vs.drop n)
  | 0, _, _, h => h
  | n + 1, [], vs, h => by
    have e := repL_empty h
    subst e
    exact repL_nil
  | n + 1, d :: ds, vs, h => by
    obtain ⟨u, us, rfl, h1, h2⟩ := repL_uncons h
    exact repL_drop n h2
end
section
variable {α β S : Type} {K : PySem.W.Frag} {H1 : Hp} {g : TG} {tt : TT} {te : TE} {vl : List Nat} {σ : L2.St} {Qd : Hp → Prop} {L : Addr}
theorem lc_tupG {items : List α} {e : α → D} {ms : List Addr} {a : Addr} {xs : List V} {body : α → (β → Prop) → Prop} {KM : List β → Prop} (SI : Nat → List β → Hp → Prop) (an : a ∉ ms) (ha : H1 a = some (.tup xs)) (hx : repL ms H1 (items.map e) xs) (nl : H1 L = none)
    (kp : ∀ n ys H, SI n ys H → Keep (L :: ms) H1 H) (hM : items.length < 100000 ∧ mapC body items [] KM) (h0 : SI 0 [] (upd H1 L (.lst [])))
    (hs : ∀ (x : α) (u : V) (n : Nat) (ys : List β) (k : β → Prop) (H : Hp), n < 100000 → SI n ys H → rep (L :: ms) H (e x) u → body x k → ∀ Nx : Hp → Prop, (∀ y H', k y → SI (n + 1) (ys ++ [y]) H' → Nx H') → Turn g tt te vl σ L u H Nx)
    (hd : ∀ n ys H, KM ys → SI n ys H → Qd H) :
    ∃ W : Nat → Nat → Hp → Prop, (∃ m, W 0 m (upd H1 L (.lst []))) ∧ ∀ i m H, W i m H →
      ((Itt K a).stop i H ∧ Qd H) ∨ ((Itt K a).go i H ∧ ∃ Nx : Hp → Prop, (∀ H', Nx H' → ∃ m', m' < m ∧ W (i + 1) m' H') ∧ ∀ x H', (Itt K a).yld i H x H' → g x (wipe σ vl) H' fun σ2 H2 => wipe σ2 vl = wipe σ vl ∧ tt σ2 H2 fun b H3 =>
        if b = true then te σ2 H3 fun y H4 => ∃ acc, H4 L = some (.lst acc) ∧ acc.length < sizeLine ∧ Nx (upd H4 L (.lst (acc ++ [y]))) else Nx H3) := by
  obtain ⟨hn, hM⟩ := hM
  have hl : items.length = xs.length := by
    have := repL_len hx
    rwa [List.length_map] at this
  have aM : a ∉ L :: ms := fun z => by
    rcases List.mem_cons.mp z with z | z
    · exact ne_of_none ha nl z
    · exact an z
  have hx1 : repL (L :: ms) H1 (items.map e) xs := repL_new nl hx
  refine ⟨fun i m H => m = xs.length - i ∧ i ≤ xs.length ∧ ∃ ys, SI i ys H ∧ mapC body (items.drop i) ys KM, ⟨_, rfl, Nat.zero_le _, [], h0, hM⟩, ?_⟩
  rintro i m H ⟨rfl, hi', ys, T, q⟩
  have hA : H a = some (.tup xs) := kp i ys H T a _ aM ha
  by_cases hlt : i < xs.length
  · refine .inr ⟨⟨xs, xs[i], .inl (.inl hA), by simp [hlt]⟩, fun H' => i + 1 ≤ xs.length ∧ ∃ ys, SI (i + 1) ys H' ∧ mapC body (items.drop (i + 1)) ys KM, fun H' p' => ⟨_, by omega, rfl, p'⟩, fun x H' y => ?_⟩
    obtain ⟨e1, y⟩ := y
    subst e1
    have hxi := y xs (.inl (.inl hA))
    have hit : items[i]? = some (items[i]'(by omega)) := List.getElem?_eq_getElem (by omega)
    rw [drop_cons' hit] at q
    obtain ⟨v, hv, rv⟩ := repL_get (repL_keep (kp i ys H' T) hx1) (j := i) (d := e (items[i]'(by omega))) (by rw [List.getElem?_map, hit]; rfl)
    rw [hxi] at hv
    have ev : x = v := Option.some.inj hv
    subst ev
    exact hs _ x i ys _ H' (by omega) T rv q _ fun y H'' k T' => ⟨hlt, _, T', k⟩
  · refine .inl ⟨⟨xs, .inl (.inl hA), by omega⟩, ?_⟩
    rw [List.drop_of_length_le (by omega)] at q
    exact hd _ ys H q T
end
end Rx
namespace Rx
open PySem PySem.Spec PyProof.Rows L2
section
variable {X : Cx} {K : PySem.W.Frag}
theorem call_lenK (hK : X.K = K) : CallR X (.builtin "len") (fun xs H Q => ∃ x n, xs = [x] ∧ LenV K x H n ∧ Q (.int n) H) := by
  subst hK
  exact call_len
theorem call_isiK (hK : X.K = K) : CallR X (.builtin "isinstance") (rIsi K) := by
  subst hK
  exact call_isi
theorem call_list_ofK (hK : X.K = K) : CallR X (.type "list") (fun xs H Q => ∃ p ys, xs = [.ref p] ∧ (SqL K H p ys ∨ SqT K H p ys) ∧ ∀ l, H l = none → Q (.ref l) (upd H l (.lst ys))) := by
  subst hK
  exact call_list_of
theorem cr_allK (hK : X.K = K) (hc : X.calm = true) : CallR X (.builtin "all") (rAll K) := by
  subst hK
  exact cr_all hc
theorem op_eqDK (hK : X.K = K) (hu : X.A.units + 64 < cLine) : OpR X (compareOp .Eq) (rEqD K) := by
  subst hK
  exact op_eqD hu
end
end Rx
namespace Rx
open PySem PySem.Spec PyProof.Rows L2
section
variable {X : Cx} {K : PySem.W.Frag} {T name id : String} {o e : Expr} {es : List Expr} {r : V → List V → Hp → VK → Prop} {to : TE} {t : TA} {apos cpos : Pos}
theorem pe_bmK (hK : X.K = K) (pa : PlainAttrs T) (slot : Slot T name id) (hty : typeOf (.builtin id) = pure (.type "method_descriptor")) (hm : MtR X id r) (ho : PE X o to) (ha : PA X (e :: es) t)
    (hbase : attributeBase o name X.env (eval o X.env) = eval o X.env := by rfl)
    (hfew : ((backTo cpos (starEach (e :: es) X.env)).all (fun x => !x.1) && (backToKw cpos (keywordEach [] X.env)).all (fun x => x.1.isSome)
      && decide ((e :: es).length + ([] : List Keyword).length + (if ([] : List Keyword).isEmpty then 0 else 1) < 30)) = true := by rfl)
    (hline : (apos.endLine == cpos.line) = true := by rfl) (hs : starEach (e :: es) X.env = (false, eval e X.env) :: starEach es X.env := by rfl) (hplain : (backTo cpos (starEach es X.env)).any (·.1) = false := by rfl) :
    PE X (.Call (.Attribute o name apos) (e :: es) [] cpos) (tBM K T r to t) := by
  subst hK
  exact pe_bm pa slot hty hm ho ha hbase hfew hline hs hplain
end
end Rx
namespace Rx
open PySem PySem.Spec PyProof.Rows L2
section
variable {M : Model} {s : Shared} {K : PySem.W.Frag} {C : Addr}
theorem sub_non : PySem.W.subIn K (.type "NoneType") (.ref C) = some false := by
  show ((fastBuiltinMro "NoneType").map _) = _
  rw [show fastBuiltinMro "NoneType" = some [.type "NoneType", .type "object"] by decide +kernel]
  simp
theorem sub_bool : PySem.W.subIn K (.type "bool") (.ref C) = some false := by
  show ((fastBuiltinMro "bool").map _) = _
  rw [show fastBuiltinMro "bool" = some [.type "bool", .type "int", .type "object"] by decide +kernel]
  simp
theorem sub_int : PySem.W.subIn K (.type "int") (.ref C) = some false := by
  show ((fastBuiltinMro "int").map _) = _
  rw [show fastBuiltinMro "int" = some [.type "int", .type "object"] by decide +kernel]
  simp
theorem sub_str : PySem.W.subIn K (.type "str") (.ref C) = some false := by
  show ((fastBuiltinMro "str").map _) = _
  rw [show fastBuiltinMro "str" = some [.type "str", .type "object"] by decide +kernel]
  simp
theorem sub_list : PySem.W.subIn K (.type "list") (.ref C) = some false := by
  show ((fastBuiltinMro "list").map _) = _
  rw [show fastBuiltinMro "list" = some [.type "list", .type "object"] by decide +kernel]
  simp
theorem sub_tuple : PySem.W.subIn K (.type "tuple") (.ref C) = some false := by
  show ((fastBuiltinMro "tuple").map _) = _
  rw [show fastBuiltinMro "tuple" = some [.type "tuple", .type "object"] by decide +kernel]
  simp
theorem sub_dict : PySem.W.subIn K (.type "dict") (.ref C) = some false := by
  show ((fastBuiltinMro "dict").map _) = _
  rw [show fastBuiltinMro "dict" = some [.type "dict", .type "object"] by decide +kernel]
  simp
theorem sub_ty {H : Hp} {x : V} {T : String} (t : TyB K H x T) (nb : ∀ b, x ≠ .byt b) : PySem.W.subIn K (.type T) (.ref C) = some false := by
  cases t with
  | non => exact sub_non
  | bl b => exact sub_bool
  | int i => exact sub_int
  | str z => exact sub_str
  | byt b => exact absurd rfl (nb b)
  | lst h => exact sub_list
  | tup h => exact sub_tuple
  | dK h => exact sub_dict
end
section
variable {M : Model} {prog : Program} {w : World} {A : Around} {E : Value → Shared → Prop} {s : Shared} {K : PySem.W.Frag} {x C : Addr} {uy : Value} {ox : Obj} {od : Option Obj}
end
def noI : D → Bool
  | .v .non => true
  | .v (.bl _) => true
  | .v (.int _) => true
  | .v (.str _) => true
  | .v _ => false
  | .ins _ _ _ => false
  | .dcT _ _ => false
  | _ => true
theorem rep_TyB {K : PySem.W.Frag} {ms : List Addr} {H : Hp} {d : D} {u : V} (h : rep ms H d u) (n : noI d = true) : ∃ T, TyB K H u T ∧ (∀ b, u ≠ .byt b) ∧ TyX K H u (.type T) := by
  cases d with
  | v x =>
    obtain rfl := of_v h
    cases u <;> simp only [noI] at n
    · exact ⟨_, .non, (fun _ z => nomatch z), .base .non⟩
    · exact ⟨_, .bl _, (fun _ z => nomatch z), .base (.bl _)⟩
    · exact ⟨_, .int _, (fun _ z => nomatch z), .base (.int _)⟩
    · exact ⟨_, .str _, (fun _ z => nomatch z), .base (.str _)⟩
    all_goals cases n
  | lst ds =>
    simp only [rep] at h
    obtain ⟨p, vs, rfl, _, hp, _⟩ := h
    exact ⟨_, .lst (.inl (.inl hp)), (fun _ z => nomatch z), .base (.lst hp)⟩
  | tup ds =>
    simp only [rep] at h
    obtain ⟨p, vs, rfl, _, hp, _⟩ := h
    exact ⟨_, .tup (.inl (.inl hp)), (fun _ z => nomatch z), .base (.tup hp)⟩
  | dct ks ds =>
    simp only [rep] at h
    obtain ⟨p, vs, rfl, _, hp, _⟩ := h
    exact ⟨_, .dK hp, (fun _ z => nomatch z), .base (.dK hp)⟩
  | dcT _ _ => cases n
  | ins _ _ _ => cases n
section
variable {K : PySem.W.Frag} {ms : List Addr} {H : Hp} {x y : V} {d : D}
structure IsN (K : PySem.W.Frag) (C : Addr) : Prop where
  ic : PySem.W.isClsIn K C = true
  ty : PySem.W.typeIn K (.ref C) = some (.type "type")
theorem rep_isN2 {C : Addr} {P : Bool → Prop} (h : rep ms H d x) (n : noI d = true) (c : IsN K C) (k : P false) :
    ∃ (x' c : V) (t u : Value) (b : Bool), [x, .ref C] = [x', c] ∧ ClsV c u ∧ TyX K H x' t ∧ PySem.W.kitOne K t u = some b ∧ P b := by
  obtain ⟨T, ty, nb, tx⟩ := rep_TyB (K := K) h n
  refine ⟨x, _, .type T, .ref C, false, rfl, .own C, tx, ?_, k⟩
  · unfold PySem.W.kitOne
    rw [if_neg (by simp)]
    show (if ((PySem.W.clsIn K C).isSome && PySem.W.typeIn K (.ref C) == some (.type "type")) = true then PySem.W.subIn K (.type T) (.ref C) else none) = some false
    rw [sub_ty ty nb]
    have h1 := c.ic
    unfold PySem.W.isClsIn at h1
    rw [h1, c.ty]
    simp
end
end Rx
namespace Rx
open PySem PySem.Spec PyProof.Rows L2
section
variable {ms : List Addr} {ps : List PEn} {cs : List (Addr × List V)} {H0 H H' : Hp} {u : V}
theorem rep_dct0 {p : Addr} (w : Wd ms ps cs H0 H) (np : H p = none) (hp : H' p = some (.dK [])) : rep ms H' (.dct [] []) (.ref p) := by
  simp only [rep]
  exact ⟨p, [], rfl, fun z => w.tr p z np, hp, rfl, repL_nil⟩
end
end Rx
namespace Rx
open PySem PySem.Spec PyProof.Rows L2
section
variable {κ : Type} [DecidableEq κ]
end
theorem mergeK_nodup : ∀ {more : List (Key × V)} {acc : List (Key × V)}, ((acc ++ more).map (·.1)).Nodup → mergeK acc more = acc ++ more
  | [], acc, _ => by simp [mergeK]
  | q :: more, acc, h => by
    have n : q.1 ∉ acc.map (·.1) := by
      rw [List.map_append, List.nodup_append] at h
      exact fun z => h.2.2 q.1 z q.1 (by simp) rfl
    have e : putK acc q.1 q.2 = acc ++ [q] := by
      unfold putK
      rw [if_neg]
      intro z
      obtain ⟨w, hw, ew⟩ := List.any_eq_true.mp z
      exact n (List.mem_map.mpr ⟨w, hw, of_decide_eq_true ew⟩)
    show mergeK (putK acc q.1 q.2) more = _
    rw [e, mergeK_nodup (by rw [List.append_assoc]; exact h), List.append_assoc]
    rfl
section
variable {K : PySem.W.Frag} {ms : List Addr} {ps : List PEn} {H0 H H' H1 : Hp} {L : Addr} {d : D} {ds : List D} {u x y : V} {vs : List V} {ks : List Key} {k : Key}
theorem map_fst_zip' : ∀ {ks : List Key} {vs : List V}, ks.length = vs.length → (ks.zip vs).map (·.1) = ks
  | [], [], _ => rfl
  | k :: ks, v :: vs, h => by
    rw [List.zip_cons_cons, List.map_cons, map_fst_zip' (by simpa using h)]
  | [], _ :: _, h => by simp at h
  | _ :: _, [], h => by simp at h
theorem merge_zip (h : ks.length = vs.length) (nd : ks.Nodup) : mergeK [] (ks.zip vs) = ks.zip vs := by
  rw [mergeK_nodup (by rw [List.nil_append, map_fst_zip' h]; exact nd), List.nil_append]
theorem mo_nilD (w : Wd ms ps [] H0 H) (nl : H L = none) : MutO (L :: ms) ps H0 (upd H L (.dK [])) L (.dct [] []) :=
  mo_newD (ks := []) (vs := []) (ds := []) w nl rfl repL_nil
theorem mo_dK0 (m : MutO ms ps H0 H L (.dct [] [])) : H L = some (.dK []) := by
  obtain ⟨vs, h1, h2, _⟩ := m.val
  rw [h1]
  simp
theorem mo_setD (m : MutO ms ps H0 H L d) (hl : ks.length = vs.length) (r : repL ms H ds vs) : MutO ms ps H0 (upd H L (.dK (ks.zip vs))) L (.dct ks ds) :=
  ⟨m.im, m.hp, m.h0, vs, upd_same, hl, repL_put m.im r⟩
end
end Rx
namespace Rx
open PySem PySem.Spec PyProof.Rows L2
section
variable {X : Cx} {K : PySem.W.Frag}
end
end Rx
namespace Rx
theorem nin_of {α : Type} {ks : List α} {k : α} (h : (ks ++ [k]).Nodup) : k ∉ ks := fun z => by
  rw [List.nodup_append] at h
  exact h.2.2 k z k (by simp) rfl
end Rx
namespace Rx
open PySem PySem.Spec PyProof.Rows L2
section
variable {ms : List Addr} {ps : List PEn} {H0 H H' He : Hp} {p L C dx : Addr} {d : D} {u : V} {fs : List (Str × V)} {o : HO}
structure KpI (p : Addr) (He H : Hp) : Prop where
  kp : ∀ a o, a ≠ p → He a = some o → H a = some o
  gr : ∀ a, He a ≠ none → H a ≠ none
theorem ki_refl : KpI p H H := ⟨fun _ _ _ h => h, fun _ h => h⟩
theorem ki_wd (k : KpI p He H0) (w : Wd ms [] [] H0 H) : KpI p He H := ⟨fun a o n h => w.kp a o (by simp) (k.kp a o n h), fun a h => w.grow a (k.gr a h)⟩
theorem ki_put (k : KpI p He H0) (w : Wd ms [] [] H0 H) : KpI p He (upd H p o) := ⟨fun a o' n h => by
  rw [upd_ne n]
  exact (ki_wd k w).kp a o' n h, fun a h => by
  by_cases e : a = p
  · rw [e, upd_same]
    exact fun z => nomatch z
  · rw [upd_ne e]
    exact (ki_wd k w).gr a h⟩
theorem wd_at (w : Wd ms [] [] H0 H) : Wd ms [] [] (upd H p o) (upd H p o) := ⟨fun _ _ _ h => h, fun _ h => h, fun m h => by
  by_cases e : m = p
  · rw [e, upd_same]
    exact fun z => nomatch z
  · rw [upd_ne e]
    exact w.tr m h, fun _ h => absurd h List.not_mem_nil, fun _ h => absurd h List.not_mem_nil, fun _ h => absurd h List.not_mem_nil⟩
theorem at_put (hp : H p = some (.ins C dx fs)) (m : MutO ms ps H0 H L d) : upd H L o p = some (.ins C dx fs) := by
  rw [upd_ne (fun z => ?_)]
  · exact hp
  · have h := m.isMo
    rw [← z, hp] at h
    exact h
theorem putF_zip {f : Str} {v : V} : ∀ {ns : List Str} {us : List V}, ns.length = us.length → f ∉ ns → putF f v (ns.zip us) = (ns ++ [f]).zip (us ++ [v])
  | [], [], _, _ => by simp [putF]
  | [], _ :: _, h, _ => by simp at h
  | _ :: _, [], h, _ => by simp at h
  | n :: ns, u :: us, h, nn => by
    have e : ¬ n = f := fun z => nn (by rw [z]; exact List.mem_cons_self)
    have ih := putF_zip (f := f) (v := v) (ns := ns) (us := us) (by simpa using h) fun z => nn (List.mem_cons_of_mem _ z)
    simp only [List.zip_cons_cons, List.cons_append]
    unfold putF
    rw [if_neg e, ih]
theorem mem_new (nl : H p = none) (h : rep ms H d u) (ndx : H dx = none) {o1 o2 : HO} : rep (p :: ms) (upd (upd H dx o1) p o2) d u :=
  rep_map (fun a o n hp => ⟨fun z => by
    rcases List.mem_cons.mp z with z | z
    · exact ne_of_none hp nl z
    · exact n z, by rw [upd_ne (ne_of_none hp nl), upd_ne (ne_of_none hp ndx)]; exact hp⟩) d u h
theorem wd_new (w : Wd ms ps cs H0 H) (nl : H p = none) (ndx : H dx = none) {o1 o2 : HO} : Wd (p :: ms) [] [] (upd (upd H dx o1) p o2) (upd (upd H dx o1) p o2) := ⟨fun _ _ _ h => h, fun _ h => h, fun m h => by
  by_cases e : m = p
  · rw [e, upd_same]
    exact fun z => nomatch z
  · rw [upd_ne e]
    by_cases e2 : m = dx
    · rw [e2, upd_same]
      exact fun z => nomatch z
    · rw [upd_ne e2]
      exact w.tr m ((List.mem_cons.mp h).elim (fun z => absurd z e) id), fun _ h => absurd h List.not_mem_nil, fun _ h => absurd h List.not_mem_nil, fun _ h => absurd h List.not_mem_nil⟩
theorem ext_new (k : KpI p (upd (upd H dx o1) p o2) H') (nl : H p = none) (ndx : H dx = none) : Ret [] H H' := ⟨fun a o _ h => k.kp a o (ne_of_none h nl) (by rw [upd_ne (ne_of_none h nl), upd_ne (ne_of_none h ndx)]; exact h), fun _ z => absurd z List.not_mem_nil, fun a h => k.gr a (by
  by_cases e : a = p
  · rw [e, upd_same]
    exact fun z => nomatch z
  · rw [upd_ne e]
    by_cases e2 : a = dx
    · rw [e2, upd_same]
      exact fun z => nomatch z
    · rw [upd_ne e2]
      exact h)⟩
theorem rep_insW (w : Wd ms ps cs H0 H) (np : H p = none) {ns : List Str} {us : List V} {ds : List D} (hp : H' p = some (.ins C dx (ns.zip us))) (hl : ns.length = us.length) (hr : repL (p :: ms) H' ds us) : rep ms H' (.ins C ns ds) (.ref p) := by
  simp only [rep]
  exact ⟨p, dx, us, rfl, fun z => w.tr p z np, hp, hl, repL_weak hr⟩
end
end Rx
namespace Rx
open PySem PySem.Spec PyProof.Rows L2
section
variable {K : PySem.W.Frag} {x qual : Str} {params : Arguments} {body : List Stmt} {scope : Scope} {dvs : List V} {f : Addr} {fd : FuncData} {ps : List Str}
end
end Rx
namespace Rx
open PySem PySem.Spec PyProof.Rows L2
section
variable {X : Cx} {K : PySem.W.Frag} {w : World} {d : Addr}
end
end Rx
namespace Rx
open PySem PySem.Spec PyProof.Rows L2
section
variable {α β : Type} {K : PySem.W.Frag} {H1 H2 : Hp} {g : TG} {tt : TT} {te : TE} {vl : List Nat} {σ : L2.St} {Qd : Hp → Prop} {L : Addr}
end
section
variable {α S : Type} {K : PySem.W.Frag} {H1 : Hp} {g : TG} {tb : TS} {D' : Ends} {σ : L2.St}
end
section
variable {X : L2.Cx} {a b c e : PySem.Expr} {ta : TA}
end
section
variable {X : L2.Cx} {e : PySem.Expr} {te : TE}
end
section
variable {X : L2.Cx} {K : PySem.W.Frag} {ms : List Addr} {H : Hp} {u x : V}
end
section
variable {K : PySem.W.Frag} {ms : List Addr} {ps : List PEn} {H0 H H' H1 : Hp} {L : Addr} {d : D} {ds : List D} {u x y : V} {vs : List V} {ks : List Key} {k : Key}
end
end Rx
namespace Rx
open PySem PySem.Spec PyProof.Rows L2
section
variable {K : PySem.W.Frag} {ms : List Addr} {ps : List PEn} {H0 H : Hp} {x : V}
theorem rep_iterE {ds : List D} {P : Addr → Prop} (h : rep ms H (.lst ds) x) (k : ∀ a xs, x = .ref a → a ∉ ms → H a = some (.lst xs) → repL ms H ds xs → P a) : ∃ (a : Addr) (xs : List V), [x] = [.ref a] ∧ SqL K H a xs ∧ P a := by
  simp only [rep] at h
  obtain ⟨p, vs, e, n, hp, hr⟩ := h
  exact ⟨p, vs, by rw [e], .inl (.inl hp), k p vs e n hp hr⟩
end
section
variable {α S : Type} {K : PySem.W.Frag} {H1 : Hp} {g : TG} {tb : TS} {D' : Ends} {σ : L2.St}
theorem rep_pair {ms : List Addr} {H H2 : Hp} {T : Addr} {d1 d2 : D} {v1 v2 : V} (tr : ∀ m ∈ ms, H m ≠ none) (nT : H T = none) (e : H2 = upd H T (.tup [v1, v2])) (h1 : rep ms H d1 v1) (h2 : rep ms H d2 v2) : rep ms H2 (.tup [d1, d2]) (.ref T) := by
  subst e
  simp only [rep]
  refine ⟨T, [v1, v2], rfl, fun z => tr T z nT, upd_same, ?_⟩
  exact repL_ext (Ext.new nT) (repL_cons h1 (repL_cons h2 repL_nil))
theorem for_enumG {items : List α} {e : α → D} {ms : List Addr} {a : Addr} {xs : List V} {body : (Int × α) → S → (S → Prop) → Prop} {KM : S → Prop} (SI : S → L2.St → Hp → Prop) (s0 : S) (an : a ∉ ms) (ha : H1 a = some (.lst xs)) (hx : repL ms H1 (items.map e) xs)
    (kp : ∀ s σ H, SI s σ H → Keep ms H1 H) (tr : ∀ s σ H, SI s σ H → ∀ m ∈ ms, H m ≠ none) (hM : forC body ((rangeI 0 (items.length : Int)).zip items) s0 KM) (h0 : SI s0 σ H1)
    (hs : ∀ (x : Int × α) (u : V) (s : S) (k : S → Prop) (σ : L2.St) (H H2 : Hp), SI s σ H → Ext H H2 → rep ms H2 (.tup [.v (.int x.1), e x.2]) u → body x s k → ∀ Nx : L2.St → Hp → Prop, (∀ s' σ' H', k s' → SI s' σ' H' → Nx σ' H') →
      g u σ H2 fun σ2 H2 => tb { D' with nx := Nx, ct := Nx, bk := D'.nx } σ2 H2)
    (hd : ∀ s σ H, KM s → SI s σ H → D'.nx σ H) :
    ∃ W : Nat → Nat → L2.St → Hp → Prop, (∃ m, W 0 m σ H1) ∧ ∀ i m σ H, W i m σ H →
      ((Ite K a).stop i H ∧ D'.nx σ H) ∨ ((Ite K a).go i H ∧ ∃ Nx : L2.St → Hp → Prop, (∀ σ' H', Nx σ' H' → ∃ m', m' < m ∧ W (i + 1) m' σ' H') ∧ ∀ x H', (Ite K a).yld i H x H' → g x σ H' fun σ2 H2 => tb { D' with nx := Nx, ct := Nx, bk := D'.nx } σ2 H2) := by
  have hl : items.length = xs.length := by
    have := repL_len hx
    rwa [List.length_map] at this
  have rl : (rangeI 0 (items.length : Int)).length = items.length := by rw [rangeI_len]; omega
  have zl : ((rangeI 0 (items.length : Int)).zip items).length = xs.length := by rw [List.length_zip, rl, hl, Nat.min_self]
  refine for_it (walk_enum (K := K) (a := a) (xs := xs)) (D := D') (fun i σ H => ∃ s, SI s σ H ∧ forC body (((rangeI 0 (items.length : Int)).zip items).drop i) s KM) ⟨s0, h0, hM⟩ (fun i σ H _ ⟨s, si, _⟩ => .inl (.inl (kp s σ H si a _ an ha))) (fun i u σ H H' hi ⟨s, si, q⟩ y => ?_) (fun σ H ⟨s, si, q⟩ => ?_)
  · obtain ⟨T, x1, x2, rfl, nT, eH, e1, e2⟩ := y
    have hit : items[i]? = some (items[i]'(by omega)) := List.getElem?_eq_getElem (by omega)
    have hz : ((rangeI 0 (items.length : Int)).zip items)[i]? = some ((i : Int), items[i]'(by omega)) := by
      rw [List.getElem?_zip_eq_some]
      exact ⟨by rw [rangeI_get (by omega)]; congr 1; omega, hit⟩
    rw [drop_cons' hz] at q
    obtain ⟨v, hv, rv⟩ := repL_get (repL_keep (kp s σ H si) hx) (j := i) (d := e (items[i]'(by omega))) (by rw [List.getElem?_map, hit]; rfl)
    have e2 : xs[i]? = some x2 := e2
    rw [e2] at hv
    have ev : x2 = v := Option.some.inj hv
    subst ev
    have ev1 : V.int (i : Nat) = x1 := Option.some.inj e1
    subst ev1
    have ex : Ext H H' := by rw [eH]; exact Ext.new nT
    exact hs ((i : Int), items[i]'(by omega)) (.ref T) s _ σ H H' si ex (rep_pair (tr s σ H si) nT eH rep_v rv) q _ fun s' σ' H'' hk si2 => ⟨s', si2, hk⟩
  · rw [List.drop_of_length_le (by omega)] at q
    exact hd s σ H q si
end
end Rx
namespace Rx
open PySem PySem.Spec PyProof.Rows L2
section
variable {α κ : Type} [DecidableEq κ]
def getD (m : List (κ × α)) (k : κ) : Option α := (m.find? fun q => decide (q.1 = k)).map (·.2)
end
section
variable {α : Type} {K : PySem.W.Frag} {ms : List Addr} {ps : List PEn} {H0 H : Hp} {L : Addr} {x : V} {e : α → D}
end
section
variable {K : PySem.W.Frag} {ms : List Addr} {H : Hp} {x : V}
end
end Rx
namespace Rx
open PySem PySem.Spec PyProof.Rows L2
theorem units65 {k : Nat} {A : Around} (r : Room k A) : A.units + 65 < cLine := by
  have := r.un
  omega
def tyN : D → String
  | .v (.bl _) => "bool"
  | .v (.int _) => "int"
  | .v (.str _) => "str"
  | .v _ => "NoneType"
  | .lst _ => "list"
  | .tup _ => "tuple"
  | .dct _ _ => "dict"
  | .dcT _ _ => "dict"
  | .ins _ _ _ => "object"
def tyOk : D → Bool
  | .v .non => true
  | .v (.bl _) => true
  | .v (.int _) => true
  | .v (.str _) => true
  | .v _ => false
  | .ins _ _ _ => false
  | _ => true
section
variable {K : PySem.W.Frag} {ms : List Addr} {ps : List PEn} {H0 H : Hp} {d : D} {u x : V}
theorem rep_TyN (h : rep ms H d u) (n : tyOk d = true) {T : String} (e : tyN d = T) : TyX K H u (.type T) := by
  subst e
  cases d with
  | v x =>
    obtain rfl := of_v h
    cases u <;> simp only [tyOk] at n
    · exact .base .non
    · exact .base (.bl _)
    · exact .base (.int _)
    · exact .base (.str _)
    all_goals cases n
  | lst ds =>
    simp only [rep] at h
    obtain ⟨p, vs, rfl, _, hp, _⟩ := h
    exact .base (.lst hp)
  | tup ds =>
    simp only [rep] at h
    obtain ⟨p, vs, rfl, _, hp, _⟩ := h
    exact .base (.tup hp)
  | dct ks ds =>
    simp only [rep] at h
    obtain ⟨p, vs, rfl, _, hp, _⟩ := h
    exact .base (.dK hp)
  | dcT ks ds =>
    simp only [rep] at h
    obtain ⟨p, vs, rfl, _, hp, _⟩ := h
    exact .base (.dT hp)
  | ins _ _ _ => cases n
theorem call_isiTK {X : Cx} (hK : X.K = K) : CallR X (.builtin "isinstance") (rIsiT K) := by
  subst hK
  exact call_isiT
theorem rep_isi1 {a b : String} {r : Bool} {P : Bool → Prop} (h : rep ms H d u) (n : tyOk d = true) (e : tyN d = a) (k : kitB a b = some r) (q : P r) :
    ∃ (x' c : V) (t u' : Value) (b' : Bool), [u, .ty b] = [x', c] ∧ ClsV c u' ∧ TyX K H x' t ∧ PySem.W.kitOne K t u' = some b' ∧ P b' :=
  ⟨u, .ty b, .type a, .type b, r, rfl, .ty b, rep_TyN h n e, kit_ty k, q⟩
theorem rep_isi2 {a b c : String} {r1 r2 : Bool} {tp : Addr} {P : Bool → Prop} (h : rep ms H d u) (n : tyOk d = true) (e : tyN d = a) (ht : H tp = some (.tup [.ty b, .ty c])) (k1 : kitB a b = some r1) (k2 : kitB a c = some r2) (q : P (r1 || r2)) :
    ∃ (x : V) (tp' : Addr) (cs : List V) (t : Value) (us : List Value) (b' : Bool), [u, .ref tp] = [x, .ref tp'] ∧ H tp' = some (.tup cs) ∧ Paired ClsV cs us ∧ TyX K H x t ∧ PySem.W.kitAny K t us = some b' ∧ P b' := by
  refine ⟨u, tp, [.ty b, .ty c], .type a, [.type b, .type c], r1 || r2, rfl, ht, .cons (.ty b) (.cons (.ty c) .nil), rep_TyN h n e, ?_, q⟩
  refine kitAny_cons (kit_ty k1) (fun e1 => ?_) (fun e1 => by rw [e1]; rfl)
  refine kitAny_cons (kit_ty k2) (fun e2 => ?_) (fun e2 => by rw [e2, Bool.or_true])
  rw [e1, e2]
  rfl
theorem rep_lenT {ds : List D} {n : Nat} {P : Nat → Prop} (h : rep ms H (.tup ds) x) (hn : ds.length = n) (q : P n) : ∃ (y : V) (m : Nat), [x] = [y] ∧ LenV K y H m ∧ P m := by
  simp only [rep] at h
  obtain ⟨p, vs, rfl, _, hp, hr⟩ := h
  exact ⟨_, vs.length, rfl, .inr ⟨vs, .inl (.inl hp), rfl⟩, by rw [← repL_len hr, hn]; exact q⟩
end
section
variable {α : Type} {K : PySem.W.Frag} {ms : List Addr} {ps : List PEn} {H0 H : Hp} {L : Addr} {x kx : V} {e : α → D}
end
section
variable {K : PySem.W.Frag} {ms : List Addr} {ps : List PEn} {H0 H : Hp} {x : V}
theorem call_tuple_ofK {X : Cx} (hK : X.K = K) : CallR X (.type "tuple") (fun xs H Q => ∃ p ys, xs = [.ref p] ∧ ((SqL K H p ys ∧ ∀ l, H l = none → Q (.ref l) (upd H l (.tup ys))) ∨ (SqT K H p ys ∧ Q (.ref p) H))) := by
  subst hK
  exact call_tuple_of
theorem rep_tupOf {ds : List D} {P : List V → Addr → Prop} {R : Addr → Prop} (h : rep ms H (.lst ds) x) (q : ∀ ys, repL ms H ds ys → ∀ l, H l = none → P ys l) : ∃ p ys, [x] = [V.ref p] ∧ ((SqL K H p ys ∧ ∀ l, H l = none → P ys l) ∨ (SqT K H p ys ∧ R p)) := by
  simp only [rep] at h
  obtain ⟨p, vs, rfl, _, hp, hr⟩ := h
  exact ⟨p, vs, rfl, .inl ⟨.inl (.inl hp), q vs hr⟩⟩
end
end Rx
namespace Rx
open PySem PySem.Spec PyProof.Rows L2
section
variable {prog : Program} {w : World} {A : Around} {E : Value → Shared → Prop} {s : Shared}
end
section
variable {prog : Program} {w : World} {A : Around} {E : Value → Shared → Prop} {s : Shared}
end
section
variable {K : PySem.W.Frag} {ms : List Addr} {H : Hp} {x : V}
end
section
variable {α β : Type} {K : PySem.W.Frag} {H1 : Hp} {g : TG} {tt : TT} {te : TE} {vl : List Nat} {σ : L2.St} {Qd : Hp → Prop} {L : Addr}
end
end Rx
namespace Rx
open PySem PySem.Spec PyProof.Rows L2
section
variable {K : PySem.W.Frag} {ms : List Addr} {ps : List PEn} {H0 H : Hp} {L : Addr} {u : V}
theorem mo_insU {α : Type} {e : α → D} {xs : List α} {i : Int} {P : Addr → List V → Int → V → Prop} (m : MutO ms ps H0 H L (.lst (xs.map e))) (hl : xs.length < 16777216 ∧ 0 ≤ i ∧ i < 2 ^ 63) (k : ∀ vs, repL ms H (xs.map e) vs → P L vs i u) :
    ∃ (l : Addr) (zs : List V) (j : Int) (y : V), V.ref L = .ref l ∧ [V.int i, u] = [.int j, y] ∧ H l = some (.lst zs) ∧ zs.length < sizeLine ∧ 0 ≤ j ∧ j < 2 ^ 63 ∧ P l zs j y := by
  obtain ⟨vs, h1, h2⟩ := m.val
  refine ⟨L, vs, i, u, rfl, rfl, h1, ?_, hl.2.1, hl.2.2, k vs h2⟩
  rw [← repL_len h2, sizeLine_eq, List.length_map]
  exact hl.1
theorem repL_ins {α : Type} {e : α → D} {xs : List α} {y : α} {vs : List V} (i : Nat) (r : repL ms H (xs.map e) vs) (h : rep ms H (e y) u) : repL ms H ((xs.take i ++ [y] ++ xs.drop i).map e) (vs.take i ++ [u] ++ vs.drop i) := by
  rw [List.map_append, List.map_append, List.map_take, List.map_drop]
  exact repL_app (repL_app (repL_take _ r) (repL_one h)) (repL_drop _ r)
end
end Rx
namespace Rx
open PySem PySem.Spec PyProof.Rows L2
section
variable {X : Cx}
variable {n : Nat} {C f : Addr} {fd : FuncData} {ps : List Str} {sp : Sp}
end
end Rx
namespace PySem
open Sem (wp)
open AutoSeq1 (wpAny_loadPart')
theorem meets_enum_tup (t : Addr) (items : Array Value) :
    Meets (Builtin.«enumerate.__new__» ⟨[.type "enumerate", .ref t], []⟩) (fun _ R s => s.heap.IsTuple t items ∧
      R (.ok (.ret (.ref (s.heap.push { cls := .type "tuple_iterator", data := .fields #[.ref t, .int 0 0] }).objs.size)))
        { s with heap := (s.heap.push { cls := .type "tuple_iterator", data := .fields #[.ref t, .int 0 0] }).push { cls := .type "enumerate", data := .fields #[.none, .bool false, .ref s.heap.objs.size, rawInt 0, .none, .none] } }) :=
  .of_wp fun prog w A R s h => by
    obtain ⟨hp, g, d, tk, os⟩ := s; obtain ⟨h1, h⟩ := h
    have hsub := sub_enumerate
    have q1 : ∀ {A' : Around} {E : Value → Shared → Prop} {Q : Value → Shared → Prop}, Q (.ref hp.objs.size) ⟨hp.push { cls := .type "tuple_iterator", data := .fields #[.ref t, .int 0 0] }, g, d, tk, os⟩ → wpAny (model prog w) A' (pyIter (.ref t)) Q E ⟨hp, g, d, tk, os⟩ :=
      fun q => (begins_tuple t items).iter prog w _ _ ⟨hp, g, d, tk, os⟩ _ h1 q
    wp_walk using q1
    refine wpAny_stack_any fun st => wpAny_pure ?_
    split
    · rename_i c _ _ _ _ _
      cases (c == Value.type "enumerate")
      · wp_walk using q1
        exact ⟨_, rfl, h⟩
      · wp_walk using q1
        exact ⟨_, rfl, h⟩
    · wp_walk using q1
      exact ⟨_, rfl, h⟩
section
variable {prog : Program} {w : World} {A : Around} {E : Value → Shared → Prop} {s : Shared}
theorem call_enum_tup {t : Addr} {items : Array Value} {Q : Value → Shared → Prop} (hL : s.heap.IsTuple t items)
    (h : ∀ h', IsEnum h' (s.heap.objs.size + 1) s.heap.objs.size 0 .none → h'.IsTupleIter s.heap.objs.size t 0 → h'.objs.size = s.heap.objs.size + 2 →
      (∀ b o, s.heap.get? b = some o → h'.get? b = some o) → Q (.ref (s.heap.objs.size + 1)) { s with heap := h' }) :
    wpAny (model prog w) A (call (.type "enumerate") [.ref t]) Q E s := by
  refine callType_new F.called_enumerate (by decide) (F.typeCall_enumerate_1 _) (F.newCall_enumerate_1 _) (fun obj => F.args_object_init_2 obj _) F.entry_enumerate_new
    (meets_enum_tup t items) ⟨hL, ?_⟩
  have hz : (s.heap.push { cls := .type "tuple_iterator", data := .fields #[.ref t, .int 0 0] }).objs.size = s.heap.objs.size + 1 := Heap.size_push ..
  show _ ∧ _
  rw [hz]
  have he : IsEnum ((s.heap.push { cls := .type "tuple_iterator", data := .fields #[.ref t, .int 0 0] }).push
      { cls := .type "enumerate", data := .fields #[.none, .bool false, .ref s.heap.objs.size, rawInt 0, .none, .none] }) (s.heap.objs.size + 1) s.heap.objs.size 0 .none := by
    have := Heap.get?_push_size (s.heap.push { cls := .type "tuple_iterator", data := .fields #[.ref t, .int 0 0] })
      (o := { cls := .type "enumerate", data := .fields #[.none, .bool false, .ref s.heap.objs.size, rawInt 0, .none, .none] }) rfl
    rw [hz] at this; exact this
  refine ⟨⟨_, he, rfl⟩, h _ he ⟨_, Heap.get?_push_of_some _ (Heap.get?_push_size _ rfl), rfl, rfl⟩ (by rw [Heap.size_push, hz]) fun b o x => Heap.get?_push_of_some _ (Heap.get?_push_of_some _ x)⟩
end
end PySem
namespace Rx
open PySem PySem.Spec PyProof.Rows L2
def IteT (K : PySem.W.Frag) (a : Addr) : It :=
  ⟨fun i H => ∃ (xs : List V) (x : V), SqT K H a xs ∧ xs[i]? = some x, fun i H v H' => ∃ T x, v = .ref T ∧ H T = none ∧ H' = upd H T (.tup [.int (i : Nat), x]) ∧ ∀ xs, SqT K H a xs → xs[i]? = some x, fun i H => ∃ xs : List V, SqT K H a xs ∧ xs.length ≤ i⟩
theorem turn_enumT {P : Program} {w : World} {K : PySem.W.Frag} {elts : List Expr} {kk : Nat} {tpos : Pos} (a e it : Addr) (hei : e ≠ it) (hai : a ≠ it) :
    L2.Turn P w K (.Tuple elts kk tpos) (IteT K a) [e, it] e (fun i h => (∃ old, IsEnum h e it ((i : Nat) : Int) old) ∧ h.IsTupleIter it a i) where
  mem := by simp
  obj := fun i h st b hb => by
    obtain ⟨⟨old, he⟩, ⟨o, ho, hc, hd⟩⟩ := st
    have e' : b = e ∨ b = it := by simpa using hb
    rcases e' with z | z
    · rw [z]; exact ⟨_, he, fun v q => nomatch q⟩
    · rw [z]; exact ⟨o, ho, fun v q => by rw [hd] at q; cases q⟩
  keep := fun i h h' st k => let ⟨⟨old, he⟩, hi⟩ := st; ⟨⟨old, k e (by simp) _ he⟩, hi.at fun o q => k it (by simp) o q⟩
  item := by
    intro X hP hw hK hc i pins s σ H E I hf st hg
    subst hP hw hK
    obtain ⟨⟨old, he⟩, hit⟩ := st
    obtain ⟨xs, x, hq, hx⟩ := hg
    obtain ⟨its, rv, p, hz⟩ := I.tuple hq
    obtain ⟨u, hu, ru⟩ := rv.get hx
    have hel : e < s.heap.objs.size := Heap.lt_size he
    have hil : it < s.heap.objs.size := by obtain ⟨_, q, _⟩ := hit; exact Heap.lt_size q
    have hea : e ≠ a := fun z => by
      obtain ⟨o, ho, hc', _⟩ := p
      rw [← z, he] at ho
      cases ho
      simp at hc'
    refine wpAny_pyNext_enum_itemD (Draws.tuple (A := X.A.in1) (I.ok.hd hc) it a hai its.toArray) he ⟨hit, p⟩ (by
      have := rv.length
      have := (List.getElem?_eq_some_iff.mp hx).1
      rw [List.size_toArray]
      omega) hei (by simp [hei, hea]) fun y h' tk hP ho hit' hT hsz hk => ?_
    have ey : y = u := by
      have h1 : its[i]? = some y := by simpa using hP
      rw [hu] at h1
      exact (Option.some.inj h1).symm
    subst ey
    refine ⟨_, rfl, wpAny_letOwnedTupleGo_enum (s := { s with heap := h', toks := tk + 1 }) ho fun h'' he' sb => ?_⟩
    have hT2 : h''.get? s.heap.objs.size = some { cls := .type "tuple", data := .seq #[.int i tk, y] } := (sb.2 _ (Nat.ne_of_gt hel)).trans hT
    have new : ObjOk X.prog X.w (upd H s.heap.objs.size (.tup [.int (i : Nat), x])) h'' s.heap.objs.size (.tup [.int (i : Nat), x]) :=
      ⟨by show 2 ≤ sizeLine; decide, [.int i tk, y], .cons ⟨_, rfl⟩ (.cons ru .nil), ⟨_, hT2, rfl, _, rfl⟩⟩
    have I1 : Inv X pins σ (upd H s.heap.objs.size (.tup [.int (i : Nat), x])) { s with heap := h'', toks := tk + 1 } :=
      I.turnedNew (ch := [e, it]) (fun b ob hb q => (sb.2 b (fun z => hb (by simp [z]))).trans (hk b ob (fun z => hb (by simp [z])) (fun z => hb (by simp [z])) q)) hf (Nat.le_refl _) new
    refine ⟨.ref s.heap.objs.size, _, I1, rfl, ⟨_, x, rfl, I.hok.fresh (Nat.le_refl _), rfl, fun ys hy => by rw [I.tuple_inj hy hq]; exact hx⟩, ⟨⟨y, ?_⟩, hit'.1.at fun o q => (sb.2 it (Ne.symm hei)).trans q⟩, fun b hb => ?_⟩
    · have e1 : ((i + 1 : Nat) : Int) = (i : Int) + 1 := by omega
      rw [e1]; exact he'
    · have hb' : b < s.heap.objs.size := by
        have e' : b = e ∨ b = it := by simpa using hb
        rcases e' with z | z
        · rw [z]; exact hel
        · rw [z]; exact hil
      rw [upd_ne (Nat.ne_of_lt hb')]
      exact (hf b hb).1
  done := by
    intro X hP hw hK hc i pins s σ H E I hf st hg
    subst hP hw hK
    obtain ⟨⟨old, he⟩, hit⟩ := st
    obtain ⟨xs, hq, hx⟩ := hg
    obtain ⟨its, rv, p, hz⟩ := I.tuple hq
    obtain ⟨f0, f1, f2, f3, f4, f5⟩ := hf it (by simp)
    have hl := rv.length
    have D : Draws X.prog X.w X.A.in1 it [it, a] i (fun i v => its.toArray[i]? = some v) (fun j h => j = i ∧ h.IsTupleIter it a i ∧ h.IsTuple a its.toArray) := {
      live := fun _ _ st => let ⟨o, ho, _⟩ := st.2.1; ⟨o, ho⟩
      frame := fun _ _ _ st hk => ⟨st.1, st.2.1.at fun o e => hk it (by simp) o e, st.2.2.at fun o e => hk a (by simp) o e⟩
      item := fun j s Q E hj st hQ => absurd hj (by rw [st.1]; exact Nat.lt_irrefl _)
      done := fun s Q E st hE => wpAny_nextOf_tuple_end (I.ok.hd hc) st.2.1 st.2.2 (by simp; omega) hE }
    refine wpAny_pyNext_enum_endD D he ⟨rfl, hit, p⟩ fun h' eb => ?_
    exact ⟨rfl, I.turned (t' := s.toks) (fun b o hb q => eb b o hb q) f0 f1 f3 f4 f5⟩
  self := fun A i s Q E st h => let ⟨⟨_, he⟩, _⟩ := st; wpAny_pyIter_enum he h
section
variable {K : PySem.W.Frag} {a : Addr} {xs : List V}
theorem walk_enumT : L2.Walk (IteT K a) xs.length (fun H => SqT K H a xs) (YPair (fun i => some (.int (i : Nat))) (fun i => xs[i]?)) := by
  refine ⟨fun i _ hi q => ⟨xs, xs[i], q, by simp [hi]⟩, fun _ q => ⟨xs, q, Nat.le_refl _⟩, fun i H v H' _ q y => ?_⟩
  obtain ⟨T, x, h1, h2, h3, h4⟩ := y
  exact ⟨T, .int (i : Nat), x, h1, h2, h3, rfl, h4 xs q⟩
end
section
variable {α S : Type} {K : PySem.W.Frag} {H1 : Hp} {g : TG} {tb : TS} {D' : Ends} {σ : L2.St}
end
section
variable {K : PySem.W.Frag} {ms : List Addr} {ps : List PEn} {H0 H : Hp} {x : V}
end
theorem rep_isNL {α : Type} {e : α → D} {ms : List Addr} {H : Hp} {m : Option α} {u : V} (he : ∀ y, ∃ ds, e y = .lst ds) (h : rep ms H (encO e m) u) : decide (u = .non) = m.isNone := by
  cases m with
  | none =>
    rw [of_v h]
    rfl
  | some y =>
    obtain ⟨ds, ed⟩ := he y
    have h' : rep ms H (e y) u := h
    rw [ed] at h'
    simp only [rep] at h'
    obtain ⟨p, _, e1, _⟩ := h'
    rw [e1]
    rfl
theorem rep_isSomeL {α : Type} {e : α → D} {ms : List Addr} {H : Hp} {m : Option α} {u : V} (he : ∀ y, ∃ ds, e y = .lst ds) (h : rep ms H (encO e m) u) : (!decide (u = .non)) = m.isSome := by
  rw [rep_isNL he h]
  cases m <;> rfl
theorem mo_dyn {α : Type} {e : α → D} {xs : List α} {ms : List Addr} {ps : List PEn} {H0 H : Hp} {L : Addr} (m : MutO ms ps H0 H L (.lst (xs.map e))) : MutO ms ps H0 H L (.lst ((xs.map e).map fun y_ : D => y_)) := by
  rw [List.map_id']
  exact m
end Rx
namespace Rx
open PySem PySem.Spec PyProof.Rows L2
section
variable {K : PySem.W.Frag} {ms ms' : List Addr} {ps : List PEn} {H0 H H' H1 : Hp} {L L' : Addr} {d d' : D} {ds : List D} {u x : V} {vs : List V}
theorem rep_lstAt (h : rep ms H (.lst ds) u) : ∃ (L : Addr) (vs : List V), u = .ref L ∧ L ∉ ms ∧ H L = some (.lst vs) ∧ repL ms H ds vs := by
  simp only [rep] at h
  obtain ⟨p, vs, e, np, hp, hl⟩ := h
  exact ⟨p, vs, e, np, hp, hl⟩
theorem rep_tupSame {R : Addr → Prop} {P : List V → Addr → Prop} (h : rep ms H (.tup ds) x) (q : ∀ p, x = .ref p → rep ms H (.tup ds) (.ref p) → R p) : ∃ p ys, [x] = [V.ref p] ∧ ((SqL K H p ys ∧ ∀ l, H l = none → P ys l) ∨ (SqT K H p ys ∧ R p)) := by
  have h0 := h
  simp only [rep] at h
  obtain ⟨p, vs, rfl, _, hp, hr⟩ := h
  exact ⟨p, vs, rfl, .inr ⟨.inl (.inl hp), q p rfl h0⟩⟩
end
section
variable {K : PySem.W.Frag} {X : Cx} {o : PySem.Expr} {to : TE} {name : Str} {apos cpos : Pos} {T id : String} {r : V → List V → Hp → VK → Prop}
end
section
variable {K : PySem.W.Frag} {X : Cx} {C g : Addr} {CX : CXT} {k : Nat} {sp : Sp} {E : XK} {fe e : PySem.Expr} {es : List PySem.Expr} {tf : TE} {t : TA} {pos : Pos} {fd : FuncData} {ps : List Str}
end
end Rx
namespace PySem.W
open Lean Elab Tactic Meta PySem PySem.Calls PyProof.Rows
section
variable {prog : Program} {w : World} {A : Around} {E : Value → Shared → Prop} {s : Shared} {K : Frag} {x y C L f : Addr} {h₀ : Heap} {m : Str → Option Value} {ox oy : Obj} {od oe : Option Obj}
end
end PySem.W
namespace Rx
open PySem PySem.Spec PyProof.Rows L2
structure OwnBin (K : PySem.W.Frag) (C : Addr) (op : Operator) (f : Addr) : Prop where
  first : PySem.W.selfFirst K C = true
  hs : PySem.W.findIn K (.ref C) (PySem.dunder op.info.2) = some (some (.ref f))
  hf : PySem.W.isFn K (.ref f) = true
structure OwnBinT (K : PySem.W.Frag) (C : Addr) (op : Operator) (f : Addr) : Prop extends OwnBin K C op f where
  hr : ∃ rc : Option Value, PySem.W.findIn K (.ref C) (dunderR op.info.2) = some rc ∧ (rc = none ∨ ∃ g : Addr, rc = some (.ref g))
  i1 : ∃ fo : Option Value, PySem.W.findIn K (.type "int") (PySem.dunder op.info.2) = some fo
  i2 : ∃ ro : Option Value, PySem.W.findIn K (.type "int") (dunderR op.info.2) = some ro
section
variable {α γ β : Type} {K : PySem.W.Frag} {H1 : Hp} {g : TG} {tt : TT} {te : TE} {vl : List Nat} {σ : L2.St} {Qd : Hp → Prop} {L : Addr}
end
end Rx
namespace Rx
open PySem PySem.Spec PyProof.Rows L2
section
variable {K : PySem.W.Frag} {ms ms' : List Addr} {ps : List PEn} {H0 H H' H1 : Hp} {L L' : Addr} {d d' : D} {ds : List D} {u x : V} {vs : List V}
theorem repL_rep {α : Type} {e : α → D} {xs : List α} (h : repL ms H (xs.map e) vs) : ∀ k : Nat, repL ms H (((List.replicate k xs).flatten).map e) (List.replicate k vs).flatten
  | 0 => repL_nil
  | k + 1 => by
    rw [List.replicate_succ, List.flatten_cons, List.map_append, List.replicate_succ, List.flatten_cons]
    exact repL_app h (repL_rep h k)
theorem rep_mulL {α : Type} {e : α → D} {xs : List α} {k : Int} {Q : VK} (h : rep ms H (.lst (xs.map e)) x) (hk : -(2 ^ 63) ≤ k ∧ k < 2 ^ 63 ∧ xs.length * k.toNat ≤ sizeLine)
    (q : ∀ vs, repL ms H (((List.replicate k.toNat xs).flatten).map e) vs → ∀ p, H p = none → Q (.ref p) (upd H p (.lst vs))) :
    ∃ (l : Addr) (k' : Int) (xs : List V), x = .ref l ∧ V.int k = .int k' ∧ H l = some (.lst xs) ∧ -(2 ^ 63) ≤ k' ∧ k' < 2 ^ 63 ∧ xs.length * k'.toNat ≤ sizeLine ∧ ∀ p, H p = none → Q (.ref p) (upd H p (.lst (List.replicate k'.toNat xs).flatten)) := by
  obtain ⟨l, vs, rfl, _, hl, hr⟩ := rep_lstAt h
  have e1 := repL_len hr
  rw [List.length_map] at e1
  exact ⟨l, k, vs, rfl, rfl, hl, hk.1, hk.2.1, by rw [← e1]; exact hk.2.2, q _ (repL_rep hr _)⟩
end
end Rx
namespace Rx
open PySem PySem.Spec PyProof.Rows L2
end Rx
namespace Rx
open PySem PySem.Spec PyProof.Rows L2
end Rx
namespace Rx
open PySem PySem.Spec PyProof.Rows L2
end Rx
namespace PySem.W
open Lean Elab Tactic Meta PySem PySem.Calls PyProof.Rows
section
variable {prog : Program} {w : World} {M : Model} {A : Around} {E : Value → Shared → Prop} {s : Shared} {K : Frag} {y C L f g : Addr} {h₀ : Heap} {m : Str → Option Value} {oy : Obj} {oe : Option Obj} {n : Int} {t : Tok}
end
end PySem.W
namespace Rx
open PySem PySem.Spec PyProof.Rows L2 RZ
structure OwnNeg (K : PySem.W.Frag) (C f : Addr) : Prop where
  hs : PySem.W.findIn K (.ref C) "__neg__" = some (some (.ref f))
  hf : PySem.W.isFn K (.ref f) = true
structure OwnBinR (K : PySem.W.Frag) (C : Addr) (op : Operator) (g : Addr) : Prop where
  first : PySem.W.selfFirst K C = true
  hs : ∃ f : Addr, PySem.W.findIn K (.ref C) (PySem.dunder op.info.2) = some (some (.ref f))
  hr : PySem.W.findIn K (.ref C) (dunderR op.info.2) = some (some (.ref g))
  hg : PySem.W.isFn K (.ref g) = true
  hsub : PySem.W.subIn K (.ref C) (.type "int") = some false
section
variable {α γ β S : Type}
def PairIt (ms : List Addr) (H1 : Hp) (J : It) (items : List (α × γ)) (e : α → D) (e2 : γ → D) : Prop :=
  ∃ (p q : Nat → Option V) (G : Hp → Prop), L2.Walk J items.length G (YPair p q) ∧ (∀ H, Keep ms H1 H → G H) ∧
    ∀ (i : Nat) (x1 x2 : V) (H : Hp) (h : i < items.length), Keep ms H1 H → p i = some x1 → q i = some x2 → rep ms H (e items[i].1) x1 ∧ rep ms H (e2 items[i].2) x2
theorem repL_at {ms : List Addr} {H : Hp} {items : List α} {e : α → D} {xs : List V} {i : Nat} {x : V} (hx : repL ms H (items.map e) xs) (h : i < items.length) (hi : xs[i]? = some x) : rep ms H (e items[i]) x := by
  obtain ⟨v, hv, rv⟩ := repL_get hx (j := i) (d := e items[i]) (by rw [List.getElem?_map, List.getElem?_eq_getElem h]; rfl)
  rw [hi] at hv
  cases hv
  exact rv
theorem enum_at {items : List γ} {i : Nat} (h : i < ((rangeI 0 (items.length : Int)).zip items).length) (h2 : i < items.length) : ((rangeI 0 (items.length : Int)).zip items)[i] = ((i : Int), items[i]) := by
  have hz : ((rangeI 0 (items.length : Int)).zip items)[i]? = some ((i : Int), items[i]) := by
    rw [List.getElem?_zip_eq_some]
    exact ⟨by rw [rangeI_get (by omega)]; congr 1; omega, List.getElem?_eq_getElem h2⟩
  rw [List.getElem?_eq_getElem h] at hz
  exact Option.some.inj hz
theorem enum_len (items : List γ) : ((rangeI 0 (items.length : Int)).zip items).length = items.length := by
  rw [List.length_zip, rangeI_len]
  omega
theorem pair_enum {K : PySem.W.Frag} {ms : List Addr} {H1 : Hp} {items : List γ} {e2 : γ → D} {a : Addr} {xs : List V} (an : a ∉ ms) (ha : H1 a = some (.lst xs)) (hx : repL ms H1 (items.map e2) xs) :
    PairIt ms H1 (Ite K a) ((rangeI 0 (items.length : Int)).zip items) (fun i => .v (.int i)) e2 := by
  have hl : items.length = xs.length := by
    have := repL_len hx
    rwa [List.length_map] at this
  have w := walk_enum (K := K) (a := a) (xs := xs)
  rw [← hl, ← enum_len items] at w
  refine ⟨_, _, _, w, fun H k => .inl (.inl (k a _ an ha)), fun i x1 x2 H h k h1 h2 => ?_⟩
  have l2 : i < items.length := by rwa [enum_len] at h
  rw [enum_at h l2]
  have e1 : V.int (i : Nat) = x1 := Option.some.inj h1
  subst e1
  exact ⟨rep_v, repL_at (repL_keep k hx) l2 h2⟩
theorem pair_enumT {K : PySem.W.Frag} {ms : List Addr} {H1 : Hp} {items : List γ} {e2 : γ → D} {a : Addr} {xs : List V} (an : a ∉ ms) (ha : H1 a = some (.tup xs)) (hx : repL ms H1 (items.map e2) xs) :
    PairIt ms H1 (IteT K a) ((rangeI 0 (items.length : Int)).zip items) (fun i => .v (.int i)) e2 := by
  have hl : items.length = xs.length := by
    have := repL_len hx
    rwa [List.length_map] at this
  have w := walk_enumT (K := K) (a := a) (xs := xs)
  rw [← hl, ← enum_len items] at w
  refine ⟨_, _, _, w, fun H k => .inl (.inl (k a _ an ha)), fun i x1 x2 H h k h1 h2 => ?_⟩
  have l2 : i < items.length := by rwa [enum_len] at h
  rw [enum_at h l2]
  have e1 : V.int (i : Nat) = x1 := Option.some.inj h1
  subst e1
  exact ⟨rep_v, repL_at (repL_keep k hx) l2 h2⟩
theorem nin_new {ms : List Addr} {H1 : Hp} {a L : Addr} {o : HO} (nl : H1 L = none) (an : a ∉ ms) (ha : H1 a = some o) : a ∉ L :: ms := fun z => by
  rcases List.mem_cons.mp z with z | z
  · exact ne_of_none ha nl z
  · exact an z
variable {H1 : Hp} {g : TG} {tt : TT} {te : TE} {vl : List Nat} {σ : L2.St} {Qd : Hp → Prop} {L : Addr} {J : It}
variable {tb : TS} {D' : Ends}
theorem for_pairG {items : List (α × γ)} {e : α → D} {e2 : γ → D} {ms : List Addr} {body : (α × γ) → S → (S → Prop) → Prop} {KM : S → Prop} (SI : S → L2.St → Hp → Prop) (s0 : S) (P : PairIt ms H1 J items e e2)
    (kp : ∀ s σ H, SI s σ H → Keep ms H1 H) (tr : ∀ s σ H, SI s σ H → ∀ m ∈ ms, H m ≠ none) (hM : forC body items s0 KM) (h0 : SI s0 σ H1)
    (hs : ∀ (x : α × γ) (u : V) (s : S) (k : S → Prop) (σ : L2.St) (H H2 : Hp), SI s σ H → Ext H H2 → rep ms H2 (.tup [e x.1, e2 x.2]) u → body x s k → ∀ Nx : L2.St → Hp → Prop, (∀ s' σ' H', k s' → SI s' σ' H' → Nx σ' H') →
      g u σ H2 fun σ2 H2 => tb { D' with nx := Nx, ct := Nx, bk := D'.nx } σ2 H2)
    (hd : ∀ s σ H, KM s → SI s σ H → D'.nx σ H) :
    ∃ W : Nat → Nat → L2.St → Hp → Prop, (∃ m, W 0 m σ H1) ∧ ∀ i m σ H, W i m σ H →
      (J.stop i H ∧ D'.nx σ H) ∨ (J.go i H ∧ ∃ Nx : L2.St → Hp → Prop, (∀ σ' H', Nx σ' H' → ∃ m', m' < m ∧ W (i + 1) m' σ' H') ∧ ∀ x H', J.yld i H x H' → g x σ H' fun σ2 H2 => tb { D' with nx := Nx, ct := Nx, bk := D'.nx } σ2 H2) := by
  obtain ⟨p, q', G, w, hG, hat⟩ := P
  refine L2.for_it w (D := D') (fun i σ H => ∃ s, SI s σ H ∧ forC body (items.drop i) s KM) ⟨s0, h0, hM⟩ (fun i σ H _ ⟨s, si, _⟩ => hG H (kp s σ H si)) (fun i u σ H H' hi ⟨s, si, q⟩ y => ?_) (fun σ H ⟨s, si, q⟩ => ?_)
  · obtain ⟨T, x1, x2, rfl, nT, eH, e1, e3⟩ := y
    have hk := kp s σ H si
    rw [drop_cons' (List.getElem?_eq_getElem hi)] at q
    obtain ⟨r1, r2⟩ := hat i x1 x2 H hi hk e1 e3
    exact hs _ (.ref T) s _ σ H H' si (by rw [eH]; exact Ext.new nT) (rep_pair (tr s σ H si) nT eH r1 r2) q _ fun s' σ' H'' hk si2 => ⟨s', si2, hk⟩
  · rw [List.drop_of_length_le (by omega)] at q
    exact hd s σ H q si
end
end Rx
namespace PySem.W
open PySem PySem.Calls PyProof.Rows Builtin
section
variable {prog : Program} {w : World} {A : Around} {E : Value → Shared → Prop} {s : Shared} {K : Frag} {x C L f : Addr} {h₀ : Heap} {m : Str → Option Value} {ox : Obj} {od : Option Obj}
end
end PySem.W
namespace Rx
open PySem PySem.Spec PyProof.Rows L2
abbrev GL (a : Addr) (rest : List Value) : List Code := [.builtin "list.__repr__.loop" ⟨.ref a :: rest, []⟩]
structure FnQ (P : Program) (w : World) (K : PySem.W.Frag) (mg : Str → Option Value) (base : Heap) (k : Nat) (f : Addr) (fd : FuncData) (ps : List Str) (sp : Addr → Sp) : Prop where
  len : ∀ a vs H Q E, sp a vs H Q E → vs.length = ps.length
  run : ∀ (a : Addr) (rest : List Value) (A : Around), A.guards = some (GL a rest) → Room k A → ∀ (outer : List Env) (s : Shared) (H : Hp) (args : Args) (us : List Value) (vs : List V) (Q : VK) (E : XK), Env0 P w K mg base A outer s H → BindsTo s fd args (ps.zip us) → Vals vs us → sp a vs H Q E →
    codeAny (model P w) A (.call (.ref f) args) (CR CX0 outer P w H s Q E) s
theorem FnQ.mono {P : Program} {w : World} {K : PySem.W.Frag} {mg : Str → Option Value} {base : Heap} {j k : Nat} {f : Addr} {fd : FuncData} {ps : List Str} {sp : Addr → Sp} (F : FnQ P w K mg base j f fd ps sp) (h : j ≤ k) : FnQ P w K mg base k f fd ps sp :=
  ⟨F.len, fun a rest A gu hr => F.run a rest A gu (hr.mono h)⟩
section
variable {P : Program} {w : World} {K : PySem.W.Frag} {mg : Str → Option Value} {base : Heap}
end
section
variable {X : Cx} {pins : List (Addr × Obj)} {σ : L2.St} {H : Hp} {s : Shared}
end
section
variable {X : Cx}
end
section
variable {X : Cx} {n : Nat} {C f : Addr} {fd : FuncData} {ps : List Str} {sp : Addr → Sp}
end
section
variable {α : Type} {e : α → D} {C : Addr} {ns : List Str} {ms : List Addr} {H : Hp} {M : α → (Str → Prop) → Prop} {sp : Addr → Sp} {Q : VK} {KM : List Str → Prop}
end
end Rx
namespace PySem.W
open Lean Elab Tactic Meta PySem PySem.Calls PyProof.Rows
section
variable {prog : Program} {w : World} {A : Around} {E : Value → Shared → Prop} {s : Shared} {K : Frag} {x y C L f : Addr} {h₀ : Heap} {m : Str → Option Value} {ox oy : Obj} {od oe : Option Obj}
end
end PySem.W
namespace Rx
open PySem PySem.Spec PyProof.Rows L2
structure OwnIn (K : PySem.W.Frag) (C : Addr) (op : Operator) (f : Addr) : Prop extends OwnBin K C op f where
  mro : ∃ cd, PySem.W.clsIn K C = some cd ∧ cd.mro = [.ref C, .type "object"]
  hi : PySem.W.findIn K (.ref C) (dunderI op.info.2) = some none
structure SMet (K : PySem.W.Frag) (C : Addr) (m : Str) (g : Addr) : Prop where
  mc : ∃ mc, ClX.CRead K C mc ∧ ∃ p, PySem.W.findCls K (.ref C) mc m = some (.get (.builtin "staticmethod.__get__") (.ref p) .none (.ref C)) ∧ ∃ rest, PySem.W.recIn K p "staticmethod" = some (.ref g :: rest)
def tSMeth (C : Addr) (sp : Sp) (E : XK) (ta : TE) (t : TA) : TE := fun σ H Q => ta σ H fun x H1 => x = .ref C ∧ t σ H1 fun vs H2 => sp vs H2 Q E
section
variable {X : Cx} {CX : CXT} {k : Nat} {C g : Addr} {fd : FuncData} {ps : List Str} {sp : Sp} {E : XK} {o e : Expr} {es : List Expr} {m : Str} {pos apos : Pos} {ta : TE} {t : TA}
theorem pe_smeth {pl : Sem Bool} (he : PE X o ta) (c : SMet X.K C m g) (F : FnOk X.prog X.w X.K X.mg X.base CX k g fd ps sp) (hr : Room k X.A) (hk : PySem.W.keepIn X.K (.ref g) = true) (hb : Binds X.K fd ps []) (hx : Passes CX X E) (ha : PA X (e :: es) t)
    (hst : starEach (e :: es) X.env = (false, eval e X.env) :: starEach es X.env := by rfl) (hpl : (backTo pos (starEach es X.env)).any (·.1) = false := by rfl)
    (ht : eval (.Call (.Attribute o m apos) (e :: es) [] pos) X.env = (do
      let ov ← eval o X.env
      standAt apos.atName
      let (f, first) ← holding [ov] (getMethod ov m pl)
      callWith pos f first (backTo pos (starEach (e :: es) X.env)) (backToKw pos (keywordEach [] X.env))) := by rfl) :
    PE X (.Call (.Attribute o m apos) (e :: es) [] pos) (tSMeth C sp E ta t) := by
  obtain ⟨mc, r, p, hf, rest, hp⟩ := c.mc
  refine ⟨fun pins s σ H Q I h => ?_⟩
  refine PySem.W.methodCall_KW (pl := pl) (thn (he.run pins s σ H _ I h) fun u s1 ⟨x, H1, I1, rx, ex, q⟩ => ?_) ht
  subst ex
  obtain rfl : u = Value.ref C := rx
  refine PySem.W.method_cls I1.kIn r.ga (PySem.W.cls_bind I1.kIn r.rd hf ?_)
  refine wpAny_call (PySem.W.sm_get (s := { s1 with toks := s1.toks + 1 }) I1.kIn hp (PySem.W.handed_on rfl ?_))
  refine PySem.W.callWith_K (h₀ := X.base) I1.ok.mod.kin hk (thn (ha.run pos pins _ σ H1 _ (I1.tok _) q) fun us s2 ⟨vs, H2, I2, rv, q2⟩ => ⟨I2.kIn, ?_⟩) hst hpl
  exact run_fn F hr hb .nil hx I2 rv (by rw [List.append_nil]; exact q2)
end
end Rx
namespace Rx
open PySem PySem.Spec PyProof.Rows L2
def Apart (d e : D) : Prop := ∀ (ms ms' : List Addr) (H : Hp) (u : V), rep ms H d u → rep ms' H e u → False
section
variable {x : V} {ds es : List D} {C C' : Addr} {ns ns' : List Str}
theorem Apart.symm {d e : D} (h : Apart d e) : Apart e d := fun ms ms' H u a b => h ms' ms H u b a
end
mutual
/-- no list within d can be the one that tells e -/
def ApIn (e : D) : D → Prop
  | .v _ => True
  | .lst ds => Apart (.lst ds) e ∧ ApIns e ds
  | .tup ds => ApIns e ds
  | .ins _ _ ds => ApIns e ds
  | .dct _ _ => False
  | .dcT _ _ => False
def ApIns (e : D) : List D → Prop
  | [] => True
  | d :: ds => ApIn e d ∧ ApIns e ds
end
section
variable {ms ms' : List Addr} {ps : List PEn} {H0 H : Hp} {L : Addr} {es : List D}
theorem ne_dr {p : Addr} (dr : Drop ms L ms') (n : p ∉ ms') (q : p ≠ L) : p ∉ ms := fun z => (dr.ex p z).elim n q
mutual
theorem rep_liftA (dr : Drop ms L ms') (m : MutO ms ps H0 H L (.lst es)) : ∀ (d : D) (u : V), ApIn (.lst es) d → rep ms' H d u → rep ms H d u
  | .v x, u, _, h => by
    simp only [rep] at h ⊢
    exact h
  | .lst ds, u, n, h => by
    simp only [ApIn] at n
    have h0 := h
    simp only [rep] at h ⊢
    obtain ⟨p, vs, rfl, np, hp, hl⟩ := h
    refine ⟨p, vs, rfl, ne_dr dr np fun z => ?_, hp, repL_liftA dr m ds vs n.2 hl⟩
    rw [z] at h0
    exact n.1 _ _ _ _ h0 (mo_rep (ms' := []) (by simp) (fun a ha => absurd ha List.not_mem_nil) m)
  | .tup ds, u, n, h => by
    simp only [ApIn] at n
    simp only [rep] at h ⊢
    obtain ⟨p, vs, rfl, np, hp, hl⟩ := h
    refine ⟨p, vs, rfl, ne_dr dr np fun z => ?_, hp, repL_liftA dr m ds vs n hl⟩
    have := m.isMo
    rw [← z, hp] at this
    exact this
  | .ins C ns ds, u, n, h => by
    simp only [ApIn] at n
    simp only [rep] at h ⊢
    obtain ⟨p, dx, vs, rfl, np, hp, hn, hl⟩ := h
    refine ⟨p, dx, vs, rfl, ne_dr dr np fun z => ?_, hp, hn, repL_liftA dr m ds vs n hl⟩
    have := m.isMo
    rw [← z, hp] at this
    exact this
  | .dct _ ds, u, n, h => by
    simp only [ApIn] at n
  | .dcT _ ds, u, n, h => by
    simp only [ApIn] at n
theorem repL_liftA (dr : Drop ms L ms') (m : MutO ms ps H0 H L (.lst es)) : ∀ (ds : List D) (us : List V), ApIns (.lst es) ds → repL ms' H ds us → repL ms H ds us
  | [], us, _, h => by
    simp only [repL] at h ⊢
    exact h
  | d :: ds, us, n, h => by
    simp only [ApIns] at n
    simp only [repL] at h ⊢
    obtain ⟨u, ws, e, h1, h2⟩ := h
    exact ⟨u, ws, e, rep_liftA dr m d u n.1 h1, repL_liftA dr m ds ws n.2 h2⟩
end
end
end Rx
namespace Rx
open PySem PySem.Spec PyProof.Rows L2
end Rx
namespace Rx
open PySem PySem.Spec PyProof.Rows L2
section
variable {e : D} {x : V} {C : Addr} {ns : List Str} {ds : List D}
end
end Rx
namespace Rx
open PySem PySem.Spec PyProof.Rows L2
section
variable {α γ β : Type} {K : PySem.W.Frag} {H1 : Hp} {g : TG} {tt : TT} {te : TE} {vl : List Nat} {σ : L2.St} {Qd : Hp → Prop} {L : Addr}
end
end Rx
namespace Rx
open PySem PySem.Spec PyProof.Rows L2
section
variable {α : Type} {K : PySem.W.Frag} {H1 : Hp} {ms : List Addr}
end
section
end
section
end
section
variable {K : PySem.W.Frag} {ms : List Addr} {ps : List PEn} {H0 H : Hp} {x : V} {L : Addr} {ds : List D}
theorem rep_cast {d d' : D} (e : d = d') (h : rep ms H d x) : rep ms H d' x := e ▸ h
end
section
def okX : D → D → Bool
  | .dct ks _, .dct ls _ => ks.isEmpty && ls.isEmpty
  | d, e => plainD d && plainD e && (pyOf d).canLay0 && (pyOf e).canLay0 && decide ((pyOf d).depth ≤ 60)
section
variable {X : Cx} {pins : List (Addr × Obj)} {σ : L2.St} {H : Hp} {s : Shared} {ms : List Addr}
end
end
section
variable {ms : List Addr} {p : Addr} {He H0 H H1 : Hp}
end
end Rx
namespace Rx
open PySem PySem.Spec PyProof.Rows L2
theorem frs_lt {X : Cx} {pins : List (Addr × Obj)} {σ : L2.St} {H : Hp} {s : Shared} (I : L2.Inv X pins σ H s) : ∀ b ∈ frs X.stack, b < s.heap.objs.size := fun b hb => by
  obtain ⟨_, o, ho, _⟩ := I.env0.funs.mem hb
  exact Heap.lt_size ho
theorem lam_make3 {X : Cx} {pins : List (Addr × Obj)} {σ : L2.St} {H : Hp} {s : Shared} {c P : Addr} {params : Arguments} {body : PySem.Expr} {scope : PySem.Scope} {pos : Pos} {E Q : Value → Shared → Prop}
    (I : L2.Inv X pins σ H s) (TB : LamX.TabB X.base X.mg c P) (hc : X.env.code = .ref c) (ht : LamX.TabS H P (X.env.qual ++ "<lambda>")) (hd : defaultsOf params X.env = ([], []))
    (hfree : ∀ y ∈ scope.names, y.2 = NameKind.free → ∃ c, List.lookup y.1 X.env.cells = some c)
    (k : ∀ (f c' : Addr) (pm ctv : Value) (H1 : Hp) (s' : Shared), L2.Inv X pins σ H1 s' → (∀ b o, b ≠ P → H b = some o → H1 b = some o) → LamX.TabS H1 P (X.env.qual ++ "<lambda>") →
      s'.heap.get? f = some (PySem.W.kla_obj "<lambda>" (X.env.qual ++ "<lambda>") params body scope (cloFrom X.env.cells scope.names []) pm c' ctv) → H1 f = none → f ∉ frs X.stack →
      H1 c' = some (LamX.CodeO c' (X.env.qual ++ "<lambda>")) → Q (.ref f) s') :
    wpAny (model X.prog X.w) X.A (eval (.Lambda params body scope pos) X.env) Q E s := by
  obtain ⟨ps, hP, htr, hco⟩ := ht
  obtain ⟨m, F⟩ := I.fr
  have hg : s.heap.get? P = some (PySem.W.tabObj ps) := by
    have h := I.hok P _ hP
    simp only [ObjOk] at h
    exact h
  have cl := L2.closure_ok (scope := scope) (env := X.env) hfree
  have ns : s.heap.Ns mainGlobals X.mg := I.ok.mod.glob.keeps F.keep
  have cd := TB.code.keeps F.keep
  have bm := TB.bm.keeps F.keep
  have pl : P < s.heap.objs.size := Heap.lt_size hg
  have fl := frs_lt I
  refine PySem.W.kla_eval hd ?_
  cases hcase : codeAmong pos ps.toList with
  | some cv =>
    obtain ⟨c', rfl, hc'⟩ := hco pos cv hcase
    refine PySem.W.kla_makeFunctionHit cl I.ok.glob ns hc cd hg htr hcase bm fun ctv h' tk hk hsz => ?_
    refine k h'.objs.size c' ((X.mg "__name__").getD .none) ctv H _ (I.kept fun b u hb => ?_) (fun b o _ h => h) ⟨ps, hP, htr, hco⟩ ?_ (I.hok.fresh hsz) (fun z => ?_) hc'
    · exact Heap.get?_push_of_some _ (hk b u hb)
    · exact Heap.get?_push_at rfl rfl
    · exact Nat.lt_irrefl _ (Nat.lt_of_lt_of_le (fl _ z) hsz)
  | none =>
    refine PySem.W.kla_makeFunction cl I.ok.glob ns hc cd hg htr hcase TB.gP bm fun c' ctv h' tk hx hc1 hc2 hrec hP' => ?_
    have hsz : s.heap.objs.size ≤ h'.objs.size := Nat.le_of_lt (Nat.lt_of_le_of_lt hc1 hc2)
    have nc : c' ≠ P := Nat.ne_of_gt (Nat.lt_of_lt_of_le pl hc1)
    have hf1 : h'.objs.size ≠ c' := Nat.ne_of_gt hc2
    have hf2 : h'.objs.size ≠ P := Nat.ne_of_gt (Nat.lt_of_lt_of_le pl hsz)
    obtain ⟨c2, oc, vs, t, e1, e2, e3, e4⟩ := hrec
    cases e1
    have I1 := LamX.inv_table (c := c') (q := X.env.qual ++ "<lambda>") (more := #[rawInt ↑pos.line, rawInt ↑pos.col, Value.ref c']) (t' := tk)
      (h' := h'.push (PySem.W.kla_obj "<lambda>" (X.env.qual ++ "<lambda>") params body scope (cloFrom X.env.cells scope.names []) ((X.mg "__name__").getD .none) c' ctv))
      I hP (fun b o nb hb => Heap.get?_push_of_some _ (hx b o nb hb)) (Heap.get?_push_of_some _ hP') hc1 ⟨oc, vs, t, Heap.get?_push_of_some _ e2, e3, e4⟩
    have hcn : H c' = none := I.hok.fresh hc1
    refine k h'.objs.size c' _ ctv _ _ I1 (fun b o nb hb => ?_) ⟨ps ++ #[rawInt ↑pos.line, rawInt ↑pos.col, Value.ref c'], ?_, ?_, fun pos2 cv hcv => ?_⟩ (Heap.get?_push_at rfl rfl) ?_ (fun z => ?_) upd_same
    · have : b ≠ c' := fun z => by rw [z, hcn] at hb; cases hb
      rw [upd_ne this, upd_ne nb]
      exact hb
    · rw [upd_ne nc.symm, upd_same]
    · rw [Array.toList_append]
      exact TriplesOk_snoc _ _ _ _ htr
    · rw [Array.toList_append] at hcv
      rcases LamX.among_app ps.toList htr hcv with h | h
      · obtain ⟨c3, h1, h2⟩ := hco pos2 cv h
        refine ⟨c3, h1, ?_⟩
        have n1 : c3 ≠ c' := fun z => by rw [z, hcn] at h2; cases h2
        have n2 : c3 ≠ P := fun z => by rw [z, hP] at h2; cases h2
        rw [upd_ne n1, upd_ne n2]
        exact h2
      · exact ⟨c', h, upd_same⟩
    · rw [upd_ne hf1, upd_ne hf2]
      exact I.hok.fresh hsz
    · exact Nat.lt_irrefl _ (Nat.lt_of_lt_of_le (fl _ z) hsz)
end Rx
namespace Rx
open PySem PySem.Spec PyProof.Rows L2
section
variable {ms : List Addr} {ps ps' : List PEn} {cs : List (Addr × List V)} {H0 H H' : Hp}
theorem Ret.upW (hs : ∀ a ∈ ps', a ∈ ps) (hu : ∀ p ∈ ps, p.1 ∈ ad ps' → p ∈ ps') (w : Wd ms ps cs H0 H) (e : Ret ps' H H') : Ret ps H H' where
  kp := fun a o n h => e.kp a o (fun z => n (ad_mem hs z)) h
  pot := (w.ret hs hu e).pot
  grow := e.grow
theorem Ret.upS (hs : ∀ a ∈ ps', a ∈ ps) (hk : ∀ a ∈ ps', a.2 = none) (w : Wd ms ps cs H0 H) (e : Ret ps' H H') : Ret ps H H' where
  kp := fun a o n h => e.kp a o (fun z => n (ad_mem hs z)) h
  pot := (w.retS hs hk e).pot
  grow := e.grow
end
end Rx
namespace Rx
open PySem PySem.Spec PyProof.Rows L2
end Rx
namespace Rx
open PySem PySem.Spec PyProof.Rows L2
def excR (ms : List Addr) (H : Hp) (C : Addr) (ns : List Str) (ds : List D) (cls : Value) (d : Option Addr) : Prop :=
  cls = .ref C ∧ ∃ (dd : Addr) (vs : List V), d = some dd ∧ H dd = some (.xd (ns.zip vs)) ∧ ns.length = vs.length ∧ repL ms H ds vs
section
variable {ms ms' : List Addr} {ps : List PEn} {cs : List (Addr × List V)} {H0 H H1 H' : Hp} {C : Addr} {ns : List Str} {ds : List D} {cls : Value} {d : Option Addr}
theorem excR_sub (hs : ∀ a ∈ ms', a ∈ ms) (h : excR ms H C ns ds cls d) : excR ms' H C ns ds cls d := by
  obtain ⟨e, dd, vs, e2, h1, h2, h3⟩ := h
  exact ⟨e, dd, vs, e2, h1, h2, repL_map (fun p o n hp => ⟨fun z => n (hs p z), hp⟩) ds vs h3⟩
def sp_exi (C : Addr) (n : Str) : Sp := fun vs H Q _ => ∃ (a : Addr) (y : V), vs = [.ref a, y] ∧ H a = some (exo a C none) ∧ ∀ dx, H dx = none → dx ≠ a → Q .non (upd (upd H dx (exd dx [(n, y)])) a (exo a C (some dx)))
theorem exc_mk1 {n : Str} {v : V} {Q : XK} (h : ∀ d, H1 d = none → Q (.ref C) (some d) (upd H1 d (.xd [(n, v)]))) :
    [v].length ≤ 1000 ∧ ∀ a, H1 a = none → sp_exi C n (.ref a :: ([v] ++ [])) (upd H1 a (exo a C none))
      (fun w H2 => w = .non ∧ ∃ (x : Addr) (fs : List (Str × V)), H2 a = some (exo a C (some x)) ∧ H2 x = some (exd x fs) ∧ H1 x = none ∧ Q (.ref C) (some x) (upd (del H2 a) x (.xd fs))) (fun _ _ _ => False) := by
  refine ⟨(by show 1 ≤ 1000; decide), fun a na => ⟨a, v, rfl, upd_same, fun dx nd ne => ?_⟩⟩
  have nd' : H1 dx = none := by
    rw [upd_ne ne] at nd
    exact nd
  refine ⟨rfl, dx, [(n, v)], upd_same, by rw [upd_ne ne, upd_same], nd', ?_⟩
  have e : upd (del (upd (upd (upd H1 a (exo a C none)) dx (exd dx [(n, v)])) a (exo a C (some dx))) a) dx (.xd [(n, v)]) = upd H1 dx (.xd [(n, v)]) := by
    funext b
    by_cases h1 : b = dx
    · rw [h1, upd_same, upd_same]
    · rw [upd_ne h1, upd_ne h1]
      by_cases h2 : b = a
      · rw [h2, del_same, na]
      · rw [del_ne h2, upd_ne h2, upd_ne h1, upd_ne h2]
  rw [e]
  exact h dx nd'
theorem exc_out {n : Str} {v : V} {dv : D} (w : Wd ms ps cs H0 H1) (hr : rep ms H1 dv v) {dx : Addr} (nd : H1 dx = none) : Ret ps H0 (upd H1 dx (.xd [(n, v)])) ∧ excR ms (upd H1 dx (.xd [(n, v)])) C [n] [dv] (.ref C) (some dx) := by
  have e : Rx.Ext H1 (upd H1 dx (.xd [(n, v)])) := Rx.Ext.new nd
  exact ⟨(w.ret0 e).out, rfl, dx, [v], rfl, upd_same, rfl, repL_cons (rep_ext e hr) repL_nil⟩
end
def rIsX (K : PySem.W.Frag) (cls : Value) (d : Option Addr) (a : Addr) : List V → Hp → VK → Prop := fun xs H Q => ∃ (D : Addr) (c : V) (cv : Value) (b : Bool) (dd : Addr) (fs : List (Str × V)),
  xs = [.ref a, c] ∧ cls = .ref D ∧ ExcC K D ∧ (∀ u, RelV c u → u = cv) ∧ PySem.W.kitOne K (.ref D) cv = some b ∧ d = some dd ∧ H dd = some (.xd fs) ∧ Q (.bl b) H
theorem call_isX {X : Cx} {a : Addr} {oe : Obj} {cls : Value} {d : Option Addr} {pn : List (Addr × Obj)} (hz : Zc cls d oe) (hf : ∃ vs, oe.data = .fields vs) : CallR (X.suite a ((a, oe) :: pn)) (.builtin "isinstance") (rIsX X.K cls d a) := by
  intro pins s σ H xs us Q I r h
  obtain ⟨D, c, cv, b, dd, fs, rfl, rfl, C, hcv, kb, rfl, hdd, q⟩ := h
  cases r with
  | cons ra rr =>
    cases rr with
    | cons rc rr2 =>
      cases rr2
      cases ra
      obtain rfl := hcv _ rc
      obtain ⟨here, _⟩ := I.pin (a, oe) (List.mem_append.mpr (.inl List.mem_cons_self))
      obtain ⟨vs, hv⟩ := hf
      have hxd : ObjOk X.prog X.w H s.heap dd (.xd fs) := I.hok dd _ hdd
      obtain ⟨mA, hns, _⟩ := hxd
      obtain ⟨od, ho, _⟩ := lookIn_ns hns
      have J : PySem.W.InstAt s.heap a oe D (some od) := ⟨here, hz.1, (by unfold PySem.W.notCls; rw [hv] <;> rfl), by rw [hz.2]; exact ho⟩
      have hcl : (PySem.W.clsIn X.K D).isSome = true := by
        obtain ⟨cd, hc, _⟩ := PySem.W.any_some C.hd
        rw [hc]
        rfl
      exact PySem.W.kia_one (PySem.W.kitx_exc hcl C.hg C.hk C.hs C.ha C.hn C.ht C.hm) I.kIn J kb (fun z => nomatch z) fun tk => ⟨.bl b, H, I.kept (t' := tk) fun _ _ z => z, rfl, q⟩
def wAll (K : PySem.W.Frag) (i : Nat) (Wout : WX) (D : Ends) : List (Value × (Addr → Value → Option Addr → TS)) → WX
  | [] => Wout
  | (c, ts) :: r => fun cls d σ H => ∃ b, PySem.W.exmOne K cls c = some b ∧
      (b = true → ∀ a, H a = none → ts a cls d { nx := fun σ' H' => D.nx (σ'.set i none) H', rt := D.rt, bk := fun σ' H' => D.bk (σ'.set i none) H', ct := fun σ' H' => D.ct (σ'.set i none) H' } (σ.set i (some (.ref a))) H) ∧ (b = false → wAll K i Wout D r cls d σ H)
inductive ClsOk (X : Cx) (n : Str) : List ExceptHandler → List (Value × (Addr → Value → Option Addr → TS)) → Prop
  | nil : ClsOk X n [] []
  | cons {x : Str} {c : Value} {ts : Addr → Value → Option Addr → TS} {st1 : Stmt} {suite : List Stmt} {np pos' : Pos} {hds : List ExceptHandler} {l : List (Value × (Addr → Value → Option Addr → TS))} (names : Names X x c)
      (each : ∀ (a : Addr) (oe : Obj) (cls : Value) (d : Option Addr) (pn : List (Addr × Obj)), Zc cls d oe → (∃ vs, oe.data = .fields vs) → PSs (X.suite a ((a, oe) :: pn)) (st1 :: suite) (ts a cls d)) (r : ClsOk X n hds l) :
      ClsOk X n (.ExceptHandler (some (.Name x np)) (some n) (st1 :: suite) pos' :: hds) ((c, ts) :: l)
theorem ps_try_all {X : Cx} {n : Str} {i : Nat} {body : List Stmt} {hd1 : ExceptHandler} {hds : List ExceptHandler} {l : List (Value × (Addr → Value → Option Addr → TS))} {pos : Pos} {tb : WX → TS} {Wout : WX}
    (stk : X.stack = X.env :: X.outer) (own : X.env.frame = some X.env.locals) (nd : X.N.Nodup) (hi : X.N[i]? = some n) (loc : X.env.kindOf n = some .local) (tk : Takes X Wout)
    (inner : ∀ (W : WX) (pn : List (Addr × Obj)) (xe : Value → Shared → Prop), Takes (X.tr pn xe) W → PassesOwn (model X.prog X.w) X.A X.env xe → PSs (X.tr pn xe) body (tb W)) (hh : ClsOk X n (hd1 :: hds) l) :
    PS X (.Try body (hd1 :: hds) [] [] pos) (fun D σ H => tb (wAll X.K i Wout D l) D σ H) := by
  refine ⟨fun pins s σ H D I h => ?_⟩
  have ok := I.ok
  have frames : X.A.frames = some (X.env :: X.outer) := by rw [ok.frames, stk]
  have lo : Loc X.env.scope n := .inl loc
  refine wpAny_Try_except ?_
  refine wpAny_mono ((inner (wAll X.K i Wout D l) (X.pn ++ pins) (fun e u1 => wpAny (model X.prog X.w) X.A (noteFrame e X.env) (fun _ u2 => wpAny (model X.prog X.w) X.A (setFlight e none) (fun _ u3 =>
    wpAny (model X.prog X.w) X.A (handleBy e X.env (hd1 :: hds)) (SP X pins D) X.xe u3) X.xe u2) X.xe u1) (fun u s' there => ?_) PassesOwn.looking).run [] s σ H D (I.toTry _) h) (fun f s1 went => ?_) (fun _ _ z => z)
  · obtain ⟨a, B, sI, pins', σ', H', cls, d, rfl, K', nb, up, sky, na, os, ag, w⟩ := there
    have J : Inv X pins σ' H' sI := K'.ofTry ok
    have sk : Sky B (X.env :: X.outer) a (Zc cls d) X.env.locals s'.heap := stk ▸ sky
    show wpAny (model X.prog X.w) X.A (noteFrame (.ref a) X.env) _ _ _
    refine Sky.land Zc.steady frames own sk fun h3 fl3 up3 => ?_
    have J3 : Inv X pins σ' H' { s' with heap := h3 } := J.landed nb fl3.1 (up.trans up3) os ag
    obtain ⟨oe3, vs3, at3, z3, d3⟩ := fl3.there
    have notIn : a ∉ frs (X.env :: X.outer) := fun hm => by
      obtain ⟨_, o', e', noF⟩ := fl3.2.2.1.mem hm
      rw [at3] at e'
      cases e'
      exact noF _ d3
    have aL : a ≠ X.env.locals := fun z => notIn (List.mem_filterMap.mpr ⟨X.env, List.mem_cons_self, own.trans (by rw [z])⟩)
    have aF : a ∉ X.fs := fun hm => by
      obtain ⟨e, he, q⟩ := List.mem_filterMap.mp hm
      exact notIn (List.mem_filterMap.mpr ⟨e, List.mem_cons_of_mem _ he, q⟩)
    have S3 := J3.suite at3 d3 na aL aF
    suffices go : ∀ (gs : List ExceptHandler) (m : List (Value × (Addr → Value → Option Addr → TS))), ClsOk X n gs m → wAll X.K i Wout D m cls d σ' H' →
        wpAny (model X.prog X.w) X.A (handleBy (.ref a) X.env gs) (SP X pins D) X.xe { s' with heap := h3 } from go _ _ hh w
    intro gs m hk
    induction hk with
    | nil =>
      intro out
      refine wpAny_handleBy_nil ?_
      obtain ⟨_, _, _, oe, vs, T, oT, ts', at_, hz, hd, one, hr⟩ := id fl3
      unfold PySem.passOn
      refine wpAny_bind (wpAny_field at_ hd one ?_)
      rw [if_neg (by simp : ¬ ((Value.ref T == Value.none) = true))]
      have fin : wpAny (model X.prog X.w) X.A (setFlight (.ref a) X.env.frame) (fun _ u4 => wpAny (model X.prog X.w) X.A (throw (.ref a) : Sem Flow) (SP X pins D) X.xe u4) X.xe { s' with heap := h3 } := by
        rw [own]
        refine HandSPX.setFlight_upZ fl3 fun h4 hh4 up4 => wpAny_throw (tk _ _ ⟨a, B, sI, pins, σ', H', cls, d, rfl, J, nb, ?_, ?_, na, os, ag, out⟩)
        · exact (up.trans up3).trans up4
        · exact .inr (.inr (stk ▸ hh4))
      first
        | exact wpAny_bind (wpAny_pure (wpAny_bind fin))
        | exact wpAny_bind fin
    | @cons x c ts st1 suite np pos' hds2 l2 names each r ih =>
      rintro ⟨b, hb1, yes, no⟩
      refine wpAny_handleBy_cons (codeAny_handlers_test ?_) (by intro q; cases q)
      have lt : PySem.W.Looks (model X.prog X.w) h3 (typeOf (.ref a)) cls := fun A Q E u k q => wpAny_typeOf_ref (k _ _ at3) (z3.1.symm ▸ q)
      have lm := PySem.W.exm_one (M := model X.prog X.w) (J3.kIn) lt hb1
      have named : ∀ {Q : Value → Shared → Prop} {E : Value → Shared → Prop}, Q c { s' with heap := h3 } → wpAny (model X.prog X.w) (X.A.mark (some (.ref a))) (eval (.Name x np) X.env) Q E { s' with heap := h3 } := fun {Q E} q => by
        obtain ⟨hg, hdbg, hm | ⟨hm, hv, hnn⟩⟩ := names
        · exact ld_glob (X := X.suite a ((a, oe3) :: (X.pn ++ pins))) S3 hg hm q hdbg
        · exact ld_blt (X := X.suite a ((a, oe3) :: (X.pn ++ pins))) S3 hg hm hv q hnn hdbg
      refine named (lm.here ?_)
      cases b with
      | false =>
        show wpAny _ X.A (handleBy (.ref a) X.env hds2) _ _ _
        exact ih (no rfl)
      | true =>
        refine codeAny_handlers_suite_as (HandSPX.lands_againZ fl3 fun h4 fl4 up4 => ?_)
        have J4 : Inv X pins σ' H' { s' with heap := h4 } := J.landed nb fl4.1 ((up.trans up3).trans up4) os ag
        obtain ⟨oe4, vs4, at4, z4, d4⟩ := fl4.there
        have S4 := J4.suite at4 d4 na aL aF
        refine store_ok (X := X.suite a ((a, oe4) :: (X.pn ++ pins))) (v := .ref a) S4 nd hi lo rfl (fun s5 S5 => ?_) (.inr loc)
        refine wpAny_mono ((each a oe4 cls d (X.pn ++ pins) z4 ⟨_, d4⟩).run [] s5 _ H' _ S5 (yes rfl a na)) (fun f s6 went => ?_) (fun _ _ z => z.elim)
        have fin : ∀ {σ6 : L2.St} {H6 : Hp} {Q : Shared → Prop}, Inv (X.suite a ((a, oe4) :: (X.pn ++ pins))) [] σ6 H6 s6 → (∀ s7, Inv X pins (σ6.set i none) H6 s7 → Q s7) →
            wpAny (model X.prog X.w) X.A (do bindName X.env n .none; unbindBehindTheSuite X.env n pos') (fun _ s7 => Q s7) X.xe s6 := fun {σ6 H6 Q} S6 hq => gone_ok (S6.unsuite ok) nd hi loc hq
        rcases f with _ | _ | _ | u
        · obtain ⟨σ6, H6, S6, q6⟩ := went
          exact fin S6 fun s7 J7 => ⟨_, _, J7, q6⟩
        · obtain ⟨σ6, H6, S6, q6⟩ := went
          exact fin S6 fun s7 J7 => ⟨_, _, J7, q6⟩
        · obtain ⟨σ6, H6, S6, q6⟩ := went
          exact fin S6 fun s7 J7 => ⟨_, _, J7, q6⟩
        · obtain ⟨v6, σ6, H6, S6, r6, q6⟩ := went
          exact fin S6 fun s7 J7 => ⟨_, _, _, J7, r6, q6⟩
  · rcases f with _ | _ | _ | u
    · obtain ⟨σ2, H2, J, q⟩ := went
      exact wpAny_execs_nil ⟨σ2, H2, J.ofTry ok, q⟩
    · obtain ⟨σ2, H2, J, q⟩ := went
      exact ⟨σ2, H2, J.ofTry ok, q⟩
    · obtain ⟨σ2, H2, J, q⟩ := went
      exact ⟨σ2, H2, J.ofTry ok, q⟩
    · obtain ⟨v, σ2, H2, J, r, q⟩ := went
      exact ⟨v, σ2, H2, J.ofTry ok, r, q⟩
end Rx
namespace Rx
open PySem PySem.Spec PyProof.Rows L2
section
variable {X : Cx} {pins : List (Addr × Obj)} {σ : L2.St} {H : Hp} {s : Shared}
def Gives (X : Cx) (Ng : List Str) (x : Str) (sg : PySem.Scope) (g : Addr) (cdg : Value) (bg : List Stmt) (a q : Str) (TT : (XK → Hp → VK → Prop) → Hp → VK → Prop) : Prop :=
  ∀ (f c' : Addr) (s : Shared) (H : Hp) (Q : VK) (tl : XK → Hp → VK → Prop), Room 1 (X.A.deeper (envOfC x sg s.heap.objs.size g cdg)) →
    (∀ (W : WX) (pn : List (Addr × Obj)) (xe : Value → Shared → Prop) (p1 p2 : Pos), Takes ((cxOf C8.CX0 X.prog X.w X.K X.mg X.base Ng x sg g cdg X.A X.stack s H C8.E0).tr pn xe) W →
      PE ((cxOf C8.CX0 X.prog X.w X.K X.mg X.base Ng x sg g cdg X.A X.stack s H C8.E0).tr pn xe) (.Call (.Name a p1) [] [] p2)
        (fun σZ HZ Q => σZ[0]? = some (some (.ref f)) ∧ HZ c' = some (LamX.CodeO c' q) ∧ ∃ E : XK, (∀ cls d H', E cls d H' → W cls d σZ H') ∧ tl E HZ Q)) →
    H c' = some (LamX.CodeO c' q) → TT tl H Q →
    ∃ t, PSs (cxOf C8.CX0 X.prog X.w X.K X.mg X.base Ng x sg g cdg X.A X.stack s H C8.E0).nox bg t ∧ t { nx := fun _ H' => Q .non H', rt := Q } (L2.start Ng [.ref f]) H
end
def pyKey : Key → PyData
  | .inl i => .int i
  | .inr z => .str z
mutual
def pyX : D → PyData
  | .v .non => .none
  | .v (.bl b) => .bool b
  | .v (.int i) => .int i
  | .v (.str z) => .str z
  | .v _ => .none
  | .lst ds => .list (pyXs ds)
  | .tup ds => .tuple (pyXs ds)
  | .ins _ _ _ => .none
  | .dct ks ds => .dict ((ks.map pyKey).zip (pyXs ds))
  | .dcT _ _ => .none
def pyXs : List D → List PyData
  | [] => []
  | d :: ds => pyX d :: pyXs ds
def plainX : D → Bool
  | .v .non => true
  | .v (.bl _) => true
  | .v (.int _) => true
  | .v (.str _) => true
  | .v _ => false
  | .lst ds => plainXs ds
  | .tup ds => plainXs ds
  | .ins _ _ _ => false
  | .dct ks ds => decide (ks.length = ds.length) && plainXs ds
  | .dcT _ _ => false
def plainXs : List D → Bool
  | [] => true
  | d :: ds => plainX d && plainXs ds
end
section
variable {X : Cx} {pins : List (Addr × Obj)} {σ : L2.St} {H : Hp} {s : Shared} {ms : List Addr}
abbrev ShX (X : Cx) (s : Shared) (v : Value) (d : PyData) : Prop := ∃ as bs, Reads s.heap v d as ∧ ReadAtMost s.heap d.depth bs ∧ ReprK X.prog X.w bs s.heap d.depth v d.shown
abbrev ShXs (X : Cx) (s : Shared) (vs : List Value) (ds : List PyData) : Prop := ∃ as bs, ReadsAll s.heap vs ds as ∧ ReadAtMost s.heap (PyData.depthAll ds) bs ∧ ReprAllK X.prog X.w bs s.heap (PyData.depthAll ds) vs (PyData.shownAll ds)
theorem pyXs_len : ∀ ds : List D, (pyXs ds).length = ds.length
  | [] => rfl
  | d :: ds => by
    simp only [pyXs, List.length_cons]
    rw [pyXs_len ds]
theorem entries_vals {P : Program} {w : World} : ∀ {ks : List Key} {vs : List V} {ws : List (Key × Value)} {es : List DictEntry}, ks.length = vs.length → KV (ks.zip vs) ws → Pairs (mixKind P w) es ws →
    Vals (ks.map kV) (es.map (·.key)) ∧ Vals vs (es.map (·.val))
  | [], [], _, _, _, kv, pr => by
    cases kv
    cases pr
    exact ⟨.nil, .nil⟩
  | k :: ks, v :: vs, _, _, hl, kv, pr => by
    cases kv with
    | cons h1 h2 =>
      cases pr with
      | cons e1 e2 e3 =>
        obtain ⟨i1, i2⟩ := entries_vals (by simpa using hl) h2 e3
        exact ⟨.cons (relV_key (by have z := e1; rw [← h1.1] at z; exact z)) i1, .cons (by have z := h1.2; rw [← e2] at z; exact z) i2⟩
  | [], _ :: _, _, _, hl, _, _ => by simp at hl
  | _ :: _, [], _, _, hl, _, _ => by simp at hl
theorem shKeys (X : Cx) (s : Shared) : ∀ (ks : List Key) (us : List Value), Vals (ks.map kV) us → PyData.showableAll (ks.map pyKey) = true → (∀ t ∈ PyData.shownAll (ks.map pyKey), t.length ≤ sizeLine) → ShXs X s us (ks.map pyKey)
  | [], us, r, _, _ => by
    cases r
    exact ⟨_, [], .nil, (fun _ z => nomatch z), by simp only [List.map_nil, PyData.shownAll]; exact .nil⟩
  | k :: ks, us, r, sh, sz => by
    cases r with
    | cons r1 r2 =>
      simp only [List.map_cons, PyData.showableAll, PyData.shownAll, Bool.and_eq_true] at sh sz ⊢
      obtain ⟨a2, b2, d2, m2, k2⟩ := shKeys X s ks _ r2 sh.2 (fun t ht => sz t (List.mem_cons_of_mem _ ht))
      have one : ∀ v', RelV (kV k) v' → ShX X s v' (pyKey k) := fun v' r1 => by
        cases k with
        | inl i =>
          obtain ⟨t, rfl⟩ := r1
          exact ⟨_, [], .int i t, (fun _ z => nomatch z), by simp only [pyKey, PyData.shown]; exact .of_is (ReprIs.int t (by simpa [pyKey, PyData.showable] using sh.1)) _ _ _⟩
        | inr z =>
          obtain ⟨t, rfl⟩ := r1
          exact ⟨_, [], .str z t, (fun _ z => nomatch z), by simp only [pyKey, PyData.shown]; exact .of_is (ReprIs.str z t (by simpa only [pyKey, PyData.shown] using sz _ List.mem_cons_self)) _ _ _⟩
      obtain ⟨a1, b1, d1, m1, k1⟩ := one _ r1
      refine ⟨_, b1 ++ b2, .cons d1 d2, ?_, ?_⟩
      · simp only [PyData.depthAll]
        exact ReadAtMost.append (m1.mono (Nat.le_max_left _ _)) (m2.mono (Nat.le_max_right _ _))
      · simp only [PyData.depthAll]
        exact .cons ((k1.more fun _ z => List.mem_append_left _ z).level_le (Nat.le_max_left _ _)) (k2.more_le (fun _ z => List.mem_append_right _ z) (Nat.le_max_right _ _))
theorem reads_nil {h : Heap} {xs : List PyData} {as : List Addr} (r : ReadsAll h [] xs as) : xs = [] := by
  cases r
  rfl
mutual
theorem shX (I : L2.Inv X pins σ H s) : ∀ (d : D) (u : V) (v : Value), plainX d = true → rep ms H d u → RelV u v → (pyX d).showable = true → (pyX d).shown.length ≤ sizeLine → ShX X s v (pyX d)
  | .v x, u, v, p, h, r, sh, sz => by
    obtain rfl := of_v h
    cases u <;> simp only [plainX, pyX] at p sh sz ⊢
    case non =>
      cases r
      exact ⟨_, [], .none, (fun _ z => nomatch z), by simp only [PyData.shown]; exact .of_is ReprIs.none _ _ _⟩
    case bl b =>
      cases r
      exact ⟨_, [], .bool b, (fun _ z => nomatch z), by simp only [PyData.shown]; exact .of_is (ReprIs.bool b) _ _ _⟩
    case int i =>
      obtain ⟨t, rfl⟩ := r
      exact ⟨_, [], .int i t, (fun _ z => nomatch z), by simp only [PyData.shown]; exact .of_is (ReprIs.int t (by simpa [PyData.showable] using sh)) _ _ _⟩
    case str z =>
      obtain ⟨t, rfl⟩ := r
      exact ⟨_, [], .str z t, (fun _ z => nomatch z), by simp only [PyData.shown]; exact .of_is (ReprIs.str z t (by simpa only [PyData.shown] using sz)) _ _ _⟩
    all_goals cases p
  | .lst ds, u, v, p, h, r, sh, sz => by
    simp only [rep] at h
    obtain ⟨a, vs, rfl, _, hp, hl⟩ := h
    cases r
    obtain ⟨its, rv, ⟨o, n, ho, hc, _, hd⟩, _⟩ := I.list (.inl (.inl hp))
    simp only [plainX] at p
    simp only [pyX, PyData.showable, PyData.shown] at sh sz ⊢
    obtain ⟨as, bs, rd, most, all⟩ := shXs I ds vs its p hl rv sh (fun t ht => Nat.le_trans (listText_mem_le ht) sz)
    have rl : Reads s.heap (.ref a) (.list (pyXs ds)) _ := Reads.list ho hc hd rd
    have na : a ∉ bs := not_mem_of_deeper rl (by simp only [PyData.depth]; omega) most
    refine ⟨_, a :: bs, rl, ReadAtMost.cons rl (by simp only [PyData.depth]; omega) most, ?_⟩
    simp only [PyData.depth, PyData.shown]
    cases its with
    | nil =>
      rw [reads_nil rd]
      simp only [PyData.shownAll, listText_nil]
      exact ReprK.listEmpty ho hc hd
    | cons y l => exact ReprK.list ho hc hd na (by simpa using all.length_eq) (fun j z e => all.item j z (by simpa using e))
  | .tup ds, u, v, p, h, r, sh, sz => by
    simp only [rep] at h
    obtain ⟨a, vs, rfl, _, hp, hl⟩ := h
    cases r
    obtain ⟨its, rv, ⟨o, ho, hc, n, hd⟩, _⟩ := I.tuple (.inl (.inl hp))
    simp only [plainX] at p
    simp only [pyX, PyData.showable, PyData.shown] at sh sz ⊢
    obtain ⟨as, bs, rd, most, all⟩ := shXs I ds vs its p hl rv sh (fun t ht => Nat.le_trans (tupleText_mem_le ht) sz)
    have rl : Reads s.heap (.ref a) (.tuple (pyXs ds)) _ := Reads.tuple ho hc hd rd
    have na : a ∉ bs := not_mem_of_deeper rl (by simp only [PyData.depth]; omega) most
    refine ⟨_, a :: bs, rl, ReadAtMost.cons rl (by simp only [PyData.depth]; omega) most, ?_⟩
    simp only [PyData.depth, PyData.shown]
    exact ReprK.tuple ho hc hd na all
  | .ins _ _ _, u, v, p, h, r, sh, sz => by simp only [plainX] at p; cases p
  | .dct ks ds, u, v, p, h, r, sh, sz => by
    simp only [rep] at h
    obtain ⟨a, vs, rfl, _, hp, hlk, hl⟩ := h
    cases r
    obtain ⟨_, low, ws, kv, o, es, ep, ho, hc, hd, _, pr, _⟩ := dk_of I.hok hp
    simp only [plainX, Bool.and_eq_true, decide_eq_true_eq] at p
    obtain ⟨vk, vv⟩ := entries_vals (ks := ks) hlk kv pr
    have lx : (ks.map pyKey).length = (pyXs ds).length := by rw [List.length_map, pyXs_len]; exact p.1
    simp only [pyX, PyData.showable, PyData.shown] at sh sz ⊢
    generalize hkv : (ks.map pyKey).zip (pyXs ds) = kvs at sh sz ⊢
    have f1 : kvs.map (·.1) = ks.map pyKey := by rw [← hkv]; exact List.map_fst_zip (by omega)
    have f2 : kvs.map (·.2) = pyXs ds := by rw [← hkv]; exact List.map_snd_zip (by omega)
    obtain ⟨s1, s2⟩ := PyData.showableKv_split kvs sh
    obtain ⟨as1, b1, d1, m1, k1⟩ := shKeys X s ks _ vk (by rw [← f1]; exact s1) (fun t ht => let ⟨q, hq, hql⟩ := PyData.shownKv_key_le kvs t (by rw [f1]; exact ht); Nat.le_trans hql (Nat.le_trans (dictText_mem_le hq) sz))
    obtain ⟨as2, b2, d2, m2, k2⟩ := shXs I ds vs _ p.2 hl vv (by rw [← f2]; exact s2) (fun t ht => let ⟨q, hq, hql⟩ := PyData.shownKv_val_le kvs t (by rw [f2]; exact ht); Nat.le_trans hql (Nat.le_trans (dictText_mem_le hq) sz))
    rw [← f1] at d1 m1 k1
    rw [← f2] at d2 m2 k2
    have rl : Reads s.heap (.ref a) (.dict kvs) _ := Reads.dict ho hc.1 hd d1 d2
    have hb : ReadAtMost s.heap (PyData.depthKv kvs) (b1 ++ b2) := (m1.mono (PyData.depthAll_keys_le kvs)).append (m2.mono (PyData.depthAll_vals_le kvs))
    have na : a ∉ b1 ++ b2 := not_mem_of_deeper rl (by simp only [PyData.depth]; omega) hb
    refine ⟨_, a :: (b1 ++ b2), rl, ReadAtMost.cons rl (by simp only [PyData.depth]; omega) hb, ?_⟩
    simp only [PyData.depth, PyData.shown, PyData.shownKv_eq]
    exact ReprK.dict ho hc.1 hd low na (ReprEntriesK.of_two es.toList _ _
      (k1.more_le (fun b hb => List.mem_append_left _ hb) (PyData.depthAll_keys_le kvs)) (k2.more_le (fun b hb => List.mem_append_right _ hb) (PyData.depthAll_vals_le kvs)))
  | .dcT _ _, u, v, p, h, r, sh, sz => by simp only [plainX] at p; cases p
theorem shXs (I : L2.Inv X pins σ H s) : ∀ (ds : List D) (us : List V) (vs : List Value), plainXs ds = true → repL ms H ds us → Vals us vs → PyData.showableAll (pyXs ds) = true → (∀ t ∈ PyData.shownAll (pyXs ds), t.length ≤ sizeLine) → ShXs X s vs (pyXs ds)
  | [], us, vs, p, h, r, sh, sz => by
    obtain rfl := repL_empty h
    cases r
    simp only [pyXs]
    exact ⟨_, [], .nil, (fun _ z => nomatch z), by simp only [PyData.shownAll]; exact .nil⟩
  | d :: ds, us, vs, p, h, r, sh, sz => by
    obtain ⟨u, ws, rfl, h1, h2⟩ := repL_uncons h
    cases r with
    | cons r1 r2 =>
      simp only [plainXs, Bool.and_eq_true] at p
      simp only [pyXs, PyData.showableAll, PyData.shownAll, Bool.and_eq_true] at sh sz ⊢
      obtain ⟨a1, b1, d1, m1, k1⟩ := shX I d u _ p.1 h1 r1 sh.1 (sz _ List.mem_cons_self)
      obtain ⟨a2, b2, d2, m2, k2⟩ := shXs I ds ws _ p.2 h2 r2 sh.2 (fun t ht => sz t (List.mem_cons_of_mem _ ht))
      refine ⟨_, b1 ++ b2, .cons d1 d2, ?_, ?_⟩
      · simp only [PyData.depthAll]
        exact ReadAtMost.append (m1.mono (Nat.le_max_left _ _)) (m2.mono (Nat.le_max_right _ _))
      · simp only [PyData.depthAll]
        exact .cons ((k1.more fun _ z => List.mem_append_left _ z).level_le (Nat.le_max_left _ _)) (k2.more_le (fun _ z => List.mem_append_right _ z) (Nat.le_max_right _ _))
end
end
def rReprX (ms : List Addr) : List V → Hp → VK → Prop := fun xs H Q => ∃ (x : V) (d : D), xs = [x] ∧ rep ms H d x ∧ plainX d = true ∧ (pyX d).showable = true ∧ (pyX d).depth ≤ 60 ∧ (pyX d).shown.length ≤ sizeLine ∧ Q (.str (pyX d).shown) H
theorem call_reprX {X : Cx} {ms : List Addr} (gu : X.A.guards = some []) (un : X.A.units + 65 < cLine) : CallR X (.builtin "repr") (rReprX ms) := by
  intro pins s σ H xs us Q I r h
  obtain ⟨x, d, rfl, rp, pl, sh, dep, sz, q⟩ := h
  obtain ⟨u, rfl, ru⟩ := r.one
  have fin : ∀ (h' : Heap) (t2 : Tok) (tk : Nat), (∀ b o, s.heap.get? b = some o → h'.get? b = some o) → EP X pins σ Q (.str (pyX d).shown t2) { s with heap := h', toks := tk } := fun h' t2 tk keep => ⟨.str (pyX d).shown, H, I.kept keep, ⟨t2, rfl⟩, q⟩
  cases d with
  | v y =>
    obtain rfl := of_v rp
    cases x <;> simp only [plainX, pyX] at pl sh sz q fin ⊢
    case non =>
      cases ru
      exact P.repr_of_none ⟨.str PyData.none.shown, H, I.tok _, ⟨_, rfl⟩, q⟩
    case bl b =>
      cases ru
      exact P.repr_of_bool ⟨.str (PyData.bool b).shown, H, I.tok _, ⟨_, rfl⟩, q⟩
    case int i =>
      obtain ⟨t, rfl⟩ := ru
      exact P.repr_of_int (of_decide_eq_true sh) ⟨.str (PyData.int i).shown, H, I.tok _, ⟨_, rfl⟩, q⟩
    case str z =>
      obtain ⟨t, rfl⟩ := ru
      exact P.repr_of_str ⟨.str (PyData.str z).shown, H, I.tok _, ⟨_, rfl⟩, q⟩ sz
    all_goals cases pl
  | lst ds =>
    simp only [rep] at rp
    obtain ⟨a, vs, rfl, _, hp, hl⟩ := rp
    cases ru
    obtain ⟨its, rv, ⟨o, n, ho, hc, _, hd⟩, _⟩ := I.list (.inl (.inl hp))
    simp only [plainX] at pl
    simp only [pyX, PyData.showable, PyData.shown, PyData.depth] at sh sz dep fin ⊢
    obtain ⟨as, bs, rd, most, all⟩ := shXs I ds vs its pl hl rv sh (fun t ht => Nat.le_trans (listText_mem_le ht) sz)
    have rl : Reads s.heap (.ref a) (.list (pyXs ds)) _ := Reads.list ho hc hd rd
    have na : a ∉ bs := not_mem_of_deeper rl (by simp only [PyData.depth]; omega) most
    refine call_repr_slot (by omega) ⟨o, ho, hc⟩ F.slot_list_repr.toG ?_
    cases its with
    | nil =>
      rw [reads_nil rd] at fin
      simp only [PyData.shownAll, listText_nil] at fin
      exact call_list_repr_empty ⟨o, ho, hc⟩ ho hd ⟨_, _, rfl, fin s.heap _ _ fun _ _ e => e⟩
    | cons y l => exact call_list_reprK ho hc hd na (by simpa using all.length_eq) (fun j z e => all.item j z (by simpa using e)) gu (fun b _ => Clear.nil b) (by show X.A.units + 1 + _ < cLine; omega) (fun _ _ z => z) (fun h' t2 tk keep => ⟨_, _, rfl, fin h' t2 tk keep⟩) sz
  | tup ds =>
    simp only [rep] at rp
    obtain ⟨a, vs, rfl, _, hp, hl⟩ := rp
    cases ru
    obtain ⟨its, rv, ⟨o, ho, hc, n, hd⟩, _⟩ := I.tuple (.inl (.inl hp))
    simp only [plainX] at pl
    simp only [pyX, PyData.showable, PyData.shown, PyData.depth] at sh sz dep fin ⊢
    obtain ⟨as, bs, rd, most, all⟩ := shXs I ds vs its pl hl rv sh (fun t ht => Nat.le_trans (tupleText_mem_le ht) sz)
    have rl : Reads s.heap (.ref a) (.tuple (pyXs ds)) _ := Reads.tuple ho hc hd rd
    have na : a ∉ bs := not_mem_of_deeper rl (by simp only [PyData.depth]; omega) most
    refine call_repr_slot (by omega) ⟨o, ho, hc⟩ F.slot_tuple_repr ?_
    exact call_tuple_reprK ho hc hd na all gu (fun b _ => Clear.nil b) (by show X.A.units + 1 + _ < cLine; omega) (fun _ _ z => z) (fun h' t2 tk keep => ⟨_, _, rfl, fin h' t2 tk keep⟩) sz
  | ins _ _ _ => simp only [plainX] at pl; cases pl
  | dct ks ds =>
    simp only [plainX, Bool.and_eq_true, decide_eq_true_eq] at pl
    simp only [rep] at rp
    obtain ⟨a, vs, rfl, _, hp, hlk, hl⟩ := rp
    cases ru
    obtain ⟨_, low, ws, kv, o, es, ep, ho, hc, hd, _, pr, _⟩ := dk_of I.hok hp
    obtain ⟨vk, vv⟩ := entries_vals (ks := ks) hlk kv pr
    have lx : (ks.map pyKey).length = (pyXs ds).length := by rw [List.length_map, pyXs_len]; exact pl.1
    simp only [pyX, PyData.showable, PyData.shown, PyData.depth] at sh sz dep fin ⊢
    generalize hkv : (ks.map pyKey).zip (pyXs ds) = kvs at sh sz dep fin ⊢
    have f1 : kvs.map (·.1) = ks.map pyKey := by rw [← hkv]; exact List.map_fst_zip (by omega)
    have f2 : kvs.map (·.2) = pyXs ds := by rw [← hkv]; exact List.map_snd_zip (by omega)
    obtain ⟨s1, s2⟩ := PyData.showableKv_split kvs sh
    obtain ⟨as1, b1, d1, m1, k1⟩ := shKeys X s ks _ vk (by rw [← f1]; exact s1) (fun t ht => let ⟨q, hq, hql⟩ := PyData.shownKv_key_le kvs t (by rw [f1]; exact ht); Nat.le_trans hql (Nat.le_trans (dictText_mem_le hq) sz))
    obtain ⟨as2, b2, d2, m2, k2⟩ := shXs I ds vs _ pl.2 hl vv (by rw [← f2]; exact s2) (fun t ht => let ⟨q, hq, hql⟩ := PyData.shownKv_val_le kvs t (by rw [f2]; exact ht); Nat.le_trans hql (Nat.le_trans (dictText_mem_le hq) sz))
    rw [← f1] at d1 m1 k1
    rw [← f2] at d2 m2 k2
    have rl : Reads s.heap (.ref a) (.dict kvs) _ := Reads.dict ho hc.1 hd d1 d2
    have hb : ReadAtMost s.heap (PyData.depthKv kvs) (b1 ++ b2) := (m1.mono (PyData.depthAll_keys_le kvs)).append (m2.mono (PyData.depthAll_vals_le kvs))
    have na : a ∉ b1 ++ b2 := not_mem_of_deeper rl (by simp only [PyData.depth]; omega) hb
    refine call_repr_slot (by omega) ⟨o, ho, hc.1⟩ F.slot_dict_repr ?_
    rw [PyData.shownKv_eq] at sz fin
    exact call_dict_reprK ho hc.1 hd low na (ReprEntriesK.of_two es.toList _ _
      (k1.more_le (fun b hb => List.mem_append_left _ hb) (PyData.depthAll_keys_le kvs)) (k2.more_le (fun b hb => List.mem_append_right _ hb) (PyData.depthAll_vals_le kvs))) gu (fun b _ => Clear.nil b) (by show X.A.units + 1 + _ < cLine; omega) (fun _ _ z => z) (fun h' t2 tk keep => ⟨_, _, rfl, fin h' t2 tk keep⟩) sz
  | dcT _ _ => simp only [plainX] at pl; cases pl
end Rx
namespace Rx
open PySem PySem.Spec PyProof.Rows L2
section
variable {P : Program} {w : World} {K : PySem.W.Frag} {mg mb : Str → Option Value} {k : Nat} {fa a : Addr} {fd : FuncData} {x : Str} {sp : Sp} {s1 : Shared} {vs : List Value} {ns : List Int} {cs : List (Addr × Addr)}
abbrev tadr (cs : List (Addr × Addr)) : List Addr := cs.map (·.2)
structure TabT (K : PySem.W.Frag) (h : Heap) (cs : List (Addr × Addr)) : Prop where
  at_ : ∀ p ∈ cs, h.get? p.2 = some { cls := .none, data := .fields #[] }
  un : ∀ p ∈ cs, K.lookup p.2 = none
  cd : ∀ p ∈ cs, PySem.W.CodeHd h p.1 p.2
theorem tadr_at {h : Heap} (T : TabT K h cs) {b : Addr} (hb : b ∈ tadr cs) : h.get? b = some { cls := .none, data := .fields #[] } := by
  obtain ⟨p, hp, rfl⟩ := List.mem_map.mp hb
  exact T.at_ p hp
theorem callLG_at (inK : K.In s1.heap) (top : s1.heap.Ns mainGlobals mg) (bl : s1.heap.Ns builtinsNs mb) (blb : ∀ x : Str, x ≠ "__name__" → mb x = bootBuiltins x) (nl : s1.heap.NoLimit) (ng : s1.gens = #[]) (T : TabT K s1.heap cs)
    (bmod : ∃ (bm : Addr) (ob : Obj), mg "__builtins__" = some (.ref bm) ∧ bm ≠ builtinsNs ∧ s1.heap.get? bm = some ob ∧ ob.cls = .type "module" ∧ ob.dict = some builtinsNs ∧ ob.data = .plain)
    (obj : s1.heap.get? a = some { cls := .type "list", data := .seq vs.toArray }) (hr : Room k callerA)
    (F : ∀ base : Heap, K.In base → base.Ns mainGlobals mg → (∀ p ∈ cs, LamX.TabB base mg p.1 p.2) → FnG P w K mg base k fa fd [x] sp) (bind : ∀ (s : Shared) (u : Value), BindsTo s fd ⟨[u], []⟩ [(x, u)])
    {H : Hp} (tabs : ∀ p ∈ cs, H p.2 = some (.tbl #[])) (only : ∀ b, H b = none ∨ b ∈ tadr cs ∨ ∃ o xs, H b = some (.frz o (.lst xs))) (ok : HOk P w H s1.heap) (at_a : ∀ b, H b ≠ none → b = a ∨ b ∈ tadr cs) (own : H a ≠ none → K.lookup a = none)
    (q : sp [.ref a] H (fun v _ => v = .bl true) E0) : codeAny (model P w) callerA (.call (.ref fa) ⟨[.ref a], []⟩) (EndG s1.heap s1.os) s1 := by
  have told : ∀ b, H b = none ∨ b = a ∨ b ∈ tadr cs := fun b => (Classical.em (H b = none)).imp id (at_a b)
  have stays : ∀ {b : Addr} {o : Obj}, s1.heap.get? b = some o → (∀ us n, o.data ≠ .seq us n) → o.data ≠ .fields #[] → H b = none := fun {b o} e n1 n2 => by
    rcases told b with z | z | z
    · exact z
    · subst z
      rw [obj] at e
      cases e
      exact absurd rfl (n1 _ _)
    · rw [tadr_at T z] at e
      cases e
      exact absurd rfl n2
  have keepN : ∀ {b : Addr} {m : Str → Option Value}, s1.heap.Ns b m → (hidT s1.heap H).Ns b m := fun {b m} ⟨o, es, ep, e, d, r⟩ => ⟨o, es, ep, hidT_get e (stays e (fun us n z => by
    rw [d] at z
    cases z) fun z => by
    rw [d] at z
    cases z), d, r⟩
  have keepK : K.In (hidT s1.heap H) := fun b o e => hidT_get (inK b o e) (by
    rcases told b with z | z | z
    · exact z
    · subst z
      exact Classical.byContradiction fun n => by
        rw [own n] at e
        cases e
    · obtain ⟨p, hp, rfl⟩ := List.mem_map.mp z
      rw [T.un p hp] at e
      cases e)
  have md : Mod K mg (hidT s1.heap H) := ⟨keepK, keepN top, ⟨mb, keepN bl, blb⟩, nl.imp fun _ h => ⟨keepN h.1, h.2⟩⟩
  have tb : ∀ p ∈ cs, LamX.TabB (hidT s1.heap H) mg p.1 p.2 := fun p hp => by
    refine ⟨?_, ?_, fun z => ?_⟩
    · obtain ⟨o, us, file, tf, flags, tg, inF, text, tt, e1, r1, r2, r3, rest⟩ := T.cd p hp
      refine ⟨o, us, file, tf, flags, tg, inF, text, tt, hidT_get e1 (stays e1 (fun _ _ z => ?_) fun z => ?_), r1, r2, r3, rest⟩
      · rw [r2] at z
        cases z
      · rw [r2] at z
        cases z
        simp at r3
    · obtain ⟨bm, ob, b1, b2, b3, b4, b5, b6⟩ := bmod
      have n1 : bm ≠ mainGlobals := fun z => by
        obtain ⟨o, es, ep, e, d, _⟩ := top
        rw [z, e] at b3
        cases b3
        rw [d] at b6
        cases b6
      have n2 : bm ≠ p.2 := fun z => by
        rw [z, T.at_ p hp] at b3
        cases b3
        cases b6
      exact ⟨bm, ob, b1, b2, n1, n2, hidT_get b3 (stays b3 (fun _ _ z => by
        rw [b6] at z
        cases z) fun z => by
        rw [b6] at z
        cases z), b4, b5, b6⟩
    · obtain ⟨o, es, ep, e, d, _⟩ := top
      rw [z, T.at_ p hp] at e
      cases e
      cases d
  have en : Env0 P w K mg (hidT s1.heap H) callerA [] s1 H := ⟨rfl, md, fun b o e => of_hidT e, Nat.le_of_eq (hidT_size _ _), trivial, fun b hb => (List.not_mem_nil hb).elim, ok, .of_eq ng⟩
  refine codeAny_mono ((F _ keepK (keepN top) tb).run callerA rfl hr [] s1 H ⟨[.ref a], []⟩ [.ref a] [.ref a] _ _ en (bind s1 (.ref a)) (.cons rfl .nil) q) fun r s' h => ?_
  rcases r with e | fl
  · exact (show False from h).elim
  rcases fl with _ | _ | _ | u
  · exact (show False from h).elim
  · exact (show False from h).elim
  · exact (show False from h).elim
  obtain ⟨v, H', os, bare, un, ok', rv, qv⟩ := h
  cases (show v = .bl true from qv)
  cases (show u = Value.bool true from rv)
  have rest : ∀ b o, b ∉ tadr cs → s1.heap.get? b = some o → s'.heap.get? b = some o := fun b o nb e => by
    rcases only b with z | z | ⟨ob, xs, z⟩
    · exact un.keep b o e z (List.not_mem_nil) (List.not_mem_nil)
    · exact absurd z nb
    · have e1 := (ok b _ z).1
      have e2 := (ok' b _ (un.frzs b ob _ z)).1
      exact (Option.some.inj (e.symm.trans e1)) ▸ e2
  refine ⟨rfl, ⟨fun b o e => ?_, fun b o e => ?_⟩, os, bare⟩
  · by_cases hb : b ∈ tadr cs
    · obtain ⟨p, hp, rfl⟩ := List.mem_map.mp hb
      obtain ⟨more, z⟩ := un.tbls p.2 #[] (tabs p hp)
      rw [T.at_ p hp] at e
      cases e
      exact .inr (.inl ⟨((T.cd p hp).tab (T.at_ p hp)).isCodeTable, rfl, #[], more, rfl, (by
        have z2 := ok' p.2 _ z
        rw [Array.empty_append] at z2 ⊢
        exact z2)⟩)
    · exact .inl (rest b o hb e)
  · by_cases hb : b ∈ tadr cs
    · obtain ⟨p, hp, rfl⟩ := List.mem_map.mp hb
      obtain ⟨more, z⟩ := un.tbls p.2 #[] (tabs p hp)
      exact ⟨_, ok' p.2 _ z⟩
    · exact ⟨o, rest b o hb e⟩
theorem callLG (inK : K.In s1.heap) (top : s1.heap.Ns mainGlobals mg) (bl : s1.heap.Ns builtinsNs mb) (blb : ∀ x : Str, x ≠ "__name__" → mb x = bootBuiltins x) (nl : s1.heap.NoLimit) (ng : s1.gens = #[]) (T : TabT K s1.heap cs)
    (bmod : ∃ (bm : Addr) (ob : Obj), mg "__builtins__" = some (.ref bm) ∧ bm ≠ builtinsNs ∧ s1.heap.get? bm = some ob ∧ ob.cls = .type "module" ∧ ob.dict = some builtinsNs ∧ ob.data = .plain)
    (obj : s1.heap.get? a = some { cls := .type "list", data := .seq vs.toArray }) (its0 : IntsAre vs ns) (small : ns.length ≤ sizeLine) (hr : Room k callerA)
    (F : ∀ base : Heap, K.In base → base.Ns mainGlobals mg → (∀ p ∈ cs, LamX.TabB base mg p.1 p.2) → FnG P w K mg base k fa fd [x] sp) (bind : ∀ (s : Shared) (u : Value), BindsTo s fd ⟨[u], []⟩ [(x, u)])
    (q : ∀ H : Hp, (∀ p ∈ cs, H p.2 = some (.tbl #[])) → SqL K H a (ns.map V.int) → sp [.ref a] H (fun v _ => v = .bl true) E0) : codeAny (model P w) callerA (.call (.ref fa) ⟨[.ref a], []⟩) (EndG s1.heap s1.os) s1 := by
  have rv := vals_ints its0
  have lv := its0.length
  have aT : a ∉ tadr cs := fun z => by
    have e := tadr_at T z
    rw [obj] at e
    have e2 : Data.seq vs.toArray _ = Data.fields #[] := congrArg Obj.data (Option.some.inj e)
    cases e2
  have inT : ∀ p ∈ cs, p.2 ∈ tadr cs := fun p hp => List.mem_map.mpr ⟨p, hp, rfl⟩
  cases hk : K.lookup a with
  | some o =>
    have e := inK a o hk
    rw [obj] at e
    cases e
    generalize hH : (fun b => if b ∈ tadr cs then some (HO.tbl #[]) else none : Hp) = H
    have hin : ∀ b, b ∈ tadr cs → H b = some (.tbl #[]) := fun b hb => by rw [← hH]; exact if_pos hb
    have hno : ∀ b, b ∉ tadr cs → H b = none := fun b hb => by rw [← hH]; exact if_neg hb
    have sq : SqL K H a (ns.map V.int) := .inr ⟨_, vs.toArray, _, hk, rfl, rfl, rfl, by rw [List.size_toArray, lv]; exact small, by simpa using rv⟩
    refine callLG_at inK top bl blb nl ng T bmod obj hr F bind (H := H) (fun p hp => hin _ (inT p hp)) (fun b => ?_) (fun b u z => ?_) (fun b z => .inr (Classical.byContradiction fun n => z (hno b n))) (fun z => absurd (hno a aT) z) (q _ (fun p hp => hin _ (inT p hp)) sq)
    · exact (Classical.em (b ∈ tadr cs)).elim (fun h => .inr (.inl h)) fun h => .inl (hno b h)
    · by_cases hb : b ∈ tadr cs
      · rw [hin b hb] at z
        cases z
        exact tadr_at T hb
      · rw [hno b hb] at z
        cases z
  | none =>
    generalize hH : (fun b => if b = a then some (HO.frz { cls := .type "list", data := .seq vs.toArray } (.lst (ns.map V.int))) else if b ∈ tadr cs then some (HO.tbl #[]) else none : Hp) = H
    have here : H a = some (.frz { cls := .type "list", data := .seq vs.toArray } (.lst (ns.map V.int))) := by rw [← hH]; exact if_pos rfl
    have hin : ∀ b, b ∈ tadr cs → H b = some (.tbl #[]) := fun b hb => by rw [← hH]; exact (if_neg (fun z : b = a => aT (z ▸ hb))).trans (if_pos hb)
    have hno : ∀ b, b ≠ a → b ∉ tadr cs → H b = none := fun b n hb => by rw [← hH]; exact (if_neg n).trans (if_neg hb)
    refine callLG_at inK top bl blb nl ng T bmod obj hr F bind (H := H) (fun p hp => hin _ (inT p hp)) (fun b => ?_) (fun b u z => ?_) (fun b z => ?_) (fun _ => hk) (q _ (fun p hp => hin _ (inT p hp)) (.inl (.inr ⟨_, here⟩)))
    · by_cases e : b = a
      · exact .inr (.inr ⟨{ cls := .type "list", data := .seq vs.toArray }, ns.map V.int, by rw [e]; exact here⟩)
      · exact (Classical.em (b ∈ tadr cs)).elim (fun h => .inr (.inl h)) fun h => .inl (hno b e h)
    · by_cases e : b = a
      · subst e
        rw [here] at z
        cases z
        exact ⟨obj, by rw [List.length_map]; exact small, vs, _, rv, obj⟩
      · by_cases hb : b ∈ tadr cs
        · rw [hin b hb] at z
          cases z
          exact tadr_at T hb
        · rw [hno b e hb] at z
          cases z
    · by_cases e : b = a
      · exact .inl e
      · exact .inr (Classical.byContradiction fun n => z (hno b e n))
end
end Rx
namespace Rx
open PySem PySem.Spec PyProof.Rows L2
section
variable {P : Program} {w : World} {K : PySem.W.Frag} {mg : Str → Option Value} {base : Heap}
theorem okGT {x qual : Str} {st : Stmt} {f : Addr} {fd : FuncData} {N ps : List Str} {k : Nat} {sp : Sp} (F : Fun K x qual st f fd) (S : FnScope N ps (defScope st)) (len : ∀ vs H Q E, sp vs H Q E → vs.length = ps.length)
    (hbody : ∀ (cdv : Value) (A : Around) (outer : List Env) (s : Shared) (H : Hp) (vs : List V) (Q : VK) (E : XK), fd.code = cdv → A.guards = some [] → Room k (A.deeper (envOfC qual (defScope st) s.heap.objs.size f cdv)) → sp vs H Q E →
      ∃ t, PSs (cxOf CX0 P w K mg base N qual (defScope st) f cdv A outer s H E).nox (defBody st) t ∧ t { nx := fun _ H' => Q .non H', rt := Q } (start N vs) H) : FnG P w K mg base (k + 1) f fd ps sp := by
  obtain ⟨oc, od, kV, doc, pm, an, cdv, ct, osl, e, lk, hcd⟩ := F.ex
  have hc : fd.code = cdv := by rw [e]
  subst e
  refine ⟨len, fun A gu hr outer s H args us vs Q E en bt rv hs => ?_⟩
  have inK : K.In s.heap := en.mod.kin.keeps fun b o h => (en.bs b o h).1
  have names : ∀ y ∈ ps.zip us, (defScope st).names.lookup y.1 = some .local ∨ ((defScope st).names.lookup y.1 = some .cell ∧ ((cellsFrom (s.heap.objs.size + 1) (defScope st).names []).lookup y.1).isSome = true) := by
    rintro ⟨n, v⟩ hy
    exact (S.par n (List.of_mem_zip hy).1).imp id fun q => ⟨q, PySem.W.cellsFrom_some _ _ _ (.inl q)⟩
  refine codeAny_call_function hr.depth (inK _ _ lk) rfl S.co S.gen rfl (PySem.W.codeRec_of inK hcd) (bt _ _ _ _ (wpAny_newFunctionEnv_cells S.kind names fun env he s1 inner => ?_))
  subst he
  refine ⟨(en.mod.nolimit.keeps fun b o h => (en.bs b o h).1).keeps inner.toInCall.keep, codeAny_func ?_⟩
  obtain ⟨t, ht, hq⟩ := hbody cdv A outer s H vs Q E hc gu (hr.deeper _) hs
  have start0 : Inv (cxOf CX0 P w K mg base N qual (defScope st) f cdv A outer s H E) [] (start N vs) H s1 := inv_start S hr.hd en (len _ _ _ _ hs) rv inner
  have leave : ∀ {σ' : L2.St} {H' : Hp} {v : V} {u : Value} {s' : Shared}, Inv (cxOf CX0 P w K mg base N qual (defScope st) f cdv A outer s H E) [] σ' H' s' → RelV v u → Q v H' → CE outer P w H s Q u s' :=
    fun {σ' H' v u s'} J r q => ⟨v, H', J.os, J.bare, J.base, J.hok, r, q⟩
  refine wpAny_mono (ht.nox.run [] s1 (start N vs) H _ start0 hq) (fun fl s' hs' => ?_) fun _ _ h => h
  rcases fl with _ | _ | _ | u
  · obtain ⟨σ', H', J, q⟩ := hs'
    exact leave (v := V.non) (u := Value.none) J rfl q
  · obtain ⟨_, _, _, q⟩ := hs'
    exact q.elim
  · obtain ⟨_, _, _, q⟩ := hs'
    exact q.elim
  · obtain ⟨v, σ', H', J, r, q⟩ := hs'
    exact leave J r q
end
theorem ret_tab {H H1 : Hp} {P : Addr} {q : Str} (k : ∀ b o, b ≠ P → H b = some o → H1 b = some o) (t : LamX.TabS H1 P q) : Ret [(P, some q)] H H1 where
  kp := fun a o n h => k a o (fun z => n (by rw [z]; exact List.mem_singleton.mpr rfl)) h
  pot := fun a h => by
    rw [List.mem_singleton.mp h]
    exact t
  grow := fun a h => by
    by_cases e : a = P
    · obtain ⟨xs, h1, _⟩ := t
      rw [e, h1]
      exact fun z => nomatch z
    · cases q2 : H a with
      | none => exact absurd q2 h
      | some o =>
        rw [k a o e q2]
        exact fun z => nomatch z
theorem rep_lam {ms ms' : List Addr} {H H1 : Hp} {d : D} {u : V} (hs : ∀ a ∈ ms', a ∈ ms ∨ H a = none) (e : Ext H H1) (h : rep ms H d u) : rep ms' H1 d u :=
  rep_map (fun p o n hp => ⟨fun z => (hs p z).elim n (fun y => by rw [y] at hp; cases hp), e.keep hp⟩) d u h
section
variable {X : Cx}
end
theorem tkE {X : Cx} {E : XK} (hs : X.stack = X.env :: X.outer) (hf : X.env.frame = some X.env.locals) (hex : X.ex = [])
    (hx : X.xe = fun e s' => wpAny (model X.prog X.w) X.A (leaving X.env e) (fun _ s'' => L2.CX X.prog X.w X.outer X.H_0 X.s_0 E e s'') (fun e' s'' => L2.CX X.prog X.w X.outer X.H_0 X.s_0 E e' s'') s') : Takes X (fun cls d _ H => E cls d H) := takes_of hs hf hex hx
theorem passE {X : Cx} {E : XK} (hs : X.stack = X.env :: X.outer) (hf : X.env.frame = some X.env.locals) (hex : X.ex = [])
    (hx : X.xe = fun e s' => wpAny (model X.prog X.w) X.A (leaving X.env e) (fun _ s'' => L2.CX X.prog X.w X.outer X.H_0 X.s_0 E e s'') (fun e' s'' => L2.CX X.prog X.w X.outer X.H_0 X.s_0 E e' s'') s') : Passes (L2.CX X.prog X.w) X E :=
  passes_call (tkE hs hf hex hx) fun _ _ _ _ h => h
theorem rep_reprX {ms : List Addr} {H : Hp} {x : V} {d : D} {Q : VK} (h : rep ms H d x) (p : plainX d = true ∧ (pyX d).showable = true ∧ (pyX d).depth ≤ 60 ∧ (pyX d).shown.length ≤ sizeLine) (q : Q (.str (pyX d).shown) H) : rReprX ms [x] H Q :=
  ⟨x, d, rfl, h, p.1, p.2.1, p.2.2.1, p.2.2.2, q⟩
end Rx
namespace Rx
open PySem PySem.Spec PyProof.Rows L2
def isT (d : D) (b : String) : Bool := (kitB (tyN d) b).getD false
theorem kitB_isT {d : D} (h : tyOk d = true) {b : String} (hb : b = "int" ∨ b = "bool" ∨ b = "str" ∨ b = "list" ∨ b = "tuple" ∨ b = "dict") : kitB (tyN d) b = some (isT d b) := by
  have key : ∀ a ∈ (["NoneType", "bool", "int", "str", "list", "tuple", "dict"] : List String), ∀ b ∈ (["int", "bool", "str", "list", "tuple", "dict"] : List String), (kitB a b).isSome = true := by decide +kernel
  have m : tyN d ∈ (["NoneType", "bool", "int", "str", "list", "tuple", "dict"] : List String) := by
    cases d with
    | v x => cases x <;> first | (simp only [tyOk] at h; done) | (cases h; done) | (simp [tyN])
    | ins _ _ _ => cases h
    | _ => simp [tyN]
  have n : b ∈ (["int", "bool", "str", "list", "tuple", "dict"] : List String) := by
    rcases hb with rfl | rfl | rfl | rfl | rfl | rfl <;> simp
  have := key _ m _ n
  unfold isT
  obtain ⟨r, hr⟩ := Option.isSome_iff_exists.mp this
  rw [hr]
  rfl
def rReprY : List V → Hp → VK → Prop := fun xs H Q => ∃ ms, rReprX ms xs H Q
theorem call_reprY {X : Cx} (gu : X.A.guards = some []) (un : X.A.units + 65 < cLine) : CallR X (.builtin "repr") rReprY := fun pins s σ H xs us Q I r ⟨ms, h⟩ => call_reprX gu un pins s σ H xs us Q I r h
theorem rep_reprY {ms : List Addr} {H : Hp} {x : V} {d : D} {Q : VK} (h : rep ms H d x) (p : plainX d = true ∧ (pyX d).showable = true ∧ (pyX d).depth ≤ 60 ∧ (pyX d).shown.length ≤ sizeLine) (q : Q (.str (pyX d).shown) H) : rReprY [x] H Q :=
  ⟨ms, rep_reprX h p q⟩
end Rx
namespace Rx
open PySem PySem.Spec PyProof.Rows L2
section
variable {ms : List Addr} {ps : List PEn} {H0 H H1 H' : Hp} {d : D} {u : V} {L : Addr}
end
end Rx
namespace Rx
open PySem PySem.Spec PyProof.Rows L2
theorem sub1 {p : PEn} {ps : List PEn} (h : p ∈ ps) : ∀ a ∈ [p], a ∈ ps := fun a ha => by
  rw [List.mem_singleton.mp ha]
  exact h
theorem Ret.upN {ps ps' : List PEn} {ms : List Addr} {cs : List (Addr × List V)} {H0 H H' : Hp} (hs : ∀ a ∈ ps', a ∈ ps) (ht : ∀ a ∈ ps, ∀ b ∈ ps', a.2 ≠ none → a.1 = b.1 → a ∈ ps') (w : Wd ms ps cs H0 H) (e : Ret ps' H H') : Ret ps H H' := e.upW hs (fun p h z => by
  obtain ⟨p2, h2, e2⟩ := List.mem_map.mp z
  have a1 := w.pot p h
  have a2 := w.pot p2 (hs p2 h2)
  obtain ⟨a, k⟩ := p
  obtain ⟨b, k'⟩ := p2
  cases e2
  cases k with
  | some q => exact ht _ h _ h2 (by simp) rfl
  | none =>
    cases k' with
    | none => exact h2
    | some q =>
      obtain ⟨i, j, h1, _⟩ := a1
      obtain ⟨xs, h3, _⟩ := a2
      rw [h1] at h3
      cases h3) w
theorem nd_inj : ∀ {l : List PEn}, (l.map Prod.fst).Nodup → ∀ a ∈ l, ∀ b ∈ l, a.1 = b.1 → a = b
  | [], _, a, ha, _, _, _ => absurd ha List.not_mem_nil
  | p :: l, h, a, ha, b, hb, e => by
    rw [List.map_cons, List.nodup_cons] at h
    rcases List.mem_cons.mp ha with rfl | ha2 <;> rcases List.mem_cons.mp hb with rfl | hb2
    · rfl
    · exact absurd (by rw [e]; exact List.mem_map.mpr ⟨b, hb2, rfl⟩) h.1
    · exact absurd (by rw [← e]; exact List.mem_map.mpr ⟨a, ha2, rfl⟩) h.1
    · exact nd_inj h.2 a ha2 b hb2 e
theorem tabN0 {tbs : List PEn} {p : PEn} (hn : (tbs.map Prod.fst).Nodup) (hp : p ∈ tbs) : ∀ a ∈ tbs, ∀ b ∈ [p], a.2 ≠ none → a.1 = b.1 → a ∈ [p] := fun a ha b hb _ e => by
  rw [List.mem_singleton.mp hb] at e
  rw [nd_inj hn a ha p hp e]
  exact List.mem_cons_self
theorem tabN {ap : Addr} {tbs : List PEn} {p : PEn} (hn : (tbs.map Prod.fst).Nodup) (hp : p ∈ tbs) : ∀ a ∈ ((ap, none) :: tbs : List PEn), ∀ b ∈ [p], a.2 ≠ none → a.1 = b.1 → a ∈ [p] := fun a ha b hb n e => by
  rcases List.mem_cons.mp ha with rfl | ha
  · exact absurd rfl n
  · exact tabN0 hn hp a ha b hb n e
end Rx
namespace Rx
open PySem PySem.Spec PyProof.Rows L2
theorem qual_nox {CX : CXT} {P : Program} {w : World} {K : PySem.W.Frag} {mg : Str → Option Value} {base : Heap} {N : List Str} {qual : Str} {scope : PySem.Scope} {f : Addr} {cd : Value} {A : Around} {outer : List Env} {s : Shared} {H : Hp} {E : XK} :
    (cxOf CX P w K mg base N qual scope f cd A outer s H E).nox.env.qual = qual ++ (".<locals>." : Str) := rfl
section
end
end Rx
namespace Rx
open PySem PySem.Spec PyProof.Rows L2
structure OexG (K : PySem.W.Frag) (C : Addr) : Prop where
  base : ∃ (B newId initId : String) (bmB : List Value), ExcBaseFacts B newId initId bmB ∧ StoreFacts B bmB "object.__setattr__" "object" ∧ PySem.W.excInitIn K C bmB newId = true ∧ PySem.W.excOver K C bmB = true
  cd : ∃ cd, PySem.W.clsIn K C = some cd ∧ cd.hasDict = true
  sa : PySem.W.findIn K (.ref C) "__setattr__" = some (some (.builtin "object.__setattr__"))
  exC : PySem.W.subIn K (.ref C) (.type "BaseException") = some true
  tyC : PySem.W.typeIn K (.ref C) = some (.type "type")
  kC : PySem.W.keepIn K (.ref C) = true
section
open PySem.W Builtin Builtin.ObjectAttr
variable {prog : Program} {w : World} {A : Around} {R : Result → Shared → Prop} {hp : Heap} {g : Array GenState} {d : Drawn} {t : Nat} {os : OsState} {K : PySem.W.Frag} {x C : Addr} {name : Str} {tk : Tok} {v : Value}
theorem taker_none (ha : findIn K (.ref C) name = some none) : takerIn K C name = some none := by
  unfold takerIn
  rw [ha]
  rfl
theorem gosa_new (T : OexG K C) (X : K.In hp) {fv : Array Value} (hx : hp.get? x = some { cls := .ref C, data := .fields fv }) (ha : findIn K (.ref C) name = some none)
    (hq : ∀ h' tk' dx, (∀ b o, b ≠ x → hp.get? b = some o → h'.get? b = some o) → hp.objs.size ≤ dx → dx ≠ x → h'.get? x = some { cls := .ref C, dict := some dx, data := .fields fv } →
      h'.Ns1 dx (fun y => if y = name then some v else none) → R (.ok (.ret .none)) ⟨h', g, d, tk', os⟩) :
    codeAny (model prog w) A (.call (.builtin "object.__setattr__") ⟨[.ref x, .str name tk, v], []⟩) R ⟨hp, g, d, t, os⟩ := by
  obtain ⟨B, newId, initId, bmB, F, SF, q1, q2⟩ := T.base
  obtain ⟨cd, hc, hh⟩ := T.cd
  have hxs : x ≠ hp.objs.size := Nat.ne_of_lt (Heap.lt_size hx)
  have hcls : W.Looks (model prog w) hp (classData C) cd := W.looks_clsIn X hc
  refine osa_openX (s := ⟨hp, g, d, t, os⟩) (od := none) SF X ⟨hx, rfl, rfl, trivial⟩ q2 (taker_none ha) fun b => ?_
  obtain ⟨nm, bs, mro, ns, qn, hd, sn, sb, ab, col, del⟩ := cd
  dsimp only at hh
  subst hh
  show wpAny _ _ (storeInOwnDict (.ref x) (.ref C) (.str name tk) name v b) _ _ _
  unfold storeInOwnDict ownDictForStores
  repeat (first | with_reducible refine PySem.HandSPX.store_in_new ?_ ?_ | with_reducible refine wpAny_loadPart_at hx ?_ | with_reducible refine hcls.at ?_ | wp_step)
  · exact ⟨_, #[], _, (Heap.get?_update_ne _ _ _ _ hxs.symm).trans (Heap.get?_push_at rfl rfl), rfl, fun e he => absurd he (by simp), fun _ => rfl⟩
  · intro h' tk' hn' hs
    refine hq h' tk' hp.objs.size (fun b o hb ho => ?_) (Nat.le_refl _) hxs.symm ?_ hn'
    · exact (hs.2 b (Nat.ne_of_lt (Heap.lt_size ho))).trans ((Heap.get?_update_ne _ _ _ _ hb).trans (Heap.get?_push_of_some _ ho))
    · exact (hs.2 x hxs).trans (Heap.get?_update_self _ (Heap.get?_push_of_some _ hx) rfl)
theorem gosa_old (T : OexG K C) (X : K.In hp) {fv : Array Value} {dx : Addr} {m0 : Str → Option Value} {nl : List Str} (hx : hp.get? x = some { cls := .ref C, dict := some dx, data := .fields fv }) (hns : hp.Ns1 dx m0) (hw : Within m0 nl) (hz : nl.length ≤ 1000)
    (ha : findIn K (.ref C) name = some none)
    (hq : ∀ h' tk', (∀ b o, b ≠ dx → hp.get? b = some o → h'.get? b = some o) → h'.Ns1 dx (fun y => if y = name then some v else m0 y) → R (.ok (.ret .none)) ⟨h', g, d, tk', os⟩) :
    codeAny (model prog w) A (.call (.builtin "object.__setattr__") ⟨[.ref x, .str name tk, v], []⟩) R ⟨hp, g, d, t, os⟩ := by
  obtain ⟨B, newId, initId, bmB, F, SF, q1, q2⟩ := T.base
  obtain ⟨cd, hc, hh⟩ := T.cd
  obtain ⟨oD, esD, epD, hoD, hdD, _⟩ := hns.count hw
  have hcls : W.Looks (model prog w) hp (classData C) cd := W.looks_clsIn X hc
  refine osa_openX (s := ⟨hp, g, d, t, os⟩) (od := some oD) SF X ⟨hx, rfl, rfl, hoD⟩ q2 (taker_none ha) fun b => ?_
  obtain ⟨nm, bs, mro, ns, qn, hd, sn, sb, ab, col, del⟩ := cd
  dsimp only at hh
  subst hh
  show wpAny _ _ (storeInOwnDict (.ref x) (.ref C) (.str name tk) name v b) _ _ _
  unfold storeInOwnDict ownDictForStores
  repeat (first | with_reducible refine PySem.OEX.store_in_old hns hw hz ?_ | with_reducible refine wpAny_loadPart_at hx ?_ | with_reducible refine hcls.at ?_ | wp_step)
  intro h' tk' hn' hs
  exact hq h' tk' (fun b o hb ho => (hs.2 b hb).trans ho) hn'
end
section
variable {X : Cx} {pins : List (Addr × Obj)} {σ : L2.St} {H : Hp} {s : Shared} {a C dx : Addr} {f : Str} {y : V} {u : Value} {fs : List (Str × V)} {Q : Unit → Shared → Prop} {E : Value → Shared → Prop}
theorem gost_new (T : OexG X.K C) (I : L2.Inv X pins σ H s) (e : H a = some (exo a C none)) (hno : PySem.W.findIn X.K (.ref C) f = some none) (ry : RelV y u)
    (h : ∀ dx s', H dx = none → dx ≠ a → L2.Inv X pins σ (upd (upd H dx (exd dx [(f, y)])) a (exo a C (some dx))) s' → Q () s') : wpAny (model X.prog X.w) A (setAttr (.ref a) f u) Q E s := by
  obtain ⟨t1, ho⟩ := exo_at I.hok e
  obtain ⟨hp, g, d, t, os⟩ := s
  refine PySem.W.set_plain I.kIn (ox := { cls := .ref C, dict := none, data := .fields #[.ref t1, .none, .none, .none, .bool false, .none] }) (od := none) ⟨ho, rfl, rfl, trivial⟩ T.sa ?_
  refine gosa_new T I.kIn ho hno fun h' tk' dx k dn dne hx hn => ?_
  have hnd : H dx = none := I.hok.fresh dn
  have other : ∀ {b : Addr} {o : HO}, b ≠ a → H b = some o → (upd (upd H dx (exd dx [(f, y)])) a (exo a C (some dx))) b = some o := fun {b o} nb hb => by
    rw [upd_ne nb, upd_ne (ne_of_none hb hnd)]
    exact hb
  have free : ∀ {b : Addr} {o : Obj}, hp.get? b = some o → H b = none → b ≠ a ∧ b ≠ dx := fun {b o} q n =>
    ⟨(fun z => by rw [z, e] at n; cases n), Nat.ne_of_lt (Nat.lt_of_lt_of_le (Heap.lt_size q) dn)⟩
  have un : Un X.fs [] H (upd (upd H dx (exd dx [(f, y)])) a (exo a C (some dx))) hp h' := {
    keep := fun b o q n _ _ => k b o (free q n).1 q
    slot := fun b o q n _ _ => ⟨o.slots, k b o (free q n).1 q⟩
    free := fun b o q n _ => by rw [upd_ne (free q n).1, upd_ne (free q n).2]; exact n
    there := fun b o q _ => by
      by_cases hb : b = a
      · exact ⟨_, by rw [hb]; exact hx⟩
      · exact ⟨o, k b o hb q⟩
    tups := fun b xs q => other (at_ne e q exo_tup) q
    frzs := fun b o v q => other (at_ne e q exo_frz) q
    tbls := fun b ps q => ⟨#[], by rw [other (at_ne e q exo_tbl) q]; simp⟩ }
  refine h dx _ hnd dne (I.un (t' := tk') un fun b o q => ?_)
  by_cases hb : b = a
  · subst hb
    rw [upd_same] at q
    cases q
    exact exo_ok hx
  rw [upd_ne hb] at q
  by_cases hd : b = dx
  · subst hd
    rw [upd_same] at q
    cases q
    exact exd_ok hn (relO_put (fs := []) ry fun g => True.intro)
  rw [upd_ne hd] at q
  refine (I.hok b o q).stay (fun c v hc z => k c v ?_ z) (fun c hc => other (at_ne e hc exo_own) hc) fun c xs hc => other (at_ne e hc exo_tup) hc
  rcases hc with hc | hc
  · rw [hc]
    exact hb
  · exact at_ne e hc exo_own
theorem gost_old (T : OexG X.K C) (I : L2.Inv X pins σ H s) (e : H a = some (exo a C (some dx))) (ed : H dx = some (exd dx fs)) (hl : fs.length ≤ 900) (hno : PySem.W.findIn X.K (.ref C) f = some none) (ry : RelV y u)
    (h : ∀ s', L2.Inv X pins σ (upd H dx (exd dx ((f, y) :: fs))) s' → Q () s') : wpAny (model X.prog X.w) A (setAttr (.ref a) f u) Q E s := by
  obtain ⟨t1, ho⟩ := exo_at I.hok e
  obtain ⟨mA, hns, rel⟩ := exd_at I.hok ed
  have hw := within_of rel
  obtain ⟨hp, g, d, t, os⟩ := s
  obtain ⟨oD, _, _, hoD, _, _⟩ := hns.count hw
  refine PySem.W.set_plain I.kIn (ox := { cls := .ref C, dict := some dx, data := .fields #[.ref t1, .none, .none, .none, .bool false, .none] }) (od := some oD) ⟨ho, rfl, rfl, hoD⟩ T.sa ?_
  refine gosa_old T I.kIn ho hns hw (by rw [List.length_map]; omega) hno fun h' tk' k hn => ?_
  have hd : ∃ o, h'.get? dx = some o := by
    obtain ⟨o, _, _, e', _⟩ := hn
    exact ⟨o, e'⟩
  exact h _ (I.write (t' := tk') (x := dx) (e := dx) (o := exd dx ((f, y) :: fs)) (by rw [ed]; exact True.intro) (.inl rfl) k hd (exd_ok hn (relO_put ry rel)))
end
def tOstG (K : PySem.W.Frag) (f : Str) (to te : TE) : TS := fun D σ H => te σ H fun y H1 => to σ H1 fun x H2 => ∃ a C : Addr, x = .ref a ∧ OexG K C ∧ PySem.W.findIn K (.ref C) f = some none ∧
  ((H2 a = some (exo a C none) ∧ ∀ dx, H2 dx = none → dx ≠ a → D.nx σ (upd (upd H2 dx (exd dx [(f, y)])) a (exo a C (some dx)))) ∨
    ∃ (dx : Addr) (fs : List (Str × V)), H2 a = some (exo a C (some dx)) ∧ H2 dx = some (exd dx fs) ∧ fs.length ≤ 900 ∧ D.nx σ (upd H2 dx (exd dx ((f, y) :: fs))))
section
variable {X : Cx} {o e : PySem.Expr} {es : List PySem.Expr} {to te : TE} {ta : TA} {f : Str} {p p' pos : Pos}
theorem ps_ostG {K : PySem.W.Frag} (hK : X.K = K) (ho : PE X o to) (he : PE X e te) (hs : swapsWith e (some (.Attribute o f p')) pos.line X.env = pure false := by rfl) : PS X (.Assign [.Attribute o f p'] e pos) (tOstG K f to te) := by
  subst hK
  refine ⟨fun pins s σ H D I h => ?_⟩
  refine plainObj_wpAny_Assign_Attribute (thn (he.run pins s σ H _ I h) fun v s1 ⟨y, H1, I1, r1, q1⟩ => thn (ho.run pins s1 σ H1 _ I1 q1) fun u s2 ⟨x, H2, I2, r2, a, C, ex, T, hno, q⟩ => ?_) hs
  subst ex
  obtain rfl : u = Value.ref a := r2
  rcases q with ⟨ea, q⟩ | ⟨dx, fs, ea, ed, hl, q⟩
  · exact gost_new T I2 ea hno r1 fun dx s' n ne J => ⟨σ, _, J, q dx n ne⟩
  · exact gost_old T I2 ea ed hl hno r1 fun s' J => ⟨σ, _, J, q⟩
theorem pmk_oexG {CX : CXT} {x : Str} {C fI : Addr} {k : Nat} {fd : FuncData} {ps : List Str} {sp : Sp} {ds : List Value} {dvs : List V} (T : OexG X.K C) (iC : PySem.W.findIn X.K (.ref C) "__init__" = some (some (.ref fI))) (tI : PySem.W.typeIn X.K (.ref fI) = some (.type "function"))
    (F1 : FnOk X.prog X.w X.K X.mg X.base CX k fI fd ps sp) (hr : Room (k + 1) X.A) (hb : L2.Binds X.K fd ps ds) (hd : Vals dvs ds) (hx : Passes CX X (fun _ _ _ => False)) (hg : Gl X x) (hm : X.mg x = some (.ref C)) (ha : PA X (e :: es) ta)
    (hdb : (x == ("__debug__" : Str)) = false := by decide) (he : starEach (e :: es) X.env = (false, eval e X.env) :: starEach es X.env := by rfl) (hpl : (backTo pos (starEach es X.env)).any (·.1) = false := by rfl) :
    PMk X (.Call (.Name x p) (e :: es) [] pos) (tMkO C sp dvs ta) := by
  intro pins s σ H Q I h
  obtain ⟨B, newId, initId, bmB, F, SF, q1, q2⟩ := T.base
  refine wpAny_Call_Name_kw (ld_glob I hg hm ?_ hdb)
  refine PySem.W.callWith_K (h₀ := X.base) I.ok.mod.kin T.kC (thn (ha.run pos pins s σ H _ I h) fun us s1 ⟨vs, H1, I1, r1, hz, qq⟩ => ⟨I1.kIn, ?_⟩) he hpl
  show wpAny _ _ (call (.ref C) us) _ _ _
  obtain ⟨hp, g, dr, tk, os⟩ := s1
  obtain ⟨nm, N, qn, bs, bm, hdct, sn, sub, ab, col, dd, k0, k1, k2, k3, k5, hC, hT⟩ := PySem.W.excInit_of I1.kIn q1
  generalize ea : hp.objs.size + 1 = a
  have hsz : hp.objs.size ≤ a := by omega
  have hn : H1 a = none := I1.hok.fresh hsz
  have hq := qq a hn
  have kk : ∀ b o, hp.get? b = some o → ((hp.push (PySem.W.kdv_tup us)).push (PySem.HandSPX.excO C hp.objs.size)).get? b = some o := fun b o e => Heap.get?_push_of_some _ (Heap.get?_push_of_some _ e)
  have hget : ((hp.push (PySem.W.kdv_tup us)).push (PySem.HandSPX.excO C hp.objs.size)).get? a = some (PySem.HandSPX.excO C hp.objs.size) := by
    rw [← ea]
    heap_get
  have I2 := I1.laid (t' := tk) (a := a) (o := exo a C none) (h' := (hp.push (PySem.W.kdv_tup us)).push (PySem.HandSPX.excO C hp.objs.size)) kk hsz (exo_ok hget)
  have r2 : Vals (V.ref a :: (vs ++ dvs)) (Value.ref a :: (us ++ ds)) := .cons rfl (r1.append hd)
  have hl : (Value.ref a :: us ++ ds).length = ps.length := by
    have e := r2.length
    rw [F1.len _ _ _ _ hq] at e
    exact e.symm
  have hus : us.length ≤ sizeLine := by
    rw [← Paired.length r1, sizeLine_eq]
    omega
  refine wpAny_call (PySem.HandSPX.call_own F hT hC (PySem.W.looks_findIn I1.kIn iC) (fun self => PySem.W.bind_fn I1.kIn self tI) hus ?_)
  rw [ea]
  refine codeAny_mono (F1.run _ X.stack _ _ ⟨Value.ref a :: us, []⟩ (Value.ref a :: (us ++ ds)) _ _ (fun _ _ _ => False) (hr.make C us []) (I2.env0.make C us []) (hb _ (Value.ref a :: us) I2.kIn hl) r2 hq) fun r s' hq' => ?_
  cases r with
  | error er => exact hx pins σ _ _ er s' I2 hq'
  | ok fl =>
    cases fl with
    | ret u =>
      obtain ⟨v, H2, os2, bare2, un2, hok2, rv, ev, d, fs, ea2, ed, hd1, q3⟩ := hq'
      subst ev
      obtain ⟨h2, g2, d2, t2, os'⟩ := s'
      exact ⟨rv, mk_end (raises_own T.exC T.tyC) I1 hsz kk un2 hok2 os2 bare2 ea2 ed hd1 q3⟩
    | next => exact False.elim hq'
    | brk => exact False.elim hq'
    | cont => exact False.elim hq'
end
def sp_exi2 (C : Addr) (n m : Str) : Sp := fun vs H Q _ => ∃ (a : Addr) (y z : V), vs = [.ref a, y, z] ∧ H a = some (exo a C none) ∧ ∀ dx, H dx = none → dx ≠ a → Q .non (upd (upd (upd H dx (exd dx [(n, y)])) a (exo a C (some dx))) dx (exd dx [(m, z), (n, y)]))
section
variable {ms ms' : List Addr} {ps : List PEn} {cs : List (Addr × List V)} {H0 H H1 H' : Hp} {C : Addr}
theorem exc_mk2 {n m : Str} {v z : V} {Q : XK} (h : ∀ d, H1 d = none → Q (.ref C) (some d) (upd H1 d (.xd [(m, z), (n, v)]))) :
    [v, z].length ≤ 1000 ∧ ∀ a, H1 a = none → sp_exi2 C n m (.ref a :: ([v, z] ++ [])) (upd H1 a (exo a C none))
      (fun w H2 => w = .non ∧ ∃ (x : Addr) (fs : List (Str × V)), H2 a = some (exo a C (some x)) ∧ H2 x = some (exd x fs) ∧ H1 x = none ∧ Q (.ref C) (some x) (upd (del H2 a) x (.xd fs))) (fun _ _ _ => False) := by
  refine ⟨(by show 2 ≤ 1000; decide), fun a na => ⟨a, v, z, rfl, upd_same, fun dx nd ne => ?_⟩⟩
  have nd' : H1 dx = none := by
    rw [upd_ne ne] at nd
    exact nd
  refine ⟨rfl, dx, [(m, z), (n, v)], by rw [upd_ne (Ne.symm ne), upd_same], upd_same, nd', ?_⟩
  have e : upd (del (upd (upd (upd (upd H1 a (exo a C none)) dx (exd dx [(n, v)])) a (exo a C (some dx))) dx (exd dx [(m, z), (n, v)])) a) dx (.xd [(m, z), (n, v)]) = upd H1 dx (.xd [(m, z), (n, v)]) := by
    funext b
    by_cases h1 : b = dx
    · rw [h1, upd_same, upd_same]
    · rw [upd_ne h1, upd_ne h1]
      by_cases h2 : b = a
      · rw [h2, del_same, na]
      · rw [del_ne h2, upd_ne h1, upd_ne h2, upd_ne h1, upd_ne h2]
  rw [e]
  exact h dx nd'
theorem exc_out2 {n m : Str} {v z : V} {dv dz : D} (w : Wd ms ps cs H0 H1) (hr : rep ms H1 dv v) (hs : rep ms H1 dz z) {dx : Addr} (nd : H1 dx = none) : Ret ps H0 (upd H1 dx (.xd [(m, z), (n, v)])) ∧ excR ms (upd H1 dx (.xd [(m, z), (n, v)])) C [m, n] [dz, dv] (.ref C) (some dx) := by
  have e : Rx.Ext H1 (upd H1 dx (.xd [(m, z), (n, v)])) := Rx.Ext.new nd
  exact ⟨(w.ret0 e).out, rfl, dx, [z, v], rfl, upd_same, rfl, repL_cons (rep_ext e hs) (repL_cons (rep_ext e hr) repL_nil)⟩
end
theorem oexG_of {K : PySem.W.Frag} {C : Addr} {B newId initId : String} {bmB : List Value} (F : ExcBaseFacts B newId initId bmB) (SF : StoreFacts B bmB "object.__setattr__" "object") (q1 : PySem.W.excInitIn K C bmB newId = true) (q2 : PySem.W.excOver K C bmB = true)
    (hd : (PySem.W.clsIn K C).any (fun cd => cd.hasDict) = true) (sa : PySem.W.findIn K (.ref C) "__setattr__" = some (some (.builtin "object.__setattr__"))) (ex : PySem.W.subIn K (.ref C) (.type "BaseException") = some true) (ty : PySem.W.typeIn K (.ref C) = some (.type "type")) (kc : PySem.W.keepIn K (.ref C) = true) : OexG K C :=
  ⟨⟨B, newId, initId, bmB, F, SF, q1, q2⟩, by
    cases h : PySem.W.clsIn K C with
    | none => rw [h] at hd; cases hd
    | some cd => rw [h] at hd; exact ⟨cd, rfl, hd⟩, sa, ex, ty, kc⟩
end Rx
namespace Rx
open PySem PySem.Spec PyProof.Rows L2
section
variable {α : Type}
end
section
end
section
variable {K : PySem.W.Frag} {ms : List Addr} {ps : List PEn} {H0 H : Hp} {x : V} {L : Addr} {ds : List D}
end
section
variable {X : L2.Cx}
end
section
variable {X : L2.Cx} {e : PySem.Expr} {te : TE}
end
section
variable {α β : Type} {K : PySem.W.Frag} {H1 : Hp} {σ : L2.St} {Qd : Hp → Prop} {L : Addr} {ms : List Addr} {tc : TE}
end
section
variable {K : PySem.W.Frag} {ms : List Addr} {H : Hp} {x : V} {a : Addr} {ds : List D}
end
end Rx
namespace Rx
open PySem PySem.Spec PyProof.Rows L2
section
variable {M : Model} {A : Around} {E : Value → Shared → Prop} {s : Shared} {a : Addr} {pos : Pos} {Q : Value → Shared → Prop}
end
section
variable {K : PySem.W.Frag} {X : Cx} {C g0 : Addr} {CX : CXT} {k : Nat} {sp : Sp} {E : XK} {fe : PySem.Expr} {tf : TE} {tk : TA} {pos : Pos} {fd : FuncData} {ps ks : List Str} {kws : List Keyword} {g : List Value → List Value → List Value} {gV : List V → List V → List V}
end
def tSMethK (C : Addr) (n : Nat) (gV : List V → List V → List V) (sp : Sp) (E : XK) (ta : TE) (tk : TA) : TE := fun σ H Q => ta σ H fun x H1 => x = .ref C ∧ tk σ H1 fun zs H2 => zs.length = n ∧ sp (gV [] zs) H2 Q E
section
variable {X : Cx} {CX : CXT} {k : Nat} {C g0 : Addr} {fd : FuncData} {ps ks : List Str} {sp : Sp} {E : XK} {o : PySem.Expr} {m : Str} {pos apos : Pos} {ta : TE} {tk : TA} {kws : List Keyword} {g : List Value → List Value → List Value} {gV : List V → List V → List V}
theorem pe_smethK {pl : Sem Bool} (he : PE X o ta) (c : SMet X.K C m g0) (F : FnOk X.prog X.w X.K X.mg X.base CX k g0 fd ps sp) (hr : Room k X.A) (hk : PySem.W.keepIn X.K (.ref g0) = true) (hb : KBn X.K fd ps 0 ks g gV) (hx : Passes CX X E) (hkw : PK X kws tk)
    (hall : (backToKw pos (keywordEach kws X.env)).all (·.1.isSome) = true := by rfl) (hks : (backToKw pos (keywordEach kws X.env)).filterMap (·.1) = ks := by rfl)
    (hpl : ((backTo pos (starEach [] X.env)).any (·.1) || (backToKw pos (keywordEach kws X.env)).any (·.1.isNone)) = false := by rfl)
    (ht : eval (.Call (.Attribute o m apos) [] kws pos) X.env = (do
      let ov ← eval o X.env
      standAt apos.atName
      let (f, first) ← holding [ov] (getMethod ov m pl)
      callWith pos f first (backTo pos (starEach [] X.env)) (backToKw pos (keywordEach kws X.env))) := by rfl) :
    PE X (.Call (.Attribute o m apos) [] kws pos) (tSMethK C ks.length gV sp E ta tk) := by
  obtain ⟨mc, r, p, hf, rest, hp⟩ := c.mc
  refine ⟨fun pins s σ H Q I h => ?_⟩
  refine PySem.W.methodCall_KW (pl := pl) (thn (he.run pins s σ H _ I h) fun u s1 ⟨x, H1, I1, rx, ex, q⟩ => ?_) ht
  subst ex
  obtain rfl : u = Value.ref C := rx
  refine PySem.W.method_cls I1.kIn r.ga (PySem.W.cls_bind I1.kIn r.rd hf ?_)
  refine wpAny_call (PySem.W.sm_get (s := { s1 with toks := s1.toks + 1 }) I1.kIn hp (PySem.W.handed_on rfl ?_))
  refine PySem.W.callWith_KW0 (first := []) (h₀ := X.base) I1.ok.mod.kin hk hall (thn (hkw.run pos pins _ σ H1 _ (I1.tok _) q) fun ws s2 ⟨zs, H2, I2, rz, l2, q2⟩ => ⟨I2.kIn, ?_⟩) hpl
  rw [hks]
  exact run_fnN (us := []) (vs := []) F hr hb hx I2 .nil rz rfl l2 q2
end
section
variable {X : Cx} {b : List Stmt} {t1 t2 : TS}
end
section
variable {ms ms' : List Addr} {ps : List PEn} {H0 H H1 : Hp} {L : Addr}
end
end Rx
namespace Rx
open PySem PySem.Spec PyProof.Rows L2
section
variable {X : Cx} {pins : List (Addr × Obj)} {σ : L2.St} {H : Hp} {s : Shared}
theorem pe_actT {T0 : CXT} {E0' : XK} {Ng : List Str} {qg a : Str} {sg scope : PySem.Scope} {g f c' : Addr} {cdg pm ctv : Value} {params : Arguments} {body : PySem.Expr} {k i : Nat} {pn : List (Addr × Obj)} {xe : Value → Shared → Prop} {W : WX} {tb : XK → TE} {p1 p2 : Pos} {A2 : Around} {st2 : List Env} {sb : Shared} {Hb : Hp}
    (I : L2.Inv X pins σ H s) (L : LamX.LamS X.env.scope scope) (un : ∀ (H1 : Hp) (s1 : Shared), Un (frs st2) [] Hb H1 sb.heap s1.heap → Un (frs X.stack) [] H H1 s.heap s1.heap) (obj : sb.heap.get? f = some (PySem.W.kla_obj "<lambda>" (X.env.qual ++ "<lambda>") params body scope (cloFrom X.env.cells scope.names []) pm c' ctv)) (fn : Hb f = none) (fr : f ∉ frs st2)
    (none_ : bindArgs (PySem.W.kla_fn "<lambda>" (X.env.qual ++ "<lambda>") params body scope (cloFrom X.env.cells scope.names []) pm (.ref c') ctv) ⟨[], []⟩ = pure [])
    (tk : Takes ((cxOf T0 X.prog X.w X.K X.mg X.base Ng qg sg g cdg A2 st2 sb Hb E0').tr pn xe) W) (hr : Room (k + 1) (A2.deeper (envOfC qg sg sb.heap.objs.size g cdg)))
    (inner : ∀ (A : Around) (outer : List Env) (s : Shared) (H : Hp) (E : XK), Room k (A.deeper (LamX.lamEnv X scope s.heap.objs.size f c')) → PE (LamX.lamCx X A outer s H E scope f c') body (tb E))
    (hN : Ng[i]? = some a) (hv : Vis sg a) (h1 : (a == "__debug__") = false) (h2 : (a == "__classdict__") = false) :
    PE ((cxOf T0 X.prog X.w X.K X.mg X.base Ng qg sg g cdg A2 st2 sb Hb E0').tr pn xe) (.Call (.Name a p1) [] [] p2)
      (fun σZ HZ Q => σZ[i]? = some (some (.ref f)) ∧ HZ c' = some (LamX.CodeO c' (X.env.qual ++ "<lambda>")) ∧ ∃ E : XK, (∀ cls d H', E cls d H' → W cls d σZ H') ∧ tb E σ HZ Q) := by
  refine ⟨fun pinsZ sZ σZ HZ Q IZ ⟨at_i, code, E, out, told⟩ => ?_⟩
  refine wpAny_Call_Name_kw (thn ((pe_var (pos := p1) (i := i) hN hv h1 h2).run pinsZ sZ σZ HZ (fun v H1 => v = .ref f ∧ H1 = HZ) IZ ⟨.ref f, at_i, rfl, rfl⟩) fun u s1 ⟨v, H1, I1, r1, ev, eH⟩ => ?_)
  subst ev
  subst eH
  obtain rfl : u = Value.ref f := r1
  have now : s1.heap.get? f = some (PySem.W.kla_obj "<lambda>" (X.env.qual ++ "<lambda>") params body scope (cloFrom X.env.cells scope.names []) pm c' ctv) := I1.base.keep f _ obj fn fr (fun z => nomatch (show f ∈ ([] : List Addr) from z))
  refine PySem.W.callWith_F0 ⟨_, _, _, _, now⟩ ?_
  obtain ⟨⟨oc, vs, t, hoc, hdc, hvc⟩, _, _⟩ := I1.hok c' _ code
  have same : Un (frs X.stack) [] H H1 s.heap s1.heap := un H1 s1 I1.base
  have run : codeAny (model X.prog X.w) (A2.deeper (envOfC qg sg sb.heap.objs.size g cdg)) (.call (.ref f) ⟨[], []⟩) (CR (L2.CX X.prog X.w) (envOfC qg sg sb.heap.objs.size g cdg :: st2) X.prog X.w H1 s1 Q E) s1 := by
    refine PySem.W.kla_callFunE hr.depth now rfl L.co L.gen rfl ⟨c', oc, vs, t, rfl, hoc, hdc, hvc⟩ ?_
    rw [none_]
    refine wpAny_pure (wpAny_newFunctionEnv (fun y hy => (L.own y hy).2) (fun y hy => absurd hy (by simp)) (fun h' hns hsb => ⟨I1.nolimit.fresh _ hsb, ?_⟩) L.kind)
    show codeAny _ _ (.expr body (LamX.lamEnv X scope s1.heap.objs.size f c')) _ _
    have kept : ∀ b o, s1.heap.get? b = some o → h'.get? b = some o := fun b o z => hsb.extBut b o (Nat.ne_of_lt (Heap.lt_size z)) (Heap.get?_push_of_some _ z)
    have J := LamX.lam_start2 (E := E) (f := f) (c' := c') (tk := s1.toks + ([] : List (Str × Value)).length) I L I1.env0 hr.hd same hns kept
    refine PySem.W.kla_codeExpr (wpAny_mono ((inner (A2.deeper (envOfC qg sg sb.heap.objs.size g cdg)) _ s1 H1 E (hr.deeper _)).run [] _ _ H1 Q J told) (fun v s' ⟨w', H', J', rv, q⟩ => ?_) fun _ _ z => z)
    exact ⟨w', H', J'.os, J'.bare, J'.base, J'.hok, rv, q⟩
  refine wpAny_call (codeAny_mono run fun r s' hq => ?_)
  rcases r with e | fl
  · exact tk e s' (XE.of_call I1 out hq)
  · rcases fl with _ | _ | _ | u
    · exact hq.elim
    · exact hq.elim
    · exact hq.elim
    · exact I1.after hq

theorem frs_cons {e : Env} {st : List Env} {b : Addr} (h : b ∈ frs (e :: st)) : e.frame = some b ∨ b ∈ frs st := by
  obtain ⟨x, hx, hb⟩ := List.mem_filterMap.mp h
  rcases List.mem_cons.mp hx with rfl | hx
  · exact .inl hb
  · exact .inr (List.mem_filterMap.mpr ⟨x, hx, hb⟩)
theorem frs_sub {e : Env} {st : List Env} {b : Addr} (h : b ∈ frs st) : b ∈ frs (e :: st) := by
  obtain ⟨x, hx, hb⟩ := List.mem_filterMap.mp h
  exact List.mem_filterMap.mpr ⟨x, List.mem_cons_of_mem _ hx, hb⟩
theorem un_two {st : List Env} {e : Env} {H Hb H2 : Hp} {h hb h2 : Heap} (a : Un (frs st) [] H Hb h hb) (b : Un (frs (e :: st)) [] Hb H2 hb h2) (hf : ∀ x, e.frame = some x → h.get? x = none) : Un (frs st) [] H H2 h h2 := by
  have am : Un (frs (e :: st)) [] H Hb h hb := a.mono (fun _ q => frs_sub q) (fun _ q => q)
  have t := am.trans b
  refine ⟨fun c ob q n hc hx => ?_, fun c ob q n hc hx => ?_, t.free, t.there, t.tups, t.frzs, t.tbls⟩
  · refine b.keep c ob (a.keep c ob q n hc hx) (a.free c ob q n hx) (fun z => ?_) hx
    rcases frs_cons z with z | z
    · rw [hf c z] at q
      cases q
    · exact hc z
  · exact t.slot c ob q n (frs_sub hc) hx
theorem pe_passS {Y : Cx} {TT : (XK → Hp → VK → Prop) → Hp → VK → Prop} {tl : XK → Hp → VK → Prop} {x a a2 q : Str} {g f c' : Addr} {k i : Nat} {Ng : List Str} {p1 p2 p3 : Pos} {cdv : Value}
    {pg : Arguments} {bg : List Stmt} {sg : PySem.Scope} {dV kV doc pm ct oc : Value} {an od : Option Addr} {osl : Array (Option Value)}
    (hg : Gl Y x) (hm : Y.mg x = some (.ref g)) (hk : PySem.W.keepIn Y.K (.ref g) = true)
    (lk : Y.K.lookup g = some ⟨oc, od, .func (PySem.W.fnOf x x pg bg sg dV kV doc pm an cdv ct), osl⟩) (hcg : PySem.W.codeIn Y.K cdv x = true)
    (hb : L2.Binds Y.K (PySem.W.fnOf x x pg bg sg dV kV doc pm an cdv ct) [a2] []) (Sg : FnScope Ng [a2] sg) (hN : Y.N[i]? = some a) (hv : Vis Y.env.scope a)
    (hG : Gives Y Ng x sg g cdv bg a2 q TT) (hr : Room (k + 3) Y.A)
    (act : ∀ (σ1 : L2.St) (H1 : Hp) (s1 : Shared) (pins1 : List (Addr × Obj)), L2.Inv Y pins1 σ1 H1 s1 → ∀ (W : WX) (pn : List (Addr × Obj)) (xe : Value → Shared → Prop) (p1 p2 : Pos), Room 1 (Y.A.deeper (envOfC x sg s1.heap.objs.size g cdv)) → Takes ((cxOf C8.CX0 Y.prog Y.w Y.K Y.mg Y.base Ng x sg g cdv Y.A Y.stack s1 H1 C8.E0).tr pn xe) W →
      PE ((cxOf C8.CX0 Y.prog Y.w Y.K Y.mg Y.base Ng x sg g cdv Y.A Y.stack s1 H1 C8.E0).tr pn xe) (.Call (.Name a2 p1) [] [] p2)
        (fun σZ HZ Q => σZ[0]? = some (some (.ref f)) ∧ HZ c' = some (LamX.CodeO c' q) ∧ ∃ E : XK, (∀ cls d H', E cls d H' → W cls d σZ H') ∧ tl E HZ Q))
    (h1 : (x == "__debug__") = false := by rfl) (h2 : (a == "__debug__") = false := by rfl) (h3 : (a == "__classdict__") = false := by rfl) :
    PE Y (.Call (.Name x p1) [.Name a p2] [] p3) (fun σ H Q => σ[i]? = some (some (.ref f)) ∧ H c' = some (LamX.CodeO c' q) ∧ TT tl H Q) := by
  refine ⟨fun pins s σ H Q I ⟨at_i, code, ht⟩ => ?_⟩
  refine Call_ (ld_glob I hg hm ?_ h1)
  refine PySem.W.callWith_K (h₀ := Y.base) I.ok.mod.kin hk (wpAny_items_cons ?_)
  refine thn ((pe_var (pos := p2) (i := i) hN hv h2 h3).run pins s σ H (fun v H1 => v = .ref f ∧ H1 = H) I ⟨.ref f, at_i, rfl, rfl⟩) fun u s1 ⟨v, H1, I1, r1, ev, eH⟩ => ?_
  subst ev
  subst eH
  obtain rfl : u = Value.ref f := r1
  refine wpAny_pure ⟨I1.kIn, ?_⟩
  refine wpAny_call (codeAny_mono (LamX.run_ofS (CX := C8.CX0) (k := k + 2) (vs := [.ref f]) (us := [.ref f]) (Q := Q) (E := C8.E0) lk hcg Sg hr I1.env0 ?_ (.cons rfl .nil) rfl fun hr2 => ?_) fun r s2 hq2 => ?_)
  · have := hb s1 [.ref f] I1.kIn rfl
    simpa using this
  · obtain ⟨tt, p1, p2⟩ := hG f c' s1 H1 Q tl (hr2.mono (by omega)) (fun W pn xe p1 p2 tk => act _ _ _ _ I1 W pn xe p1 p2 (hr2.mono (by omega)) tk) code ht
    exact ⟨tt, p1.nox, p2⟩
  · rcases r with e | fl
    · exact hq2.elim
    · rcases fl with _ | _ | _ | w
      · exact hq2.elim
      · exact hq2.elim
      · exact hq2.elim
      · exact I1.after hq2

theorem ld_varU {i : Nat} {x : Str} {v : V} {pos : Pos} {Q E : Value → Shared → Prop} (I : L2.Inv X pins σ H s) (hN : X.N[i]? = some x) (hv : Vis X.env.scope x) (e : σ[i]? = some (some v)) (fin : ∀ u, RelV v u → Q u s) (hd : (x == ("__debug__" : Str)) = false) (hcd : (x == ("__classdict__" : Str)) = false) :
    wpAny (model X.prog X.w) X.A (eval (.Name x pos) X.env) Q E s := by
  obtain ⟨mp, named, told⟩ := I.loc
  obtain ⟨val, rel, where_⟩ := told i x v hN e hv
  have done_ := fin val rel
  rcases where_ with ⟨loc, got⟩ | ⟨loc | loc, cell, found, holds⟩
  · exact wpAny_Name (wpAny_loadName_local I.ok.kind loc named got done_) hd
  · exact wpAny_Name (wpAny_loadName_cell I.ok.kind loc found holds done_) hd
  · exact wpAny_Name (wpAny_loadName_free I.ok.kind loc found holds done_ hcd) hd
def Gives2 (X : Cx) (Ng : List Str) (x : Str) (sg : PySem.Scope) (g : Addr) (cdg : Value) (bg : List Stmt) (q : Str) (TT : (XK → Hp → VK → Prop) → V → Hp → VK → Prop) : Prop :=
  ∀ (f c' : Addr) (u : V) (s : Shared) (H : Hp) (Q : VK) (tl : XK → Hp → VK → Prop), Room 4 (X.A.deeper (envOfC x sg s.heap.objs.size g cdg)) →
    (∀ (Ng2 : List Str) (x2 a2 : Str) (sg2 : PySem.Scope) (g2 : Addr) (cd2 : Value), Ng2[0]? = some a2 → Vis sg2 a2 → (a2 == "__debug__") = false → (a2 == "__classdict__") = false →
      ∀ (σ1 : L2.St) (H1 : Hp) (s1 : Shared) (pins1 : List (Addr × Obj)), L2.Inv (cxOf C8.CX0 X.prog X.w X.K X.mg X.base Ng x sg g cdg X.A X.stack s H C8.E0).nox pins1 σ1 H1 s1 → ∀ (W : WX) (pn : List (Addr × Obj)) (xe : Value → Shared → Prop) (p1 p2 : Pos),
      Room 1 ((cxOf C8.CX0 X.prog X.w X.K X.mg X.base Ng x sg g cdg X.A X.stack s H C8.E0).nox.A.deeper (envOfC x2 sg2 s1.heap.objs.size g2 cd2)) →
      Takes ((cxOf C8.CX0 X.prog X.w X.K X.mg X.base Ng2 x2 sg2 g2 cd2 (cxOf C8.CX0 X.prog X.w X.K X.mg X.base Ng x sg g cdg X.A X.stack s H C8.E0).nox.A (cxOf C8.CX0 X.prog X.w X.K X.mg X.base Ng x sg g cdg X.A X.stack s H C8.E0).nox.stack s1 H1 C8.E0).tr pn xe) W →
      PE ((cxOf C8.CX0 X.prog X.w X.K X.mg X.base Ng2 x2 sg2 g2 cd2 (cxOf C8.CX0 X.prog X.w X.K X.mg X.base Ng x sg g cdg X.A X.stack s H C8.E0).nox.A (cxOf C8.CX0 X.prog X.w X.K X.mg X.base Ng x sg g cdg X.A X.stack s H C8.E0).nox.stack s1 H1 C8.E0).tr pn xe) (.Call (.Name a2 p1) [] [] p2)
        (fun σZ HZ Q => σZ[0]? = some (some (.ref f)) ∧ HZ c' = some (LamX.CodeO c' q) ∧ ∃ E : XK, (∀ cls d H', E cls d H' → W cls d σZ H') ∧ tl E HZ Q)) →
    H c' = some (LamX.CodeO c' q) → TT tl u H Q →
    ∃ t, PSs (cxOf C8.CX0 X.prog X.w X.K X.mg X.base Ng x sg g cdg X.A X.stack s H C8.E0).nox bg t ∧ t { nx := fun _ H' => Q .non H', rt := Q } (L2.start Ng [.ref f, u]) H
def tLamV (P : Addr) (q : Str) (TT : (XK → Hp → VK → Prop) → V → Hp → VK → Prop) (t : XK → TE) (j : Nat) : TE := fun σ H Q =>
  LamX.TabS H P q ∧ ∃ u, σ[j]? = some (some u) ∧ ∀ H1, (∀ b o, b ≠ P → H b = some o → H1 b = some o) → LamX.TabS H1 P q → TT (fun E H' Q' => t E σ H' Q') u H1 Q
theorem pe_lamcallV {TT : (XK → Hp → VK → Prop) → V → Hp → VK → Prop} {x a b v : Str} {g c P : Addr} {k j : Nat} {pg : Arguments} {bg : List Stmt} {sg : PySem.Scope} {dV kV doc pm cdv ct oc : Value} {an od : Option Addr} {osl : Array (Option Value)} {Ng : List Str}
    {params : Arguments} {body : PySem.Expr} {scope : PySem.Scope} {t : XK → TE} {p pv lpos pos : Pos}
    (hg : Gl X x) (hm : X.mg x = some (.ref g)) (hk : PySem.W.keepIn X.K (.ref g) = true)
    (lk : X.K.lookup g = some ⟨oc, od, .func (PySem.W.fnOf x x pg bg sg dV kV doc pm an cdv ct), osl⟩) (hcg : PySem.W.codeIn X.K cdv x = true)
    (hb : L2.Binds X.K (PySem.W.fnOf x x pg bg sg dV kV doc pm an cdv ct) [a, b] []) (Sg : FnScope Ng [a, b] sg) (hN : X.N[j]? = some v) (hv : Vis X.env.scope v)
    (hG : Gives2 X Ng x sg g cdv bg (X.env.qual ++ "<lambda>") TT) (TB : LamX.TabB X.base X.mg c P) (hcode : X.env.code = .ref c) (hr : Room (k + 6) X.A) (L : LamX.LamS X.env.scope scope)
    (hd : defaultsOf params X.env = ([], [])) (hbind : ∀ (q : Str) (cl : List (Str × Addr)) (pm cv ctv : Value), bindArgs (PySem.W.kla_fn "<lambda>" q params body scope cl pm cv ctv) ⟨[], []⟩ = pure [])
    (hbody : ∀ (A : Around) (outer : List Env) (s : Shared) (H : Hp) (E : XK) (f c' : Addr), Room k (A.deeper (LamX.lamEnv X scope s.heap.objs.size f c')) → PE (LamX.lamCx X A outer s H E scope f c') body (t E))
    (h1 : (x == "__debug__") = false := by rfl) (h2 : (v == "__debug__") = false := by rfl) (h3 : (v == "__classdict__") = false := by rfl) :
    PE X (.Call (.Name x p) [.Lambda params body scope lpos, .Name v pv] [] pos) (tLamV P (X.env.qual ++ "<lambda>") TT t j) := by
  refine ⟨fun pins s σ H Q I ⟨ht, u, at_j, hq⟩ => ?_⟩
  refine Call_ (ld_glob I hg hm ?_ h1)
  refine PySem.W.callWith_K (h₀ := X.base) I.ok.mod.kin hk (wpAny_items_cons ?_)
  refine lam_make3 I TB hcode ht hd (fun y hy hf => L.has I.ok y hy hf) fun f c' pm' ctv H1 s' I1 hs ht1 hf hfn hfr hc' => ?_
  refine wpAny_items_cons ?_
  refine ld_varU I1 hN hv at_j (fun u2 r2 => ?_) h2 h3
  refine wpAny_pure ⟨I1.kIn, ?_⟩
  refine wpAny_call (codeAny_mono (LamX.run_ofS (CX := C8.CX0) (k := k + 5) (vs := [.ref f, u]) (us := [.ref f, u2]) (Q := Q) (E := C8.E0) lk hcg Sg hr I1.env0 ?_ (.cons rfl (.cons r2 .nil)) rfl fun hr2 => ?_) fun r s2 hq2 => ?_)
  · have := hb s' [.ref f, u2] I1.kIn rfl
    simpa using this
  · obtain ⟨tt, p1, p2⟩ := hG f c' u s' H1 Q (fun E H' Q' => t E σ H' Q') (hr2.mono (by omega)) (fun Ng2 x2 a2 sg2 g2 cd2 hN2 hv2 d1 d2 σ1 H2 s2 pins1 I2 W pn xe p1 p2 hr3 tk => by
      have base := I2.base
      have fresh : ∀ y, (envOfC x sg s'.heap.objs.size g cdv).frame = some y → s'.heap.get? y = none := fun y hy => by
        cases hy
        exact Heap.get?_none_of_le (Nat.le_refl _)
      exact pe_actT I1 L (fun H3 s3 b => un_two base b fresh) (base.keep f _ hf hfn hfr (fun z => nomatch (show f ∈ ([] : List Addr) from z))) (base.free f _ hf hfn (fun z => nomatch (show f ∈ ([] : List Addr) from z))) (fun z => by
        rcases frs_cons z with z | z
        · rw [fresh f z] at hf
          cases hf
        · exact hfr z) (hbind _ _ _ _ _) tk ((hr2.deeper _).mono (by omega)) (fun A outer s H E hr4 => hbody A outer s H E f c' hr4) hN2 hv2 d1 d2) hc' (hq H1 hs ht1)
    exact ⟨tt, p1.nox, p2⟩
  · rcases r with e | fl
    · exact hq2.elim
    · rcases fl with _ | _ | _ | w
      · exact hq2.elim
      · exact hq2.elim
      · exact hq2.elim
      · exact I1.after hq2

theorem pe_passF {Y : Cx} {TT : (XK → Hp → VK → Prop) → Hp → VK → Prop} {tl : XK → Hp → VK → Prop} {x a a2 q : Str} {g f c' : Addr} {k i : Nat} {st : Stmt} {fd : FuncData} {Ng : List Str} {p1 p2 p3 : Pos}
    (hg : Gl Y x) (hm : Y.mg x = some (.ref g)) (F : Fun Y.K x x st g fd) (hb : L2.Binds Y.K fd [a2] []) (Sg : FnScope Ng [a2] (defScope st)) (hva : Vis (defScope st) a2) (hN : Y.N[i]? = some a) (hv : Vis Y.env.scope a)
    (hG : ∀ cdv, Gives Y Ng x (defScope st) g cdv (defBody st) a2 q TT) (hr : Room (k + 3) Y.A)
    (act : ∀ (Ng2 : List Str) (x2 a2 : Str) (sg2 : PySem.Scope) (g2 : Addr) (cd2 : Value), Ng2[0]? = some a2 → Vis sg2 a2 → (a2 == "__debug__") = false → (a2 == "__classdict__") = false →
      ∀ (σ1 : L2.St) (H1 : Hp) (s1 : Shared) (pins1 : List (Addr × Obj)), L2.Inv Y pins1 σ1 H1 s1 → ∀ (W : WX) (pn : List (Addr × Obj)) (xe : Value → Shared → Prop) (p1 p2 : Pos),
      Room 1 (Y.A.deeper (envOfC x2 sg2 s1.heap.objs.size g2 cd2)) →
      Takes ((cxOf C8.CX0 Y.prog Y.w Y.K Y.mg Y.base Ng2 x2 sg2 g2 cd2 Y.A Y.stack s1 H1 C8.E0).tr pn xe) W →
      PE ((cxOf C8.CX0 Y.prog Y.w Y.K Y.mg Y.base Ng2 x2 sg2 g2 cd2 Y.A Y.stack s1 H1 C8.E0).tr pn xe) (.Call (.Name a2 p1) [] [] p2)
        (fun σZ HZ Q => σZ[0]? = some (some (.ref f)) ∧ HZ c' = some (LamX.CodeO c' q) ∧ ∃ E : XK, (∀ cls d H', E cls d H' → W cls d σZ H') ∧ tl E HZ Q))
    (hNg : Ng[0]? = some a2 := by rfl) (h1 : (x == "__debug__") = false := by rfl) (h2 : (a == "__debug__") = false := by rfl) (h3 : (a == "__classdict__") = false := by rfl) (h4 : (a2 == "__debug__") = false := by rfl) (h5 : (a2 == "__classdict__") = false := by rfl) :
    PE Y (.Call (.Name x p1) [.Name a p2] [] p3) (fun σ H Q => σ[i]? = some (some (.ref f)) ∧ H c' = some (LamX.CodeO c' q) ∧ TT tl H Q) := by
  obtain ⟨oc, od, kV, doc, pm, an, cdv, ct, osl, e, lk, hcd⟩ := F.ex
  subst e
  exact pe_passS hg hm F.kp lk hcd hb Sg hN hv (hG cdv) hr (fun σ1 H1 s1 pins1 I1 W pn xe p1 p2 hr tk => act Ng x a2 _ g cdv hNg hva h4 h5 σ1 H1 s1 pins1 I1 W pn xe p1 p2 hr tk) h1 h2 h3
theorem pe_lamcallW (qu : Str) {TT : (XK → Hp → VK → Prop) → V → Hp → VK → Prop} {x a b v : Str} {g c P : Addr} {k j : Nat} {st : Stmt} {fd : FuncData} {Ng : List Str}
    {params : Arguments} {body : PySem.Expr} {scope : PySem.Scope} {t : XK → TE} {p pv lpos pos : Pos}
    (hq : X.env.qual = qu) (hg : Gl X x) (hm : X.mg x = some (.ref g)) (F : Fun X.K x x st g fd) (hb : L2.Binds X.K fd [a, b] []) (Sg : FnScope Ng [a, b] (defScope st)) (hN : X.N[j]? = some v) (hv : Vis X.env.scope v)
    (hG : ∀ cdv, Gives2 X Ng x (defScope st) g cdv (defBody st) (qu ++ "<lambda>") TT) (TB : LamX.TabB X.base X.mg c P) (hcode : X.env.code = .ref c) (hr : Room (k + 6) X.A) (L : LamX.LamS X.env.scope scope)
    (hd : defaultsOf params X.env = ([], [])) (hbind : ∀ (q : Str) (cl : List (Str × Addr)) (pm cv ctv : Value), bindArgs (PySem.W.kla_fn "<lambda>" q params body scope cl pm cv ctv) ⟨[], []⟩ = pure [])
    (hbody : ∀ (A : Around) (outer : List Env) (s : Shared) (H : Hp) (E : XK) (f c' : Addr), Room k (A.deeper (LamX.lamEnv X scope s.heap.objs.size f c')) → PE (LamX.lamCx X A outer s H E scope f c') body (t E))
    (h1 : (x == "__debug__") = false := by rfl) (h2 : (v == "__debug__") = false := by rfl) (h3 : (v == "__classdict__") = false := by rfl) :
    PE X (.Call (.Name x p) [.Lambda params body scope lpos, .Name v pv] [] pos) (tLamV P (qu ++ "<lambda>") TT t j) := by
  subst hq
  obtain ⟨oc, od, kV, doc, pm, an, cdv, ct, osl, e, lk, hcd⟩ := F.ex
  subst e
  exact pe_lamcallV hg hm F.kp lk hcd hb Sg hN hv (hG cdv) TB hcode hr L hd hbind hbody h1 h2 h3
end
end Rx
namespace PySem.W
open Lean Elab Tactic Meta PySem PySem.Calls PyProof.Rows
section
variable {prog : Program} {w : World} {A : Around} {E : Value → Shared → Prop} {s : Shared} {K : Frag} {y C L f g : Addr} {h₀ : Heap} {m : Str → Option Value} {oy : Obj} {oe : Option Obj} {v : Value} {T : String} {b : Bool} {t : Tok}
end
end PySem.W
namespace Rx
open PySem PySem.Spec PyProof.Rows L2
structure OpN (op : Operator) : Prop where
  n : ∀ T ∈ (["NoneType", "str", "list", "tuple", "dict"] : List String), fillsNumberSlot (.type T) op.info.2 = pure false
  b : fillsNumberSlot (.type "bool") op.info.2 = pure true
  r : ∃ ro, typeLookup (.type "bool") (dunderR op.info.2) = pure ro
structure OpI (op : Operator) : Prop where
  b : fillsNumberSlot (.type "int") op.info.2 = pure true
  r : ∃ ro, typeLookup (.type "int") (dunderR op.info.2) = pure ro
end Rx
namespace Rx
open PySem PySem.Spec PyProof.Rows L2
theorem shR_ok {K : PySem.W.Frag} {a : Addr} {x q : Str} {ps : Arguments} {body : List Stmt} {sc : Scope} {dV cd : Value}
    (e : shR K a = some (x, q, ps, .stmts body, sc, mainGlobals, [], builtinsNs)) (d : dfR K a = some dV) (c : cdR K a = cd) :
    ∃ oc od sl kV dc pm an ct, K.lookup a = some ⟨oc, od, .func (PySem.W.fnOf x q ps body sc dV kV dc pm an cd ct), sl⟩ := by
  unfold shR at e
  unfold dfR at d
  unfold cdR at c
  cases z : fdR K a with
  | none =>
    rw [z] at e
    cases e
  | some fd =>
    rw [z] at e d c
    obtain ⟨n1, n2, n3, n4, n5, n6, n7, n8, n9, n10, n11, n12, n13, n14, n15⟩ := fd
    have e1 := Option.some.inj e
    have d1 := Option.some.inj d
    simp only [Prod.mk.injEq] at e1 d1 c
    obtain ⟨h1, h2, h3, h4, h5, h6, h7, h8⟩ := e1
    subst h1 h2 h3 h4 h5 h6 h7 h8 d1 c
    unfold fdR at z
    split at z
    · rename_i oc od fd sl hl
      cases z
      exact ⟨oc, od, sl, _, _, _, _, _, hl⟩
    · cases z
theorem tbR_ok {K : PySem.W.Frag} {c : Addr} {v : Value} (e : tbR K c = some v) : ∃ oc od ws sl, K.lookup c = some ⟨oc, od, .fields ws, sl⟩ ∧ ws[11]? = some v := by
  unfold tbR at e
  split at e
  · rename_i oc od ws sl h
    exact ⟨oc, od, ws, sl, h, e⟩
  · cases e
theorem xcR_ok {K : PySem.W.Frag} {C : Addr} (e : xcR K C = true) :
    ∃ xn xq xN xb xm xs xu xa xl xd x0 x1 x2 x3 x5, K.lookup C = some (excClassObj xn xq C xN xb xm true xs xu xa xl xd x0 x1 x2 x3 x5 "ValueError.__new__") ∧ PySem.HandSPX.refsVE xm = true := by
  unfold xcR at e
  split at e
  · rename_i c dd cd sl hl
    obtain ⟨e0, e⟩ := Bool.and_eq_true_iff.mp e
    split at e
    · rename_i D bm k0 k1 k2 k3 n k5 hm hs
      obtain ⟨e1, e⟩ := Bool.and_eq_true_iff.mp e
      obtain ⟨e2, e⟩ := Bool.and_eq_true_iff.mp e
      obtain ⟨e3, e⟩ := Bool.and_eq_true_iff.mp e
      obtain ⟨e4, e5⟩ := Bool.and_eq_true_iff.mp e
      obtain rfl := of_decide_eq_true e0
      obtain rfl := of_decide_eq_true e1
      obtain rfl := of_decide_eq_true e2
      obtain ⟨nm, bs, mro, ns, qn, hd, sn, sub, ab, col, del⟩ := cd
      dsimp only at hm e3 e4
      subst hm e3
      have e6 : del = false := by cases del <;> first | rfl | cases e4
      subst e6
      have hsl : sl = #[k0, k1, k2, k3, some (.builtin "ValueError.__new__"), k5] := by
        obtain ⟨l⟩ := sl
        simp only at hs
        rw [hs]
      subst hsl
      exact ⟨_, _, _, _, _, _, _, _, _, _, _, _, _, _, _, hl, e5⟩
    · cases e
  · cases e
theorem frcK_eq {α : Type} : ∀ (K : PySem.W.Frag) (k : PySem.W.Frag → α), frcK K k = k K
  | [], _ => rfl
  | (a, o) :: r, k => by
    show frcK r (fun r => k ((a, o) :: r)) = _
    rw [frcK_eq r]
theorem obF_eq {n : Nat} {ea eb : PySem.W.Frag → Bool} {fn : List (PySem.W.Frag → Addr)} {vs : List He.FnW} {ts : List He.Tab} (s : PySem.W.SharedT) : obF n ea eb fn ts s = (hkR n (fun K => ea K && eb K) fn vs ts).obs s.abs := by
  have e : HandSHeadRun.getT s = s.abs.heap.get? := funext fun a => HandSHeadRun.getT_eq s a
  show (frcK (He.frT (HandSHeadRun.getT s) (List.range n)) ea && frcK (He.frT (HandSHeadRun.getT s) (List.range n)) eb, frcK (He.frT (HandSHeadRun.getT s) (List.range n)) fun K => (fn.map fun a => shR K (a K), ts.map fun t => He.dicW K (t.1 K))) = obK (fun K => ea K && eb K) fn ts (He.frT s.abs.heap.get? (List.range n))
  rw [frcK_eq, frcK_eq, frcK_eq, e]
  rfl
theorem fnAt {K : PySem.W.Frag} {fn : List (PySem.W.Frag → Addr)} {vs : List He.FnW} (c : (fn.map fun a => shR K (a K)) = vs) (i : Nat) {a : PySem.W.Frag → Addr} {v : He.FnW} (ha : fn[i]? = some a) (hv : vs[i]? = some v) : shR K (a K) = v := by
  rw [← c, List.getElem?_map, ha] at hv
  exact Option.some.inj hv
theorem walk_ofLGE {l : PySem.W.OpenLaw} {n k : Nat} {q : Program} {loose : List Str} {XP : (Str → Option Value) → Heap → Prop} {YP : World → Heap → Prop} {d : DefRec} {x : Str}
    (most : l.most = some n) (small : n ≤ sizeLine) (plain : d.params.defaults = []) (hr : Room k callerA) (xs : List Str) (hxs : (xs.all fun y => (recsOf q).any fun e => e.name == y) = true)
    (F : ∀ (w : World) (mg : Str → Option Value) (fa : Addr) (h : Heap), YP w h → h.Ns mainGlobals mg → mg d.name = some (.ref fa) →
      ∃ K : PySem.W.Frag, K.In h ∧ ∃ (fd : FuncData) (cs : List (Addr × Addr)) (sp : Sp), (∀ (s : Shared) (u : Value), BindsTo s fd ⟨[u], []⟩ [(x, u)]) ∧
        (∀ p ∈ cs, K.lookup p.2 = none ∧ ∃ y ∈ xs, ∃ (f : Addr) (o : Obj) (gd : FuncData) (oc : Value) (od : Option Addr) (ws : Array Value) (sl : Array (Option Value)), mg y = some (.ref f) ∧ K.lookup f = some o ∧ o.data = .func gd ∧ gd.code = .ref p.1 ∧
          K.lookup p.1 = some ⟨oc, od, .fields ws, sl⟩ ∧ ws[11]? = some (.ref p.2)) ∧
        (∀ (H : Hp) (a : Addr) (ns : List Int), ns.length ≤ n → (∀ p ∈ cs, H p.2 = some (.tbl #[])) → SqL K H a (ns.map V.int) → sp [.ref a] H (fun v _ => v = .bl true) E0) ∧
        ∀ base : Heap, K.In base → base.Ns mainGlobals mg → (∀ p ∈ cs, LamX.TabB base mg p.1 p.2) → FnG l.prog w K mg base k fa fd [x] sp) :
    PySem.W.WalkO q loose XP YP l.row.toRowW d [] (fun f vs => PySem.call f vs) := by
  refine Att.attach_call most plain fun w s₀ s₁ mg mb fa o pm cd doc a vs ns G Y ho hd hcd hmg obj its0 len ng => ?_
  obtain ⟨K, KX, fd, cs, sp, bind, tabs, enter, hF⟩ := F w mg fa _ Y G.T.g hmg
  have own : ∀ p ∈ cs, PySem.W.CodeHd s₁.heap p.1 p.2 ∧ s₁.heap.get? p.2 = some { cls := .none, data := .fields #[] } := fun p hp => by
    obtain ⟨_, y, hy, f, o1, gd, oc, od, ws, sl, h1, h2, h3, h4, h5, h6⟩ := tabs p hp
    obtain ⟨dL, hm, hn1⟩ := List.any_eq_true.mp (List.all_eq_true.mp hxs y hy)
    obtain rfl : dL.name = y := beq_iff_eq.mp hn1
    obtain ⟨a', o', fd', c', P', g1, g2, g3, g4, g5, g6⟩ := G.T.tab dL hm
    rw [h1] at g1
    cases g1
    have z1 := KX _ _ h2
    rw [z1] at g2
    cases g2
    rw [h3] at g3
    cases g3
    rw [h4] at g4
    cases g4
    have g5' := g5
    have g6' := g6
    obtain ⟨⟨oc', vc, e1, _, e3, e4⟩, hP⟩ := g6'
    have z2 := KX _ _ h5
    rw [z2] at e1
    cases e1
    cases e3
    rw [h6] at e4
    cases e4
    exact ⟨PySem.W.CodeHd.of g5 g6, hP⟩
  exact callLG KX G.T.g G.T.b G.T.builtins G.T.nolimit ng ⟨fun p hp => (own p hp).2, fun p hp => (tabs p hp).1, fun p hp => (own p hp).1⟩ G.T.bmain obj its0 (Nat.le_trans len small) hr hF bind fun H ht sq => enter H a ns len ht sq
end Rx

namespace Rx
open PySem PySem.Spec PyProof.Rows L2
def Uniq {α : Type} (xs : List α) (n : Nat) : Prop := ∃ l : List α, l.Nodup ∧ (∀ x, x ∈ l ↔ x ∈ xs) ∧ l.length = n
theorem Uniq.nil {α : Type} : Uniq ([] : List α) 0 := ⟨[], List.nodup_nil, fun _ => Iff.rfl, rfl⟩
section
variable {P : Program} {w : World} {κ : Type} [DecidableEq κ] {knd : PySem.KeyKind P w κ}
end
section
variable {X : Cx}
end
section
variable {ms : List Addr} {H : Hp} {x : V} {K : PySem.W.Frag}
end
section
variable {X : Cx} {o e : Expr} {to te : TE}
end
end Rx
namespace Rx
open PySem PySem.Spec PyProof.Rows
abbrev ItT := Addr × Str × Tok
def StI (h : Heap) (t : ItT) (i : Nat) : Prop := h.IsStrIter t.1 (strIterType t.2.1) t.2.1 t.2.2 i
def Refs (its : List ItT) : List Value := its.map fun t => .ref t.1
def Chars (i : Nat) : List ItT → List Value → Prop
  | [], vs => vs = []
  | t :: ts, vs => ∃ c u us, t.2.1.cps[i]? = some c ∧ vs = .str ⟨#[c]⟩ u :: us ∧ Chars i ts us
theorem Chars.len {i : Nat} : ∀ {its : List ItT} {vs : List Value}, Chars i its vs → vs.length = its.length
  | [], _, h => by rw [show _ = _ from h]; rfl
  | t :: ts, _, ⟨c, u, us, _, e, h⟩ => by rw [e]; simp [Chars.len h]
theorem StI.keep {h h' : Heap} {t : ItT} {i : Nat} (st : StI h t i) (k : ∀ o, h.get? t.1 = some o → h'.get? t.1 = some o) : StI h' t i := by
  obtain ⟨o, ho, r⟩ := st
  exact ⟨o, k o ho, r⟩
def Tup (h : Heap) (a : Addr) (vs : List Value) : Prop := h.get? a = some { cls := .type "tuple", data := .seq vs.toArray }
structure ZS (h : Heap) (z TI TO T : Addr) (its : List ItT) (i : Nat) : Prop where
  hz : ∃ f, IsZipHeld h z TI TO T f
  hT : ∃ o, h.get? T = some o
  hTI : Tup h TI (Refs its)
  st : ∀ t ∈ its, StI h t i
structure ZAp (S z TI TO : Addr) (its : List ItT) : Prop where
  ne0 : its ≠ []
  nd : (its.map (·.1)).Nodup
  nz : ∀ t ∈ its, z ≠ t.1
  nto : ∀ t ∈ its, t.1 ≠ TO
  zto : z ≠ TO
  tiz : TI ≠ z
  tii : ∀ t ∈ its, TI ≠ t.1
  tito : TI ≠ TO
  sz : S ≠ z
  sti : S ≠ TI
  sto : S ≠ TO
  si : ∀ t ∈ its, S ≠ t.1
  hl : its.length ≤ sizeLine
section
open L2
def col (j : Nat) (xs : List Str) : List V := xs.map fun x => V.str ⟨#[x.cps.getD j 0]⟩
end
end Rx
namespace Rx
open PySem PySem.Spec PyProof.Rows L2
def lenZ (xs : List Str) : Nat := (xs.headD ⟨#[]⟩).cps.size
structure ZL (H H2 : Hp) (L : Addr) (as : List Addr) (xs : List Str) : Prop where
  nl : H L = none
  na : ∀ a ∈ as, H a = none
  len : as.length = lenZ xs
  hL : H2 L = some (.lst (as.map V.ref))
  hA : ∀ j a, as[j]? = some a → H2 a = some (.tup (col j xs))
section
variable {K : PySem.W.Frag} {ms : List Addr} {ps : List PEn} {cs : List (Addr × List V)} {H0 H H1 H2 : Hp} {x u y : V} {d : D}
end
section
variable {α S : Type} {K : PySem.W.Frag} {H1 : Hp} {g : TG} {tb : TS} {D' : Ends} {σ : L2.St}
end
section
variable {K : PySem.W.Frag} {H : Hp}
end
section
variable {K : PySem.W.Frag} {ms : List Addr} {ps : List PEn} {cs : List (Addr × List V)} {H0 H : Hp} {x : V}
end
end Rx
namespace Rx
open PySem PySem.Spec PyProof.Rows L2
section
variable {X : L2.Cx}
end
section
variable {α : Type} {K : PySem.W.Frag} {ms : List Addr} {H : Hp} {x : V} {vs : List V}
end
section
variable {ms : List Addr} {ps : List PEn} {H0 H : Hp} {L : Addr} {ds : List D} {ks : List Key}
end
end Rx
namespace Rx
open PySem PySem.Spec PyProof.Rows L2
def eSq {α : Type} (f : α → D) (m : Bool × List α) : D := if m.1 = true then D.tup (m.2.map f) else D.lst (m.2.map f)
structure SeqIt {α : Type} (ms : List Addr) (H1 : Hp) (J : It) (items : List α) (e : α → D) : Prop where
  ex : ∃ (G : Hp → Prop) (Y : Nat → Hp → V → Hp → Prop), L2.Walk J items.length G Y ∧ (∀ H, Keep ms H1 H → G H) ∧ ∀ (i : Nat) (x : V) (H H' : Hp) (h : i < items.length), Keep ms H1 H → Y i H x H' → H' = H ∧ rep ms H (e (items[i]'h)) x
section
variable {α : Type} {K : PySem.W.Frag} {ms : List Addr} {H1 : Hp} {items : List α} {e : α → D} {a : Addr} {xs : List V}
theorem seqIt_list (an : a ∉ ms) (ha : H1 a = some (.lst xs)) (hx : repL ms H1 (items.map e) xs) : SeqIt ms H1 (Itl K a) items e := by
  have hl : items.length = xs.length := by
    have := repL_len hx
    rwa [List.length_map] at this
  have w := L2.walk_list (K := K) (a := a) (xs := xs)
  rw [← hl] at w
  exact ⟨_, _, w, fun H k => .inl (.inl (k a _ an ha)), fun i x H H' h k y => ⟨y.1, repL_at (repL_keep k hx) h y.2⟩⟩
theorem seqIt_tup (an : a ∉ ms) (ha : H1 a = some (.tup xs)) (hx : repL ms H1 (items.map e) xs) : SeqIt ms H1 (Itt K a) items e := by
  have hl : items.length = xs.length := by
    have := repL_len hx
    rwa [List.length_map] at this
  have w := L2.walk_tup (K := K) (a := a) (xs := xs)
  rw [← hl] at w
  exact ⟨_, _, w, fun H k => .inl (.inl (k a _ an ha)), fun i x H H' h k y => ⟨y.1, repL_at (repL_keep k hx) h y.2⟩⟩
end
section
variable {α β S : Type} {K : PySem.W.Frag} {H1 : Hp} {g : TG} {tt : TT} {te : TE} {tb : TS} {D' : Ends} {vl : List Nat} {σ : L2.St} {Qd : Hp → Prop} {L : Addr} {J : It}
theorem lc_seqG {items : List α} {e : α → D} {ms : List Addr} {body : α → (β → Prop) → Prop} {KM : List β → Prop} (SI : Nat → List β → Hp → Prop) (P : SeqIt (L :: ms) H1 J items e)
    (kp : ∀ n ys H, SI n ys H → Keep (L :: ms) H1 H) (hM : items.length < 100000 ∧ mapC body items [] KM) (h0 : SI 0 [] (upd H1 L (.lst [])))
    (hs : ∀ (x : α) (u : V) (n : Nat) (ys : List β) (k : β → Prop) (H : Hp), n < 100000 → SI n ys H → rep (L :: ms) H (e x) u → body x k → ∀ Nx : Hp → Prop, (∀ y H', k y → SI (n + 1) (ys ++ [y]) H' → Nx H') → Turn g tt te vl σ L u H Nx)
    (hd : ∀ n ys H, KM ys → SI n ys H → Qd H) :
    ∃ W : Nat → Nat → Hp → Prop, (∃ m, W 0 m (upd H1 L (.lst []))) ∧ ∀ i m H, W i m H →
      (J.stop i H ∧ Qd H) ∨ (J.go i H ∧ ∃ Nx : Hp → Prop, (∀ H', Nx H' → ∃ m', m' < m ∧ W (i + 1) m' H') ∧ ∀ x H', J.yld i H x H' → g x (wipe σ vl) H' fun σ2 H2 => wipe σ2 vl = wipe σ vl ∧ tt σ2 H2 fun b H3 =>
        if b = true then te σ2 H3 fun y H4 => ∃ acc, H4 L = some (.lst acc) ∧ acc.length < sizeLine ∧ Nx (upd H4 L (.lst (acc ++ [y]))) else Nx H3) := by
  obtain ⟨hn, hM⟩ := hM
  obtain ⟨G, Y, w, hG, hat⟩ := P
  refine ⟨fun i m H => m = items.length - i ∧ i ≤ items.length ∧ ∃ ys, SI i ys H ∧ mapC body (items.drop i) ys KM, ⟨_, rfl, Nat.zero_le _, [], h0, hM⟩, ?_⟩
  rintro i m H ⟨rfl, hi', ys, T, q⟩
  have hk := kp i ys H T
  by_cases hlt : i < items.length
  · refine .inr ⟨w.goes i H hlt (hG H hk), fun H' => i + 1 ≤ items.length ∧ ∃ ys, SI (i + 1) ys H' ∧ mapC body (items.drop (i + 1)) ys KM, fun H' p' => ⟨_, by omega, rfl, p'⟩, fun x H' y => ?_⟩
    obtain ⟨e1, r1⟩ := hat i x H H' hlt hk (w.yields i H x H' hlt (hG H hk) y)
    subst e1
    rw [drop_cons' (List.getElem?_eq_getElem hlt)] at q
    exact hs _ x i ys _ H' (by omega) T r1 q _ fun y H'' k T' => ⟨hlt, _, T', k⟩
  · have ei : i = items.length := by omega
    refine .inl ⟨by rw [ei]; exact w.stops H (hG H hk), ?_⟩
    rw [List.drop_of_length_le (by omega)] at q
    exact hd _ ys H q T
end
def SqJ (K : PySem.W.Frag) (H : Hp) (J : It) (a : Addr) : Prop := (J = Itl K a ∧ ∃ xs, SqL K H a xs) ∨ (J = Itt K a ∧ ∃ xs, SqT K H a xs)
def iSeq (K : PySem.W.Frag) (tl : TE) : TI := fun σ H R => tl σ H fun x H1 => ∃ a, x = .ref a ∧ ∃ J, SqJ K H1 J a ∧ R J H1
theorem pi_seq {X : Cx} {tg l : PySem.Expr} {tl : TE} (hl : PE X l tl) : PI X tg l (iSeq X.K tl) := by
  refine ⟨fun pins s σ H R I h => ?_⟩
  refine thn (hl.run pins s σ H _ I h) fun v s1 ⟨x, H1, I1, r1, q1⟩ => ?_
  obtain ⟨a, e, J, sq, q⟩ := q1
  subst e
  cases r1
  rcases sq with ⟨rfl, xs, hq⟩ | ⟨rfl, xs, hq⟩
  · obtain ⟨its, rv, p, hz⟩ := I1.list hq
    refine wpAny_pyIter_list p.isList ?_
    refine ⟨s1.heap.objs.size, [s1.heap.objs.size], _, _, H1, rfl, I1.kept (t' := s1.toks) fun b o e => Heap.get?_push_of_some _ e, turn_list a _, ⟨_, Heap.get?_push_size _ rfl, rfl, rfl⟩, fun b hb => ?_, q⟩
    have e : b = s1.heap.objs.size := by simpa using hb
    subst e
    exact I1.fpOk (Nat.le_refl _) (I1.hok.fresh (Nat.le_refl _))
  · obtain ⟨its, rv, p, hz⟩ := I1.tuple hq
    refine wpAny_pyIter_tuple (show s1.heap.IsTuple a its.toArray from p) ?_
    refine ⟨s1.heap.objs.size, [s1.heap.objs.size], _, _, H1, rfl, I1.kept (t' := s1.toks) fun b o e => Heap.get?_push_of_some _ e, turn_tuple a _, ⟨_, Heap.get?_push_size _ rfl, rfl, rfl⟩, fun b hb => ?_, q⟩
    have e : b = s1.heap.objs.size := by simpa using hb
    subst e
    exact I1.fpOk (Nat.le_refl _) (I1.hok.fresh (Nat.le_refl _))
theorem pi_seqK {X : Cx} {K : PySem.W.Frag} {tg l : PySem.Expr} {tl : TE} (hK : X.K = K) (hl : PE X l tl) : PI X tg l (iSeq K tl) := by
  subst hK
  exact pi_seq hl
def SqE (K : PySem.W.Frag) (H : Hp) (J : It) (a : Addr) : Prop := (J = Ite K a ∧ ∃ xs, SqL K H a xs) ∨ (J = IteT K a ∧ ∃ xs, SqT K H a xs)
def iEnumS (K : PySem.W.Frag) (ta : TA) : TI := fun σ H R => ta σ H fun vs H1 => ∃ a, vs = [.ref a] ∧ ∃ J, SqE K H1 J a ∧ R J H1
theorem pi_enumS {X : Cx} {K : PySem.W.Frag} {e : PySem.Expr} {ta : TA} {p pos tpos : Pos} {elts : List PySem.Expr} {kk : Nat} (hK : X.K = K) (hg : Gl X "enumerate") (hm : X.mg "enumerate" = none) (ha : PA X [e] ta) (hs : starEach [e] X.env = [(false, eval e X.env)] := by rfl) :
    PI X (.Tuple elts kk tpos) (.Call (.Name "enumerate" p) [e] [] pos) (iEnumS K ta) := by
  subst hK
  refine ⟨fun pins s σ H R I h => ?_⟩
  refine Call_ (ld_blt I hg hm boot_enumerate (PyProof.Rows.callWith_type1 (thn (ha.run pos pins s σ H _ I h) fun us s1 ⟨vs, H1, I1, r1, q1⟩ => ?_) hs rfl))
  obtain ⟨a, ex, J, sq, q⟩ := q1
  subst ex
  cases r1 with
  | cons r rr =>
    cases rr
    cases r
    have fin : ∀ b, b = s1.heap.objs.size + 1 ∨ b = s1.heap.objs.size → FpOk X pins H1 b := fun b e' => by
      have hle : s1.heap.objs.size ≤ b := by
        rcases e' with z | z
        · rw [z]; exact Nat.le_add_right _ _
        · rw [z]; exact Nat.le_refl _
      exact I1.fpOk hle (I1.hok.fresh hle)
    rcases sq with ⟨rfl, xs, hq⟩ | ⟨rfl, xs, hq⟩
    · obtain ⟨its, rv, p', hz⟩ := I1.list hq
      refine call_enumerate_list p'.isList fun h' he hit hsz hk => wpAny_pyIter_enum he ?_
      have I2 : Inv X pins σ H1 { s1 with heap := h' } := I1.kept (t' := s1.toks) hk
      exact ⟨s1.heap.objs.size + 1, [s1.heap.objs.size + 1, s1.heap.objs.size], _, _, H1, rfl, I2, turn_enum a (s1.heap.objs.size + 1) s1.heap.objs.size, ⟨⟨.none, he⟩, hit, Nat.succ_ne_self _⟩, fun b hb => fin b (by simpa using hb), q⟩
    · obtain ⟨its, rv, p', hz⟩ := I1.tuple hq
      have hal : a < s1.heap.objs.size := by
        obtain ⟨o, ho, _⟩ := p'
        exact Heap.lt_size ho
      refine call_enum_tup p' fun h' he hit hsz hk => wpAny_pyIter_enum he ?_
      have I2 : Inv X pins σ H1 { s1 with heap := h' } := I1.kept (t' := s1.toks) hk
      exact ⟨s1.heap.objs.size + 1, [s1.heap.objs.size + 1, s1.heap.objs.size], _, _, H1, rfl, I2, turn_enumT a (s1.heap.objs.size + 1) s1.heap.objs.size (Nat.succ_ne_self _) (Nat.ne_of_lt hal), ⟨⟨.none, he⟩, hit⟩, fun b hb => fin b (by simpa using hb), q⟩
section
variable {α : Type} {K : PySem.W.Frag} {ms : List Addr} {ps : List PEn} {H0 H : Hp} {x u : V} {f : α → D} {m : Bool × List α}
theorem rep_sq (h : rep ms H (eSq f m) u) : ∃ p vs, u = .ref p ∧ p ∉ ms ∧ (m.1 = false ∧ H p = some (.lst vs) ∨ m.1 = true ∧ H p = some (.tup vs)) ∧ repL ms H (m.2.map f) vs := by
  obtain ⟨b, xs⟩ := m
  cases b
  · have h' : rep ms H (.lst (xs.map f)) u := h
    simp only [rep] at h'
    obtain ⟨p, vs, e, n, hp, hr⟩ := h'
    exact ⟨p, vs, e, n, .inl ⟨rfl, hp⟩, hr⟩
  · have h' : rep ms H (.tup (xs.map f)) u := h
    simp only [rep] at h'
    obtain ⟨p, vs, e, n, hp, hr⟩ := h'
    exact ⟨p, vs, e, n, .inr ⟨rfl, hp⟩, hr⟩
theorem rep_sqL {xs : List α} (h : rep ms H (.lst (xs.map f)) u) : rep ms H (eSq f (false, xs)) u := h
theorem rep_sqT {xs : List α} (h : rep ms H (.tup (xs.map f)) u) : rep ms H (eSq f (true, xs)) u := h
theorem rep_lenSq {P : Nat → Prop} (h : rep ms H (eSq f m) x) (k : P m.2.length) : ∃ y n, [x] = [y] ∧ LenV K y H n ∧ P n := by
  obtain ⟨p, vs, rfl, _, hp, hr⟩ := rep_sq h
  have hl := repL_len hr
  rw [List.length_map] at hl
  rcases hp with ⟨_, hp⟩ | ⟨_, hp⟩
  · exact ⟨_, m.2.length, rfl, .inl ⟨vs, .inl (.inl hp), hl⟩, k⟩
  · exact ⟨_, m.2.length, rfl, .inr ⟨vs, .inl (.inl hp), hl⟩, k⟩
theorem rep_iterSq {P : Addr → It → Prop} (h : rep ms H (eSq f m) x) (k : ∀ (a : Addr) (J : It), x = .ref a → SeqIt ms H J m.2 f → (∀ L, H L = none → SeqIt (L :: ms) H J m.2 f) → P a J) : ∃ a, x = .ref a ∧ ∃ J, SqJ K H J a ∧ P a J := by
  obtain ⟨p, vs, e, n, hp, hr⟩ := rep_sq h
  rcases hp with ⟨_, hp⟩ | ⟨_, hp⟩
  · exact ⟨p, e, Itl K p, .inl ⟨rfl, vs, .inl (.inl hp)⟩, k p _ e (seqIt_list n hp hr) fun L nl => seqIt_list (nin_new nl n hp) hp (repL_new nl hr)⟩
  · exact ⟨p, e, Itt K p, .inr ⟨rfl, vs, .inl (.inl hp)⟩, k p _ e (seqIt_tup n hp hr) fun L nl => seqIt_tup (nin_new nl n hp) hp (repL_new nl hr)⟩
theorem rep_iterES {P : Addr → It → Prop} (h : rep ms H (eSq f m) x) (k : ∀ (a : Addr) (J : It), x = .ref a → PairIt ms H J ((rangeI 0 (m.2.length : Int)).zip m.2) (fun i => .v (.int i)) f → (∀ L, H L = none → PairIt (L :: ms) H J ((rangeI 0 (m.2.length : Int)).zip m.2) (fun i => .v (.int i)) f) → P a J) : ∃ a, [x] = [.ref a] ∧ ∃ J, SqE K H J a ∧ P a J := by
  obtain ⟨p, vs, e, n, hp, hr⟩ := rep_sq h
  rcases hp with ⟨_, hp⟩ | ⟨_, hp⟩
  · exact ⟨p, by rw [e], Ite K p, .inl ⟨rfl, vs, .inl (.inl hp)⟩, k p _ e (pair_enum n hp hr) fun L nl => pair_enum (nin_new nl n hp) hp (repL_new nl hr)⟩
  · exact ⟨p, by rw [e], IteT K p, .inr ⟨rfl, vs, .inl (.inl hp)⟩, k p _ e (pair_enumT n hp hr) fun L nl => pair_enumT (nin_new nl n hp) hp (repL_new nl hr)⟩
end
end Rx
namespace Rx
open PySem PySem.Spec PyProof.Rows L2
section
variable {B : Cx}
end
section
variable {X : Cx}
end
end Rx
namespace Rx
open PySem PySem.Spec PyProof.Rows L2
section
variable {α : Type} {K : PySem.W.Frag} {H1 : Hp} {σ : L2.St} {J : It} {ms : List Addr}
end
section
variable {ms : List Addr} {ps : List PEn} {H0 H H' : Hp} {L : Addr}
end
end Rx
namespace Rx
open PySem PySem.Spec PyProof.Rows L2
section
variable {α : Type} {ms : List Addr} {H : Hp} {x kx : V} {e : α → D}
end
end Rx
namespace Rx
open PySem PySem.Spec PyProof.Rows L2
section
variable {X : Cx} {n : Nat} {CX : CXT} {C f : Addr} {fd : FuncData} {ps : List Str} {sp : Sp} {E : XK}
end
end Rx
namespace Rx
open PySem PySem.Spec PyProof.Rows L2
end Rx
namespace Rx
open PySem PySem.Spec PyProof.Rows L2
end Rx
namespace Rx
open PySem PySem.Spec PyProof.Rows L2
section
variable {K : PySem.W.Frag} {ms ms2 : List Addr} {H : Hp} {x y : V} {d : D} {es : List D} {Q : VK}
end
end Rx
namespace Rx
open PySem PySem.Spec PyProof.Rows L2
end Rx
namespace Rx
open PySem PySem.Spec PyProof.Rows L2
section
variable {X : Cx} {K : PySem.W.Frag} {w : World} {d : Addr}
end
end Rx
namespace Rx
open PySem PySem.Spec PyProof.Rows L2
theorem rep_mulX {α : Type} {ms : List Addr} {H : Hp} {x v : V} {e : α → D} {xs : List α} {k : Int} {Q : VK} (h : rep ms H (.lst (xs.map e)) x) (ev : v = V.int k) (hk : -(2 ^ 63) ≤ k ∧ k < 2 ^ 63 ∧ xs.length * k.toNat ≤ sizeLine)
    (q : ∀ vs, repL ms H (((List.replicate k.toNat xs).flatten).map e) vs → ∀ p, H p = none → Q (.ref p) (upd H p (.lst vs))) : rRep x v H Q := ev ▸ rep_mulL h hk q
theorem rep_listSq {K : PySem.W.Frag} {α : Type} {ms : List Addr} {H : Hp} {x : V} {f : α → D} {m : Bool × List α} {P : List V → Prop} (h : rep ms H (eSq f m) x) (k : ∀ ys, repL ms H (m.2.map f) ys → P ys) :
    ∃ p ys, [x] = [.ref p] ∧ (SqL K H p ys ∨ SqT K H p ys) ∧ P ys := by
  obtain ⟨b, l⟩ := m
  cases b with
  | true => exact rep_listT h k
  | false => exact rep_listL h k
def rEqL (K : PySem.W.Frag) : R2 := fun x y H Q => rEqD K x y H Q ∨ ∃ (a b : Addr) (vs us : List V), x = .ref a ∧ y = .ref b ∧ SqL K H a vs ∧ SqL K H b us ∧ vs.length ≠ us.length ∧ Q (.bl false) H
theorem op_eqL {X : Cx} {K : PySem.W.Frag} (hK : X.K = K) (hu : X.A.units + 64 < cLine) : OpR X (compareOp .Eq) (rEqL K) := by
  intro pins s σ H x y v u Q I rx ry h
  rcases h with h | ⟨a, b, vs, us, rfl, rfl, sa, sb, ne, q⟩
  · exact op_eqDK hK hu pins s σ H x y v u Q I rx ry h
  · subst hK
    obtain rfl : v = Value.ref a := rx
    obtain rfl : u = Value.ref b := ry
    obtain ⟨its, rv, isl, small⟩ := I.list sa
    obtain ⟨its2, rv2, isl2, small2⟩ := I.list sb
    have l3 := rv.length
    have l4 := rv2.length
    refine SeqAt.RcAt.lists_lengths (A := X.A) isl.isList isl2.isList ?_ (by omega) X.prog X.w X.xe _ ?_
    · rw [List.size_toArray, List.size_toArray, bne_iff_ne]
      omega
    · exact ⟨.bl _, H, I, rfl, q⟩
theorem rep_eqL {K : PySem.W.Frag} {ms : List Addr} {H : Hp} {x y : V} {ds es : List D} {Q : VK} (h1 : rep ms H (.lst ds) x) (h2 : rep ms H (.lst es) y)
    (p : ds.length = es.length → plainD (.lst ds) = true ∧ plainD (.lst es) = true ∧ SeqAt.shaped (pyOf (.lst ds)) = true ∧ SeqAt.shaped (pyOf (.lst es)) = true)
    (q : Q (.bl (decide (ds.length = es.length) && PyData.eqv (pyOf (.lst ds)) (pyOf (.lst es)))) H) : rEqL K x y H Q := by
  by_cases e : ds.length = es.length
  · obtain ⟨p1, p2, p3, p4⟩ := p e
    rw [decide_eq_true e, Bool.true_and] at q
    exact .inl (rep_eqD h1 h2 p1 p2 p3 p4 q)
  · rw [decide_eq_false e, Bool.false_and] at q
    simp only [rep] at h1 h2
    obtain ⟨a, vs, rfl, _, hp, hr⟩ := h1
    obtain ⟨b, us, rfl, _, hq, hs⟩ := h2
    have l1 := repL_len hr
    have l2 := repL_len hs
    exact .inr ⟨a, b, vs, us, rfl, rfl, .inl (.inl hp), .inl (.inl hq), by omega, q⟩
structure FnE (P : Program) (w : World) (K : PySem.W.Frag) (mg : Str → Option Value) (base : Heap) (k : Nat) (f : Addr) (fd : FuncData) (ps : List Str) (sp : Addr → Value → Option Addr → Sp) : Prop where
  len : ∀ a cls d vs H Q, sp a cls d vs H Q C8.E0 → vs.length = ps.length
  run : ∀ (A : Around), L2H.RoomH k A → ∀ (a : Addr) (oe : Obj) (cls : Value) (d : Option Addr), Zc cls d oe → (∃ vs, oe.data = .fields vs) →
    ∀ (outer : List Env) (s : Shared) (H : Hp) (args : Args) (us : List Value) (vs : List V) (Q : VK), L2H.PinOk outer H s (a, oe) → Env0 P w K mg base A outer s H → BindsTo s fd args (ps.zip us) → Vals vs us → sp a cls d vs H Q C8.E0 →
      codeAny (model P w) A (.call (.ref f) args) (CR C8.CX0 outer P w H s Q C8.E0) s
theorem call_isXg {X : Cx} {a : Addr} {oe : Obj} {cls : Value} {d : Option Addr} (at_ : (a, oe) ∈ X.pn) (hz : Zc cls d oe) (hf : ∃ vs, oe.data = .fields vs) : CallR X (.builtin "isinstance") (rIsX X.K cls d a) := by
  rintro pins s σ H xs us Q I r ⟨D, c, cv, b, dd, fs, rfl, rfl, C, hcv, kb, rfl, hdd, q⟩
  rcases r with _ | ⟨ra, _ | ⟨rc, _ | _⟩⟩
  cases ra
  obtain rfl := hcv _ rc
  obtain ⟨vs, hv⟩ := hf
  obtain ⟨_, hns, _⟩ := (show ObjOk X.prog X.w H s.heap dd (.xd fs) from I.hok dd _ hdd)
  obtain ⟨od, ho, _⟩ := lookIn_ns hns
  have known : (PySem.W.clsIn X.K D).isSome = true := by
    obtain ⟨cd, hc, _⟩ := PySem.W.any_some C.hd
    simp [hc]
  have J : PySem.W.InstAt s.heap a oe D (some od) := ⟨(I.pin (a, oe) (List.mem_append_left _ at_)).1, hz.1, (by unfold PySem.W.notCls; rw [hv] <;> rfl), hz.2.symm ▸ ho⟩
  exact PySem.W.kia_one (PySem.W.kitx_exc known C.hg C.hk C.hs C.ha C.hn C.ht C.hm) I.kIn J kb (fun z => nomatch z) fun tk => ⟨.bl b, H, I.kept (t' := tk) fun _ _ z => z, rfl, q⟩
section
variable {P : Program} {w : World} {K : PySem.W.Frag} {mg : Str → Option Value} {base : Heap}
theorem okE {x qual : Str} {st : Stmt} {f : Addr} {fd : FuncData} {N ps : List Str} {k : Nat} {sp : Addr → Value → Option Addr → Sp} (F : Fun K x qual st f fd) (S : FnScope N ps (defScope st)) (len : ∀ a cls d vs H Q, sp a cls d vs H Q C8.E0 → vs.length = ps.length)
    (read : ∀ (cdv : Value) (A : Around) (outer : List Env) (s : Shared) (H : Hp) (vs : List V) (Q : VK) (a : Addr) (oe : Obj) (cls : Value) (d : Option Addr), L2H.RoomH k (A.deeper (envOfC qual (defScope st) s.heap.objs.size f cdv)) → Zc cls d oe → (∃ vs, oe.data = .fields vs) → sp a cls d vs H Q C8.E0 →
      ∃ t, PSs (L2H.cxH C8.CX0 P w K mg base N qual (defScope st) f cdv A outer s H C8.E0 (a, oe)).nox (defBody st) t ∧ t { nx := fun _ H' => Q .non H', rt := Q } (start N vs) H) : FnE P w K mg base (k + 1) f fd ps sp := by
  obtain ⟨oc, od, kV, doc, pm, an, cdv, ct, osl, rfl, lk, hcd⟩ := F.ex
  refine ⟨len, fun A hr a oe cls d hz hf outer s H args us vs Q pin en bt rv hs => ?_⟩
  have inK : K.In s.heap := en.mod.kin.keeps fun b o h => (en.bs b o h).1
  have names : ∀ y ∈ ps.zip us, (defScope st).names.lookup y.1 = some .local ∨ ((defScope st).names.lookup y.1 = some .cell ∧ ((cellsFrom (s.heap.objs.size + 1) (defScope st).names []).lookup y.1).isSome = true) := by
    rintro ⟨n, v⟩ hy
    exact (S.par n (List.of_mem_zip hy).1).imp id fun q => ⟨q, PySem.W.cellsFrom_some _ _ _ (.inl q)⟩
  refine codeAny_call_function hr.depth (inK _ _ lk) rfl S.co S.gen rfl (PySem.W.codeRec_of inK hcd) (bt _ _ _ _ (wpAny_newFunctionEnv_cells S.kind names fun env he s1 inner => ?_))
  subst he
  refine ⟨(en.mod.nolimit.keeps fun b o h => (en.bs b o h).1).keeps inner.toInCall.keep, codeAny_func ?_⟩
  obtain ⟨t, ht, hq⟩ := read cdv A outer s H vs Q a oe cls d (hr.deeper _) hz hf hs
  have start0 := L2H.inv_startH (cd := cdv) (qual := qual) (CX := C8.CX0) (E := C8.E0) S pin en (len _ _ _ _ _ _ hs) rv inner
  refine wpAny_mono (ht.nox.run [] s1 (start N vs) H _ start0 hq) (fun fl s' hs' => ?_) fun _ _ h => h
  rcases fl with _ | _ | _ | u
  · obtain ⟨σ', H', J, q⟩ := hs'
    exact ⟨V.non, H', J.os, J.bare, J.base, J.hok, rfl, q⟩
  · obtain ⟨_, _, _, q⟩ := hs'
    exact q.elim
  · obtain ⟨_, _, _, q⟩ := hs'
    exact q.elim
  · obtain ⟨v, σ', H', J, r, q⟩ := hs'
    exact ⟨v, H', J.os, J.bare, J.base, J.hok, r, q⟩
end
section
variable {X : Cx} {k : Nat} {f : Addr} {fd : FuncData} {ps : List Str} {x : Str} {e : Expr} {es : List Expr} {p pos : Pos} {t : TA}
theorem pe_callE {sp : Addr → Value → Option Addr → Sp} {a : Addr} {oe : Obj} {cls : Value} {d : Option Addr} {pn : List (Addr × Obj)} (hz : Zc cls d oe) (hf : ∃ vs, oe.data = .fields vs) (F : FnE X.prog X.w X.K X.mg X.base k f fd ps sp) (hr : Room k X.A)
    (hg : Gl X x) (hm : X.mg x = some (.ref f)) (hk : PySem.W.keepIn X.K (.ref f) = true) (hb : Binds X.K fd ps []) (ha : PA (X.suite a ((a, oe) :: pn)) (e :: es) t)
    (hdb : (x == ("__debug__" : Str)) = false := by decide) (he : starEach (e :: es) X.env = (false, eval e X.env) :: starEach es X.env := by rfl) (hpl : (backTo pos (starEach es X.env)).any (·.1) = false := by rfl) :
    PE (X.suite a ((a, oe) :: pn)) (.Call (.Name x p) (e :: es) [] pos) (tCall (sp a cls d) [] C8.E0 t) := by
  refine ⟨fun pins s σ H Q I h => wpAny_Call_Name_kw (ld_glob I hg hm (PySem.W.callWith_K (h₀ := X.base) I.ok.mod.kin hk (thn (ha.run pos pins s σ H _ I h) fun us s1 ⟨vs, H1, I1, r, q⟩ => ⟨I1.kIn, ?_⟩) he hpl) hdb)⟩
  have q' : sp a cls d (vs ++ []) H1 Q C8.E0 := q
  rw [List.append_nil] at q'
  have many : us.length = ps.length := r.length.symm.trans (F.len _ _ _ _ _ _ q')
  have bt := hb s1 us I1.kIn (by rw [List.append_nil]; exact many)
  rw [List.append_nil] at bt
  obtain ⟨p1, p2, p3, p4, p5⟩ := I1.pin (a, oe) (List.mem_append_left _ List.mem_cons_self)
  have out : L2H.PinOk X.stack H1 s1 (a, oe) := ⟨p1, p2, fun z => (List.mem_cons.mp (I1.stkSub a z)).elim p3 p4, p5⟩
  refine wpAny_call (codeAny_mono (F.run _ (L2H.roomH_mark hr _) a oe cls d hz hf X.stack s1 H1 ⟨us, []⟩ us vs Q out I1.env0 bt r q') fun o s' hq => ?_)
  rcases o with err | fl
  · exact hq.elim
  · rcases fl with _ | _ | _ | u
    all_goals first | exact I1.after hq | exact hq.elim
end
end Rx
namespace Wm
open PySem PySem.Spec PyProof.Rows L2

abbrev L (z : Str) : List Nat := z.cps.toList
theorem len_L (z : Str) : z.length = (L z).length := by
  show z.cps.size = z.cps.toList.length
  simp
theorem L_app (a b : Str) : L (a ++ b) = L a ++ L b := by
  show (a.cps ++ b.cps).toList = _
  simp [L]
def cyc (m : List Nat) (k : Nat) : List Nat := (List.range k).map fun j => m.getD (j % m.length) 0
def row (h m t : List Nat) (n : Nat) : List Nat := h ++ cyc m (n - h.length - t.length) ++ t
section
variable {h m t : List Nat} {n : Nat}
end

section
open Rx
variable {α β S : Type}
theorem mapC_ok {body : α → (β → Prop) → Prop} {k : List β → Prop} (g : α → β) : ∀ {xs : List α} {acc : List β}, (∀ x ∈ xs, ∀ k' : β → Prop, k' (g x) → body x k') → k (acc ++ xs.map g) → mapC body xs acc k
  | [], acc, _, q => by
    rw [List.map_nil, List.append_nil] at q
    exact q
  | x :: xs, acc, h, q => h x List.mem_cons_self _ (mapC_ok g (fun y hy => h y (List.mem_cons_of_mem _ hy)) (by rw [List.append_assoc]; exact q))
theorem mapC_any {body : α → (β → Prop) → Prop} {k : List β → Prop} (P : β → Prop) : ∀ {xs : List α} {acc : List β}, (∀ x ∈ xs, ∀ k' : β → Prop, (∀ y, P y → k' y) → body x k') → (∀ ys : List β, ys.length = xs.length → (∀ y ∈ ys, P y) → k (acc ++ ys)) → mapC body xs acc k
  | [], acc, _, q => by
    have := q [] rfl (fun _ h => absurd h List.not_mem_nil)
    rw [List.append_nil] at this
    exact this
  | x :: xs, acc, h, q => h x List.mem_cons_self _ fun y hy => mapC_any P (fun z hz => h z (List.mem_cons_of_mem _ hz)) fun ys hl hp => by
    rw [List.append_assoc]
    exact q (y :: ys) (congrArg Nat.succ hl) fun z hz => by
      rcases List.mem_cons.mp hz with e | hz
      · rw [e]
        exact hy
      · exact hp z hz
theorem filC_ok {body : α → (Option β → Prop) → Prop} {k : List β → Prop} (g : α → Option β) : ∀ {xs : List α} {acc : List β}, (∀ x ∈ xs, ∀ k' : Option β → Prop, k' (g x) → body x k') → k (acc ++ xs.filterMap g) → filC body xs acc k
  | [], acc, _, q => by
    rw [List.filterMap_nil, List.append_nil] at q
    exact q
  | x :: xs, acc, h, q => h x List.mem_cons_self _ (by
    show match g x with | some y => filC body xs (acc ++ [y]) k | none => filC body xs acc k
    cases e : g x with
    | none => exact filC_ok g (fun y hy => h y (List.mem_cons_of_mem _ hy)) (by rw [List.filterMap_cons_none e] at q; exact q)
    | some y => exact filC_ok g (fun y hy => h y (List.mem_cons_of_mem _ hy)) (by rw [List.filterMap_cons_some e] at q; rw [List.append_assoc]; exact q))
end
end Wm

namespace Lw
open PySem PySem.Spec PyProof.Rows L2 Rx
abbrev St := L2.St
theorem sc_draw : FnScope ["_law_pot_here", "_law_size", "_law_digit"] ["_law_pot_here", "_law_size"] (defScope s_draw) := ⟨rfl, rfl, rfl, by decide +kernel, rfl, by decide +kernel, by decide +kernel⟩
theorem sc_pick : FnScope ["_law_pot_here", "_law_some"] ["_law_pot_here", "_law_some"] (defScope s_pick) := ⟨rfl, rfl, rfl, by decide +kernel, rfl, by decide +kernel, by decide +kernel⟩
theorem sc_no_integer : FnScope ["_law_pot_here"] ["_law_pot_here"] (defScope s_no_integer) := ⟨rfl, rfl, rfl, by decide +kernel, rfl, by decide +kernel, by decide +kernel⟩
theorem sc_no_count : FnScope ["_law_pot_here"] ["_law_pot_here"] (defScope s_no_count) := ⟨rfl, rfl, rfl, by decide +kernel, rfl, by decide +kernel, by decide +kernel⟩
theorem sc_first : FnScope ["_law_pot_here", "_law_odd"] ["_law_pot_here"] (defScope s_first) := ⟨rfl, rfl, rfl, by decide +kernel, rfl, by decide +kernel, by decide +kernel⟩
theorem sc_spoilt : FnScope ["_law_pot_here", "_law_right_here", "_law_wrong", "_law_found", "_law_at"] ["_law_pot_here", "_law_right_here", "_law_wrong"] (defScope s_spoilt) := ⟨rfl, rfl, rfl, by decide +kernel, rfl, by decide +kernel, by decide +kernel⟩
theorem sc_early : FnScope ["_law_pot_here", "_law_right_here", "_law_way", "_law_odd", "_law_found", "_law_at", "_law_turn"] ["_law_pot_here"] (defScope s_early) := ⟨rfl, rfl, rfl, by decide +kernel, rfl, by decide +kernel, by decide +kernel⟩
theorem sc_no_row : FnScope ["_law_pot_here", "_law_some"] ["_law_pot_here"] (defScope s_no_row) := ⟨rfl, rfl, rfl, by decide +kernel, rfl, by decide +kernel, by decide +kernel⟩
theorem sc_rows : FnScope ["_law_pot_here", "_law_right_here", "_law_way", "_law_odd", "_law_found", "_law_at", "_law_rest"] ["_law_pot_here"] (defScope s_rows) := ⟨rfl, rfl, rfl, by decide +kernel, rfl, by decide +kernel, by decide +kernel⟩
theorem sc_is_integer : FnScope ["value"] ["value"] (defScope s_is_integer) := ⟨rfl, rfl, rfl, by decide +kernel, rfl, by decide +kernel, by decide +kernel⟩
theorem sc_is_count : FnScope ["value"] ["value"] (defScope s_is_count) := ⟨rfl, rfl, rfl, by decide +kernel, rfl, by decide +kernel, by decide +kernel⟩
theorem sc_check_first : FnScope ["first"] ["first"] (defScope s_check_first) := ⟨rfl, rfl, rfl, by decide +kernel, rfl, by decide +kernel, by decide +kernel⟩
theorem sc_is_list : FnScope ["value"] ["value"] (defScope s_is_list) := ⟨rfl, rfl, rfl, by decide +kernel, rfl, by decide +kernel, by decide +kernel⟩
theorem sc_check_values : FnScope ["early", "position", "value"] ["early"] (defScope s_check_values) := ⟨rfl, rfl, rfl, by decide +kernel, rfl, by decide +kernel, by decide +kernel⟩
theorem sc_is_row : FnScope ["value", "part"] ["value"] (defScope s_is_row) := ⟨rfl, rfl, rfl, by decide +kernel, rfl, by decide +kernel, by decide +kernel⟩
theorem sc_check_rows : FnScope ["rows", "position", "row"] ["rows"] (defScope s_check_rows) := ⟨rfl, rfl, rfl, by decide +kernel, rfl, by decide +kernel, by decide +kernel⟩
theorem sc_check_parts : FnScope ["first", "early", "rows"] ["first", "early", "rows"] (defScope s_check_parts) := ⟨rfl, rfl, rfl, by decide +kernel, rfl, by decide +kernel, by decide +kernel⟩
theorem sc_Form_init : FnScope ["self", "first", "early", "rows", "row"] ["self", "first", "early", "rows"] (defScope s_Form_init) := ⟨rfl, rfl, rfl, by decide +kernel, rfl, by decide +kernel, by decide +kernel⟩
theorem sc_is_value : FnScope ["_law_e"] ["_law_e"] (defScope s_is_value) := ⟨rfl, rfl, rfl, by decide +kernel, rfl, by decide +kernel, by decide +kernel⟩
theorem sc_heard : FnScope ["_law_call", "_law_told", "_law_e"] ["_law_call"] (defScope s_heard) := ⟨rfl, rfl, rfl, by decide +kernel, rfl, by decide +kernel, by decide +kernel⟩
theorem sc_is_due : FnScope ["_law_call", "_law_due"] ["_law_call", "_law_due"] (defScope s_is_due) := ⟨rfl, rfl, rfl, by decide +kernel, rfl, by decide +kernel, by decide +kernel⟩
theorem sc_is_form_right : FnScope ["_law_pot_here", "_law_start", "_law_wrong_first", "_law_ahead", "_law_wrong_early", "_law_many", "_law_lines", "_law_wrong_rows", "_law_size", "_law_due", "_law_told", "_law_kept", "_law_wrong"] ["_law_pot_here"] (defScope s_is_form_right) := ⟨rfl, rfl, rfl, by decide +kernel, rfl, by decide +kernel, by decide +kernel⟩
theorem sc_checked : FnScope ["number"] ["number"] (defScope s_checked) := ⟨rfl, rfl, rfl, by decide +kernel, rfl, by decide +kernel, by decide +kernel⟩
theorem sc_Form_level : FnScope ["first", "number"] ["first", "number"] (defScope s_Form_level) := ⟨rfl, rfl, rfl, by decide +kernel, rfl, by decide +kernel, by decide +kernel⟩
theorem sc_is_level_right : FnScope ["_law_pot_here", "_law_start", "_law_wrong_first", "_law_amount", "_law_wrong_number", "_law_due", "_law_wrong"] ["_law_pot_here"] (defScope s_is_level_right) := ⟨rfl, rfl, rfl, by decide +kernel, rfl, by decide +kernel, by decide +kernel⟩
theorem sc_right : FnScope ["_law_pot_here", "_law_turn"] ["_law_pot_here"] (defScope s_right) := ⟨rfl, rfl, rfl, by decide +kernel, rfl, by decide +kernel, by decide +kernel⟩
theorem sc_pot : FnScope ["_law_script", "_law_k", "_law_figures"] ["_law_script", "_law_k"] (defScope s_pot) := ⟨rfl, rfl, rfl, by decide +kernel, rfl, by decide +kernel, by decide +kernel⟩
theorem sc_law : FnScope ["_law_script", "_law_k"] ["_law_script"] (defScope s_law) := ⟨rfl, rfl, rfl, by decide +kernel, rfl, by decide +kernel, by decide +kernel⟩
theorem sc_Reckoned_init : FnScope ["self", "parts"] ["self", "parts"] (defScope s_Reckoned_init) := ⟨rfl, rfl, rfl, by decide +kernel, rfl, by decide +kernel, by decide +kernel⟩
theorem sc_InvalidFirst_init : FnScope ["self", "value"] ["self", "value"] (defScope s_InvalidFirst_init) := ⟨rfl, rfl, rfl, by decide +kernel, rfl, by decide +kernel, by decide +kernel⟩
theorem sc_InvalidNumber_init : FnScope ["self", "value"] ["self", "value"] (defScope s_InvalidNumber_init) := ⟨rfl, rfl, rfl, by decide +kernel, rfl, by decide +kernel, by decide +kernel⟩
theorem sc_InvalidRows_init : FnScope ["self", "position"] ["self", "position"] (defScope s_InvalidRows_init) := ⟨rfl, rfl, rfl, by decide +kernel, rfl, by decide +kernel, by decide +kernel⟩
theorem sc_InvalidValues_init : FnScope ["self", "position"] ["self", "position"] (defScope s_InvalidValues_init) := ⟨rfl, rfl, rfl, by decide +kernel, rfl, by decide +kernel, by decide +kernel⟩
theorem sc_TooMany_init : FnScope ["self", "what", "limit"] ["self", "what", "limit"] (defScope s_TooMany_init) := ⟨rfl, rfl, rfl, by decide +kernel, rfl, by decide +kernel, by decide +kernel⟩
structure Ad where
  a_draw : Addr
  d_draw : FuncData
  a_pick : Addr
  d_pick : FuncData
  a_no_integer : Addr
  d_no_integer : FuncData
  a_no_count : Addr
  d_no_count : FuncData
  a_first : Addr
  d_first : FuncData
  a_spoilt : Addr
  d_spoilt : FuncData
  a_early : Addr
  d_early : FuncData
  a_no_row : Addr
  d_no_row : FuncData
  a_rows : Addr
  d_rows : FuncData
  a_is_integer : Addr
  d_is_integer : FuncData
  a_is_count : Addr
  d_is_count : FuncData
  a_check_first : Addr
  d_check_first : FuncData
  a_is_list : Addr
  d_is_list : FuncData
  a_check_values : Addr
  d_check_values : FuncData
  a_is_row : Addr
  d_is_row : FuncData
  a_check_rows : Addr
  d_check_rows : FuncData
  a_check_parts : Addr
  d_check_parts : FuncData
  a_Form_init : Addr
  d_Form_init : FuncData
  a_is_value : Addr
  d_is_value : FuncData
  a_heard : Addr
  d_heard : FuncData
  a_is_due : Addr
  d_is_due : FuncData
  a_is_form_right : Addr
  d_is_form_right : FuncData
  a_checked : Addr
  d_checked : FuncData
  a_Form_level : Addr
  d_Form_level : FuncData
  a_is_level_right : Addr
  d_is_level_right : FuncData
  a_right : Addr
  d_right : FuncData
  a_pot : Addr
  d_pot : FuncData
  a_law : Addr
  d_law : FuncData
  a_Reckoned_init : Addr
  d_Reckoned_init : FuncData
  a_InvalidFirst_init : Addr
  d_InvalidFirst_init : FuncData
  a_InvalidNumber_init : Addr
  d_InvalidNumber_init : FuncData
  a_InvalidRows_init : Addr
  d_InvalidRows_init : FuncData
  a_InvalidValues_init : Addr
  d_InvalidValues_init : FuncData
  a_TooMany_init : Addr
  d_TooMany_init : FuncData
  c_Form : Addr
  c_Reckoned : Addr
  c_InvalidFirst : Addr
  c_InvalidNumber : Addr
  c_InvalidRows : Addr
  c_InvalidValues : Addr
  c_LeagueError : Addr
  c_LimitError : Addr
  c_TooMany : Addr
  k_is_form_right : Addr
  t_is_form_right : Addr
  k_is_level_right : Addr
  t_is_level_right : Addr
abbrev Ad.tbs (A : Ad) : List PEn := [(A.t_is_form_right, some ((("_law_is_form_right" : Str) ++ (".<locals>." : Str)) ++ ("<lambda>" : Str))), (A.t_is_level_right, some ((("_law_is_level_right" : Str) ++ (".<locals>." : Str)) ++ ("<lambda>" : Str)))]
theorem tm_is_form_right (A : Ad) : (A.t_is_form_right, some ((("_law_is_form_right" : Str) ++ (".<locals>." : Str)) ++ ("<lambda>" : Str))) ∈ A.tbs := List.mem_cons_self
theorem tm_is_level_right (A : Ad) : (A.t_is_level_right, some ((("_law_is_level_right" : Str) ++ (".<locals>." : Str)) ++ ("<lambda>" : Str))) ∈ A.tbs := List.mem_cons_of_mem _ (List.mem_cons_self)
structure Txt (w : World) (K : PySem.W.Frag) (mg : Str → Option Value) (base : Heap) (A : Ad) : Prop where
  nd_tb : (A.tbs.map Prod.fst).Nodup
  g_InvalidFirst : mg "InvalidFirst" = some (.ref A.c_InvalidFirst)
  g_InvalidNumber : mg "InvalidNumber" = some (.ref A.c_InvalidNumber)
  g_InvalidRows : mg "InvalidRows" = some (.ref A.c_InvalidRows)
  g_InvalidValues : mg "InvalidValues" = some (.ref A.c_InvalidValues)
  g_LeagueError : mg "LeagueError" = some (.ref A.c_LeagueError)
  g_LimitError : mg "LimitError" = some (.ref A.c_LimitError)
  g_TooMany : mg "TooMany" = some (.ref A.c_TooMany)
  ox_InvalidFirst : OexC K A.c_InvalidFirst
  ii_InvalidFirst : PySem.W.findIn K (.ref A.c_InvalidFirst) "__init__" = some (some (.ref A.a_InvalidFirst_init))
  ti_InvalidFirst : PySem.W.typeIn K (.ref A.a_InvalidFirst_init) = some (.type "function")
  no_InvalidFirst_value : PySem.W.findIn K (.ref A.c_InvalidFirst) "value" = some none
  ox_InvalidNumber : OexC K A.c_InvalidNumber
  ii_InvalidNumber : PySem.W.findIn K (.ref A.c_InvalidNumber) "__init__" = some (some (.ref A.a_InvalidNumber_init))
  ti_InvalidNumber : PySem.W.typeIn K (.ref A.a_InvalidNumber_init) = some (.type "function")
  no_InvalidNumber_value : PySem.W.findIn K (.ref A.c_InvalidNumber) "value" = some none
  ox_InvalidRows : OexC K A.c_InvalidRows
  ii_InvalidRows : PySem.W.findIn K (.ref A.c_InvalidRows) "__init__" = some (some (.ref A.a_InvalidRows_init))
  ti_InvalidRows : PySem.W.typeIn K (.ref A.a_InvalidRows_init) = some (.type "function")
  no_InvalidRows_position : PySem.W.findIn K (.ref A.c_InvalidRows) "position" = some none
  ox_InvalidValues : OexC K A.c_InvalidValues
  ii_InvalidValues : PySem.W.findIn K (.ref A.c_InvalidValues) "__init__" = some (some (.ref A.a_InvalidValues_init))
  ti_InvalidValues : PySem.W.typeIn K (.ref A.a_InvalidValues_init) = some (.type "function")
  no_InvalidValues_position : PySem.W.findIn K (.ref A.c_InvalidValues) "position" = some none
  ox_TooMany : OexG K A.c_TooMany
  ii_TooMany : PySem.W.findIn K (.ref A.c_TooMany) "__init__" = some (some (.ref A.a_TooMany_init))
  ti_TooMany : PySem.W.typeIn K (.ref A.a_TooMany_init) = some (.type "function")
  no_TooMany_what : PySem.W.findIn K (.ref A.c_TooMany) "what" = some none
  no_TooMany_limit : PySem.W.findIn K (.ref A.c_TooMany) "limit" = some none
  xf_InvalidFirst : XfC K A.c_InvalidFirst
  xc_InvalidFirst : ExcC K A.c_InvalidFirst
  xf_InvalidNumber : XfC K A.c_InvalidNumber
  xc_InvalidNumber : ExcC K A.c_InvalidNumber
  xf_InvalidRows : XfC K A.c_InvalidRows
  xc_InvalidRows : ExcC K A.c_InvalidRows
  xf_InvalidValues : XfC K A.c_InvalidValues
  xc_InvalidValues : ExcC K A.c_InvalidValues
  xf_TooMany : XfC K A.c_TooMany
  xc_TooMany : ExcC K A.c_TooMany
  xm_InvalidFirst_InvalidFirst : PySem.W.exmOne K (.ref A.c_InvalidFirst) (.ref A.c_InvalidFirst) = some true
  xm_InvalidNumber_InvalidFirst : PySem.W.exmOne K (.ref A.c_InvalidNumber) (.ref A.c_InvalidFirst) = some false
  xm_InvalidNumber_InvalidNumber : PySem.W.exmOne K (.ref A.c_InvalidNumber) (.ref A.c_InvalidNumber) = some true
  xm_InvalidNumber_InvalidRows : PySem.W.exmOne K (.ref A.c_InvalidNumber) (.ref A.c_InvalidRows) = some false
  xm_InvalidNumber_InvalidValues : PySem.W.exmOne K (.ref A.c_InvalidNumber) (.ref A.c_InvalidValues) = some false
  xm_InvalidRows_InvalidFirst : PySem.W.exmOne K (.ref A.c_InvalidRows) (.ref A.c_InvalidFirst) = some false
  xm_InvalidRows_InvalidRows : PySem.W.exmOne K (.ref A.c_InvalidRows) (.ref A.c_InvalidRows) = some true
  xm_InvalidRows_InvalidValues : PySem.W.exmOne K (.ref A.c_InvalidRows) (.ref A.c_InvalidValues) = some false
  xm_InvalidValues_InvalidFirst : PySem.W.exmOne K (.ref A.c_InvalidValues) (.ref A.c_InvalidFirst) = some false
  xm_InvalidValues_InvalidValues : PySem.W.exmOne K (.ref A.c_InvalidValues) (.ref A.c_InvalidValues) = some true
  xm_TooMany_InvalidFirst : PySem.W.exmOne K (.ref A.c_TooMany) (.ref A.c_InvalidFirst) = some false
  xm_TooMany_InvalidNumber : PySem.W.exmOne K (.ref A.c_TooMany) (.ref A.c_InvalidNumber) = some false
  xm_TooMany_InvalidRows : PySem.W.exmOne K (.ref A.c_TooMany) (.ref A.c_InvalidRows) = some false
  xm_TooMany_InvalidValues : PySem.W.exmOne K (.ref A.c_TooMany) (.ref A.c_InvalidValues) = some false
  xm_TooMany_TooMany : PySem.W.exmOne K (.ref A.c_TooMany) (.ref A.c_TooMany) = some true
  xk_InvalidFirst_LeagueError : PySem.W.kitOne K (.ref A.c_InvalidFirst) (.ref A.c_LeagueError) = some true
  xk_InvalidFirst_ValueError : PySem.W.kitOne K (.ref A.c_InvalidFirst) (.type "ValueError") = some true
  xk_InvalidNumber_LeagueError : PySem.W.kitOne K (.ref A.c_InvalidNumber) (.ref A.c_LeagueError) = some true
  xk_InvalidNumber_ValueError : PySem.W.kitOne K (.ref A.c_InvalidNumber) (.type "ValueError") = some true
  xk_InvalidRows_LeagueError : PySem.W.kitOne K (.ref A.c_InvalidRows) (.ref A.c_LeagueError) = some true
  xk_InvalidRows_ValueError : PySem.W.kitOne K (.ref A.c_InvalidRows) (.type "ValueError") = some true
  xk_InvalidValues_LeagueError : PySem.W.kitOne K (.ref A.c_InvalidValues) (.ref A.c_LeagueError) = some true
  xk_InvalidValues_ValueError : PySem.W.kitOne K (.ref A.c_InvalidValues) (.type "ValueError") = some true
  xk_TooMany_ArithmeticError : PySem.W.kitOne K (.ref A.c_TooMany) (.type "ArithmeticError") = some true
  xk_TooMany_LimitError : PySem.W.kitOne K (.ref A.c_TooMany) (.ref A.c_LimitError) = some true
  tb_is_form_right : LamX.TabB base mg A.k_is_form_right A.t_is_form_right
  cd_is_form_right : A.d_is_form_right.code = .ref A.k_is_form_right
  tb_is_level_right : LamX.TabB base mg A.k_is_level_right A.t_is_level_right
  cd_is_level_right : A.d_is_level_right.code = .ref A.k_is_level_right
  F_draw : Fun K "_law_draw" "_law_draw" s_draw A.a_draw A.d_draw
  b_draw : Binds K A.d_draw ["_law_pot_here", "_law_size"] []
  g_draw : mg "_law_draw" = some (.ref A.a_draw)
  F_pick : Fun K "_law_pick" "_law_pick" s_pick A.a_pick A.d_pick
  b_pick : Binds K A.d_pick ["_law_pot_here", "_law_some"] []
  g_pick : mg "_law_pick" = some (.ref A.a_pick)
  F_no_integer : Fun K "_law_no_integer" "_law_no_integer" s_no_integer A.a_no_integer A.d_no_integer
  b_no_integer : Binds K A.d_no_integer ["_law_pot_here"] []
  g_no_integer : mg "_law_no_integer" = some (.ref A.a_no_integer)
  F_no_count : Fun K "_law_no_count" "_law_no_count" s_no_count A.a_no_count A.d_no_count
  b_no_count : Binds K A.d_no_count ["_law_pot_here"] []
  g_no_count : mg "_law_no_count" = some (.ref A.a_no_count)
  F_first : Fun K "_law_first" "_law_first" s_first A.a_first A.d_first
  b_first : Binds K A.d_first ["_law_pot_here"] []
  g_first : mg "_law_first" = some (.ref A.a_first)
  F_spoilt : Fun K "_law_spoilt" "_law_spoilt" s_spoilt A.a_spoilt A.d_spoilt
  b_spoilt : Binds K A.d_spoilt ["_law_pot_here", "_law_right_here", "_law_wrong"] []
  g_spoilt : mg "_law_spoilt" = some (.ref A.a_spoilt)
  F_early : Fun K "_law_early" "_law_early" s_early A.a_early A.d_early
  b_early : Binds K A.d_early ["_law_pot_here"] []
  g_early : mg "_law_early" = some (.ref A.a_early)
  F_no_row : Fun K "_law_no_row" "_law_no_row" s_no_row A.a_no_row A.d_no_row
  b_no_row : Binds K A.d_no_row ["_law_pot_here"] []
  g_no_row : mg "_law_no_row" = some (.ref A.a_no_row)
  F_rows : Fun K "_law_rows" "_law_rows" s_rows A.a_rows A.d_rows
  b_rows : Binds K A.d_rows ["_law_pot_here"] []
  g_rows : mg "_law_rows" = some (.ref A.a_rows)
  F_is_integer : Fun K "is_integer" "is_integer" s_is_integer A.a_is_integer A.d_is_integer
  b_is_integer : Binds K A.d_is_integer ["value"] []
  g_is_integer : mg "is_integer" = some (.ref A.a_is_integer)
  F_is_count : Fun K "is_count" "is_count" s_is_count A.a_is_count A.d_is_count
  b_is_count : Binds K A.d_is_count ["value"] []
  g_is_count : mg "is_count" = some (.ref A.a_is_count)
  F_check_first : Fun K "_check_first" "_check_first" s_check_first A.a_check_first A.d_check_first
  b_check_first : Binds K A.d_check_first ["first"] []
  g_check_first : mg "_check_first" = some (.ref A.a_check_first)
  F_is_list : Fun K "is_list" "is_list" s_is_list A.a_is_list A.d_is_list
  b_is_list : Binds K A.d_is_list ["value"] []
  g_is_list : mg "is_list" = some (.ref A.a_is_list)
  F_check_values : Fun K "_check_values" "_check_values" s_check_values A.a_check_values A.d_check_values
  b_check_values : Binds K A.d_check_values ["early"] []
  g_check_values : mg "_check_values" = some (.ref A.a_check_values)
  F_is_row : Fun K "_is_row" "_is_row" s_is_row A.a_is_row A.d_is_row
  b_is_row : Binds K A.d_is_row ["value"] []
  g_is_row : mg "_is_row" = some (.ref A.a_is_row)
  F_check_rows : Fun K "_check_rows" "_check_rows" s_check_rows A.a_check_rows A.d_check_rows
  b_check_rows : Binds K A.d_check_rows ["rows"] []
  g_check_rows : mg "_check_rows" = some (.ref A.a_check_rows)
  F_check_parts : Fun K "_check_parts" "_check_parts" s_check_parts A.a_check_parts A.d_check_parts
  b_check_parts : Binds K A.d_check_parts ["first", "early", "rows"] []
  g_check_parts : mg "_check_parts" = some (.ref A.a_check_parts)
  F_Form_init : Fun K "__init__" "Form.__init__" s_Form_init A.a_Form_init A.d_Form_init
  b_Form_init : Binds K A.d_Form_init ["self", "first", "early", "rows"] []
  F_is_value : Fun K "_law_is_value" "_law_is_value" s_is_value A.a_is_value A.d_is_value
  b_is_value : Binds K A.d_is_value ["_law_e"] []
  g_is_value : mg "_law_is_value" = some (.ref A.a_is_value)
  F_heard : Fun K "_law_heard" "_law_heard" s_heard A.a_heard A.d_heard
  b_heard : Binds K A.d_heard ["_law_call"] []
  g_heard : mg "_law_heard" = some (.ref A.a_heard)
  F_is_due : Fun K "_law_is_due" "_law_is_due" s_is_due A.a_is_due A.d_is_due
  b_is_due : Binds K A.d_is_due ["_law_call", "_law_due"] []
  g_is_due : mg "_law_is_due" = some (.ref A.a_is_due)
  F_is_form_right : Fun K "_law_is_form_right" "_law_is_form_right" s_is_form_right A.a_is_form_right A.d_is_form_right
  b_is_form_right : Binds K A.d_is_form_right ["_law_pot_here"] []
  g_is_form_right : mg "_law_is_form_right" = some (.ref A.a_is_form_right)
  F_checked : Fun K "_checked" "_checked" s_checked A.a_checked A.d_checked
  b_checked : Binds K A.d_checked ["number"] []
  g_checked : mg "_checked" = some (.ref A.a_checked)
  F_Form_level : Fun K "level" "Form.level" s_Form_level A.a_Form_level A.d_Form_level
  b_Form_level : Binds K A.d_Form_level ["first", "number"] []
  st_Form_level : SMet K A.c_Form "level" A.a_Form_level
  F_is_level_right : Fun K "_law_is_level_right" "_law_is_level_right" s_is_level_right A.a_is_level_right A.d_is_level_right
  b_is_level_right : Binds K A.d_is_level_right ["_law_pot_here"] []
  g_is_level_right : mg "_law_is_level_right" = some (.ref A.a_is_level_right)
  F_right : Fun K "_law_right" "_law_right" s_right A.a_right A.d_right
  b_right : Binds K A.d_right ["_law_pot_here"] []
  g_right : mg "_law_right" = some (.ref A.a_right)
  F_pot : Fun K "_law_pot" "_law_pot" s_pot A.a_pot A.d_pot
  b_pot : Binds K A.d_pot ["_law_script", "_law_k"] []
  g_pot : mg "_law_pot" = some (.ref A.a_pot)
  F_law : Fun K "law" "law" s_law A.a_law A.d_law
  b_law : Binds K A.d_law ["_law_script"] []
  g_law : mg "law" = some (.ref A.a_law)
  F_Reckoned_init : Fun K "__init__" "Reckoned.__init__" s_Reckoned_init A.a_Reckoned_init A.d_Reckoned_init
  b_Reckoned_init : Binds K A.d_Reckoned_init ["self", "parts"] []
  F_InvalidFirst_init : Fun K "__init__" "InvalidFirst.__init__" s_InvalidFirst_init A.a_InvalidFirst_init A.d_InvalidFirst_init
  b_InvalidFirst_init : Binds K A.d_InvalidFirst_init ["self", "value"] []
  F_InvalidNumber_init : Fun K "__init__" "InvalidNumber.__init__" s_InvalidNumber_init A.a_InvalidNumber_init A.d_InvalidNumber_init
  b_InvalidNumber_init : Binds K A.d_InvalidNumber_init ["self", "value"] []
  F_InvalidRows_init : Fun K "__init__" "InvalidRows.__init__" s_InvalidRows_init A.a_InvalidRows_init A.d_InvalidRows_init
  b_InvalidRows_init : Binds K A.d_InvalidRows_init ["self", "position"] []
  F_InvalidValues_init : Fun K "__init__" "InvalidValues.__init__" s_InvalidValues_init A.a_InvalidValues_init A.d_InvalidValues_init
  b_InvalidValues_init : Binds K A.d_InvalidValues_init ["self", "position"] []
  F_TooMany_init : Fun K "__init__" "TooMany.__init__" s_TooMany_init A.a_TooMany_init A.d_TooMany_init
  b_TooMany_init : Binds K A.d_TooMany_init ["self", "what", "limit"] []
  cl_Form : Cls K A.c_Form
  g_Form : mg "Form" = some (.ref A.c_Form)
  mk_Form : Mk K A.c_Form A.a_Form_init
  na_Form__first : NoAttr K A.c_Form "_first"
  na_Form__early : NoAttr K A.c_Form "_early"
  na_Form__rows : NoAttr K A.c_Form "_rows"
  cl_Reckoned : Cls K A.c_Reckoned
  g_Reckoned : mg "Reckoned" = some (.ref A.c_Reckoned)
  mk_Reckoned : Mk K A.c_Reckoned A.a_Reckoned_init
  na_Reckoned_parts : NoAttr K A.c_Reckoned "parts"
  in_Reckoned : IsN K A.c_Reckoned
  z_ArithmeticError : mg "ArithmeticError" = none
  z_ValueError : mg "ValueError" = none
  z_abs : mg "abs" = none
  z_all : mg "all" = none
  z_any : mg "any" = none
  z_bool : mg "bool" = none
  z_dict : mg "dict" = none
  z_divmod : mg "divmod" = none
  z_enumerate : mg "enumerate" = none
  z_int : mg "int" = none
  z_isinstance : mg "isinstance" = none
  z_len : mg "len" = none
  z_list : mg "list" = none
  z_max : mg "max" = none
  z_min : mg "min" = none
  z_range : mg "range" = none
  z_repr : mg "repr" = none
  z_set : mg "set" = none
  z_sorted : mg "sorted" = none
  z_sum : mg "sum" = none
  z_tuple : mg "tuple" = none
  z_zip : mg "zip" = none
  c_MOST_ROWS : ∃ u, mg "MOST_ROWS" = some u ∧ RelV (.int 24) u
  c_MOST_VALUES : ∃ u, mg "MOST_VALUES" = some u ∧ RelV (.int 200) u
  k_Form_init_rows_first_early : KBn K A.d_Form_init ["self", "first", "early", "rows"] 1 ["rows", "first", "early"] (fun us ws => us ++ [ws.getD 1 .none, ws.getD 2 .none, ws.getD 0 .none]) (fun us ws => us ++ [ws.getD 1 .non, ws.getD 2 .non, ws.getD 0 .non])
  k_Form_level_number_first : KBn K A.d_Form_level ["first", "number"] 0 ["number", "first"] (fun us ws => us ++ [ws.getD 1 .none, ws.getD 0 .none]) (fun us ws => us ++ [ws.getD 1 .non, ws.getD 0 .non])
abbrev ns_Form : List Str := ["_first", "_early", "_rows"]
theorem nd_Form : ns_Form.Nodup := by decide +kernel
abbrev eForm (A : Ad) (x : (Int × List Int × List (Int × Int × Int))) : D := .ins A.c_Form ns_Form [(D.v (V.int x.1)), (D.lst (x.2.1.map (fun y_ : Int => (D.v (V.int y_))))), (D.lst (x.2.2.map (fun y_ : (Int × Int × Int) => (D.tup [(D.v (V.int y_.1)), (D.v (V.int y_.2.1)), (D.v (V.int y_.2.2))]))))]
abbrev ns_Reckoned : List Str := ["parts"]
theorem nd_Reckoned : ns_Reckoned.Nodup := by decide +kernel
abbrev eReckonedI (A : Ad) (x : (List Int)) : D := .ins A.c_Reckoned ns_Reckoned [(D.lst (x.map (fun y_ : Int => (D.v (V.int y_)))))]
abbrev eReckonedR (A : Ad) (x : (List (Int × Int × Int))) : D := .ins A.c_Reckoned ns_Reckoned [(D.lst (x.map (fun y_ : (Int × Int × Int) => (D.tup [(D.v (V.int y_.1)), (D.v (V.int y_.2.1)), (D.v (V.int y_.2.2))]))))]
theorem ok_InvalidFirst_init {P : Program} {w : World} {K : PySem.W.Frag} {mg : Str → Option Value} {base : Heap} {A : Ad} (T : Txt w K mg base A) : FnOk P w K mg base CX0 1 A.a_InvalidFirst_init A.d_InvalidFirst_init ["self", "value"] (sp_exi A.c_InvalidFirst "value") := by
  refine T.F_InvalidFirst_init.ok sc_InvalidFirst_init (fun vs H Q E h => ?_) (fun cdv A_ outer s_ H_0 vs Q E hr h => ?_)
  · obtain ⟨a, y, rfl, _⟩ := h
    rfl
  · obtain ⟨a, y, rfl, ha, hQ⟩ := h
    refine ⟨_, pss_one (ps_ost (pv 0) (pv 1)), ?_⟩
    exact ⟨_, rfl, _, rfl, a, A.c_InvalidFirst, rfl, T.ox_InvalidFirst, T.no_InvalidFirst_value, .inl ⟨ha, fun dx n1 n2 => hQ dx n1 n2⟩⟩
theorem ok_InvalidNumber_init {P : Program} {w : World} {K : PySem.W.Frag} {mg : Str → Option Value} {base : Heap} {A : Ad} (T : Txt w K mg base A) : FnOk P w K mg base CX0 1 A.a_InvalidNumber_init A.d_InvalidNumber_init ["self", "value"] (sp_exi A.c_InvalidNumber "value") := by
  refine T.F_InvalidNumber_init.ok sc_InvalidNumber_init (fun vs H Q E h => ?_) (fun cdv A_ outer s_ H_0 vs Q E hr h => ?_)
  · obtain ⟨a, y, rfl, _⟩ := h
    rfl
  · obtain ⟨a, y, rfl, ha, hQ⟩ := h
    refine ⟨_, pss_one (ps_ost (pv 0) (pv 1)), ?_⟩
    exact ⟨_, rfl, _, rfl, a, A.c_InvalidNumber, rfl, T.ox_InvalidNumber, T.no_InvalidNumber_value, .inl ⟨ha, fun dx n1 n2 => hQ dx n1 n2⟩⟩
theorem ok_InvalidRows_init {P : Program} {w : World} {K : PySem.W.Frag} {mg : Str → Option Value} {base : Heap} {A : Ad} (T : Txt w K mg base A) : FnOk P w K mg base CX0 1 A.a_InvalidRows_init A.d_InvalidRows_init ["self", "position"] (sp_exi A.c_InvalidRows "position") := by
  refine T.F_InvalidRows_init.ok sc_InvalidRows_init (fun vs H Q E h => ?_) (fun cdv A_ outer s_ H_0 vs Q E hr h => ?_)
  · obtain ⟨a, y, rfl, _⟩ := h
    rfl
  · obtain ⟨a, y, rfl, ha, hQ⟩ := h
    refine ⟨_, pss_one (ps_ost (pv 0) (pv 1)), ?_⟩
    exact ⟨_, rfl, _, rfl, a, A.c_InvalidRows, rfl, T.ox_InvalidRows, T.no_InvalidRows_position, .inl ⟨ha, fun dx n1 n2 => hQ dx n1 n2⟩⟩
theorem ok_InvalidValues_init {P : Program} {w : World} {K : PySem.W.Frag} {mg : Str → Option Value} {base : Heap} {A : Ad} (T : Txt w K mg base A) : FnOk P w K mg base CX0 1 A.a_InvalidValues_init A.d_InvalidValues_init ["self", "position"] (sp_exi A.c_InvalidValues "position") := by
  refine T.F_InvalidValues_init.ok sc_InvalidValues_init (fun vs H Q E h => ?_) (fun cdv A_ outer s_ H_0 vs Q E hr h => ?_)
  · obtain ⟨a, y, rfl, _⟩ := h
    rfl
  · obtain ⟨a, y, rfl, ha, hQ⟩ := h
    refine ⟨_, pss_one (ps_ost (pv 0) (pv 1)), ?_⟩
    exact ⟨_, rfl, _, rfl, a, A.c_InvalidValues, rfl, T.ox_InvalidValues, T.no_InvalidValues_position, .inl ⟨ha, fun dx n1 n2 => hQ dx n1 n2⟩⟩
theorem ok_TooMany_init {P : Program} {w : World} {K : PySem.W.Frag} {mg : Str → Option Value} {base : Heap} {A : Ad} (T : Txt w K mg base A) : FnOk P w K mg base CX0 1 A.a_TooMany_init A.d_TooMany_init ["self", "what", "limit"] (sp_exi2 A.c_TooMany "what" "limit") := by
  refine T.F_TooMany_init.ok sc_TooMany_init (fun vs H Q E h => ?_) (fun cdv A_ outer s_ H_0 vs Q E hr h => ?_)
  · obtain ⟨a, y, z, rfl, _⟩ := h
    rfl
  · obtain ⟨a, y, z, rfl, ha, hQ⟩ := h
    refine ⟨_, pss_cons (ps_ostG rfl (pv 0) (pv 1)) (pss_one (ps_ostG rfl (pv 0) (pv 2))), ?_⟩
    exact ⟨_, rfl, _, rfl, a, A.c_TooMany, rfl, T.ox_TooMany, T.no_TooMany_what, .inl ⟨ha, fun dx n1 n2 => ⟨_, rfl, _, rfl, a, A.c_TooMany, rfl, T.ox_TooMany, T.no_TooMany_limit, .inr ⟨dx, _, upd_same, by rw [upd_ne n2, upd_same], (by show 1 ≤ 900; decide), hQ dx n1 n2⟩⟩⟩⟩
/-! ### draws: any number below the size -/
def M_draw (x_size : Int) (KM : Int → Prop) : Prop := (0 < x_size ∧ Nat.log2 x_size.natAbs < 9000) ∧ ∀ d : Int, 0 ≤ d → d < x_size → KM d
def sp_draw (A : Ad) : Sp := fun vs H Q _ => ∃ (ms : List Addr) (ap : Addr) (x_size : Int) (KM : Int → Prop), vs = [.ref ap, V.int x_size] ∧ Wd ms [(ap, none)] [] H H ∧ M_draw x_size KM ∧ ∀ (r : Int) (u : V) (H1 : Hp), KM r → Ret [(ap, none)] H H1 → rep ms H1 (D.v (V.int r)) u → Q u H1
theorem ret_pot1 {H : Hp} {ap : Addr} {o : HO} {i j : Int} (ha : H ap = some o) (hj : j.natAbs < 4294967296) : Ret [(ap, none)] H (upd H ap (.lst [.int i, .int j])) := by
  refine ⟨fun a u n h => ?_, fun a h => ?_, fun a h => ?_⟩
  · rw [upd_ne (fun z => n (by rw [z]; exact List.mem_singleton.mpr rfl))]
    exact h
  · rw [List.mem_singleton.mp h]
    exact (⟨i, j, upd_same, hj⟩ : PotH _ _)
  · by_cases e : a = ap
    · rw [e, upd_same]
      exact fun z => nomatch z
    · rw [upd_ne e]
      exact h
theorem ret_pot2 {H : Hp} {ap p : Addr} {o u : HO} {i j : Int} (ha : H ap = some o) (np : H p = none) (hj : j.natAbs < 4294967296) : Ret [(ap, none)] H (upd (upd H p u) ap (.lst [.int i, .int j])) := by
  have e := Rx.Ext.new (o := u) np
  have h2 := ret_pot1 (i := i) (j := j) (e.keep ha) hj
  exact ⟨fun a w n h => h2.kp a w n (e.keep h), h2.pot, fun a h => h2.grow a (e.grow a h)⟩
theorem ok_draw {P : Program} {w : World} {K : PySem.W.Frag} {mg : Str → Option Value} {base : Heap} {A : Ad} (T : Txt w K mg base A) : FnOk P w K mg base CX0 1 A.a_draw A.d_draw ["_law_pot_here", "_law_size"] (sp_draw A) := by
  refine T.F_draw.ok sc_draw (fun vs H Q E h => ?_) (fun cdv A_ outer s_ H_0 vs Q E hr h => ?_)
  · obtain ⟨ms, ap, x_size, KM, rfl, _⟩ := h
    rfl
  · obtain ⟨ms, ap, n, KM, rfl, hW, ⟨⟨n0, n1⟩, hM⟩, hQ⟩ := h
    obtain ⟨i, j, hp, hj⟩ : PotH _ ap := hW.pot (ap, none) (List.mem_singleton.mpr rfl)
    refine ⟨_, pss_cons (ps_if (pt_cmpR op_gt (pe_ix ix_list (pv 0) pe_int (fun _ _ => rfl)) pe_int (nomark _))
        (pss_cons (ps_asg (pe_callB call_divmodW (by rfl) T.z_divmod (by decide +kernel) (pa_cons (pe_ix ix_list (pv 0) pe_int (fun _ _ => rfl)) (pa_cons (pv 1) pa_nil)))
            (pg_tup rfl (pgs_cons (pg_sub (pv 0) pe_int set_list) (pgs_cons (pg_name (i := 2) sc_draw.nd rfl (.inl rfl)) pgs_nil)))) (pss_one (ps_ret (pv 2)))) pss_nil)
      (pss_cons (ps_asg (pe_op op_mod (pe_callTy call_int1 (by rfl) T.z_int (by decide +kernel) (pa_cons (pe_op op_add (pe_op op_mul (pe_ix ix_list (pv 0) pe_int (fun _ _ => rfl)) pe_int) pe_int) pa_nil)) pe_int) (pg_sub (pv 0) pe_int set_list))
      (pss_one (ps_ret (pe_op op_mod (pe_callTy call_int1 (by rfl) T.z_int (by decide +kernel) (pa_cons (pe_op op_fdiv (pe_op op_mod (pe_callTy call_int1 (by rfl) T.z_int (by decide +kernel)
          (pa_cons (pe_op op_mul (pe_ix ix_list (pv 0) pe_int (fun _ _ => rfl)) (pe_ix ix_list (pv 0) pe_int (fun _ _ => rfl))) pa_nil)) pe_int) pe_int) pa_nil)) (pv 1))))), ?_⟩
    refine ⟨_, rfl, ap, _, 0, .int i, rfl, rfl, .inl (.inl hp), rfl, _, _, rfl, rfl, _, rfl, ?_⟩
    refine ite2 (fun c => ?_) (fun c => ?_)
    · refine ⟨_, rfl, ap, _, 0, .int i, rfl, rfl, .inl (.inl hp), rfl, _, rfl, _, _, rfl, ⟨n0, PyProof.noPylong_of_log2 n1⟩, fun p np => ?_⟩
      have npa : ap ≠ p := ne_of_none hp np
      refine ⟨p, _, rfl, .inl (.inl upd_same), rfl, _, _, rfl, _, rfl, ap, _, 0, 0, rfl, rfl, (by rw [upd_ne npa]; exact hp), rfl, _, _, rfl, rfl, _, rfl, ?_⟩
      exact hQ (i % n) _ _ (hM _ (Int.emod_nonneg _ (by omega)) (Int.emod_lt_of_pos _ n0)) (ret_pot2 hp np hj) rep_v
    · refine ⟨_, rfl, ap, _, 1, .int j, rfl, rfl, .inl (.inl hp), rfl, _, _, rfl, rfl, .inr ⟨by decide, by decide⟩, _, _, rfl, rfl, .inl ⟨_, rfl, _, _, rfl, rfl, (by show (0 : Int) < 2147483587; decide), ?_⟩⟩
      refine ⟨_, rfl, ap, _, 1, 1, rfl, rfl, hp, rfl, ?_⟩
      refine ⟨_, rfl, ap, _, 1, _, rfl, rfl, .inl (.inl upd_same), rfl, _, rfl, ap, _, 1, _, rfl, rfl, .inl (.inl upd_same), rfl, _, _, rfl, rfl, .inl ⟨?_, ?_⟩, .inl ⟨_, rfl, _, _, rfl, rfl, (by show (0 : Int) < 2147483549; decide), _, _, rfl, rfl, ⟨by decide, by decide⟩, .inl ⟨_, rfl, _, rfl, _, _, rfl, rfl, n0, ?_⟩⟩⟩
      · omega
      · omega
      · refine hQ _ _ _ (hM _ (Int.emod_nonneg _ (by omega)) (Int.emod_lt_of_pos _ n0)) (ret_pot1 (i := i) hp ?_) rep_v
        omega

def M_pick (x_some : (List Int)) (KM : Int → Prop) : Prop :=
  (M_draw (x_some.length : Int) fun r1 => (0 ≤ r1 ∧ ∃ g7 : Int.toNat r1 < x_some.length, ∀ x9, x9 = x_some[Int.toNat r1]'g7 → (KM x9)))
def sp_pick (A : Ad) : Sp := fun vs H Q _ => ∃ (ms : List Addr) (ap : Addr) (v_some : V) (x_some : (List Int)) (KM : Int → Prop), vs = [.ref ap, v_some] ∧ Wd ms [(ap, none)] [] H H ∧ rep ms H (D.lst (x_some.map (fun y_ : Int => (D.v (V.int y_))))) v_some ∧ M_pick x_some KM ∧ ∀ (r : Int) (u : V) (H1 : Hp), KM r → Ret [(ap, none)] H H1 → rep ms H1 (D.v (V.int r)) u → Q u H1
set_option maxHeartbeats 16000000 in
theorem ok_pick {P : Program} {w : World} {K : PySem.W.Frag} {mg : Str → Option Value} {base : Heap} {A : Ad} (T : Txt w K mg base A) : FnOk P w K mg base CX0 2 A.a_pick A.d_pick ["_law_pot_here", "_law_some"] (sp_pick A) := by
  refine T.F_pick.ok sc_pick (fun vs H Q E h => ?_) (fun cdv A_ outer s_ H_0 vs Q E hr h => ?_)
  · obtain ⟨ms, ap, v_some, x_some, KM, rfl, _⟩ := h
    rfl
  · obtain ⟨ms, ap, v_some, x_some, KM, rfl, hW, h_some, hM, hQ⟩ := h
    unfold M_pick at hM
    refine ⟨_, (pss_one (ps_ret (pe_ix (ix_listK (K := K) rfl) (pv 1) (pe_call (ok_draw T) (hr.mono (by decide)) (by rfl) T.g_draw T.F_draw.kp T.b_draw .nil pass0 (pa_cons (pv 0) (pa_cons (pe_callB (call_lenK (K := K) rfl) (by rfl) T.z_len PySem.boot_len (pa_cons (pv 1) pa_nil)) pa_nil))) (fun _ _ => rfl)))), ?_⟩
    refine ⟨_, rfl, ?_⟩
    refine ⟨_, rfl, ?_⟩
    refine ⟨_, rfl, ?_⟩
    apply rep_lenL (e := (fun y_ : Int => (D.v (V.int y_)))) (xs := x_some) h_some
    refine ⟨ms, ap, (x_some.length : Int), _, rfl, hW.enterP, hM, fun r1 u4 H5 hM e3 h2 => ?_⟩
    replace h_some := rep_ret hW e3 h_some
    replace hW := hW.retP e3
    obtain rfl := of_v h2
    obtain ⟨g6, g7, hM⟩ := hM
    apply rep_ixL (e := (fun y_ : Int => (D.v (V.int y_)))) (xs := x_some) h_some g6 g7
    intro u10 h8
    obtain ⟨x9, x9e⟩ : ∃ x_, x_ = x_some[Int.toNat r1]'g7 := ⟨_, rfl⟩
    rw [← x9e] at h8
    replace hM := hM x9 x9e
    obtain rfl := of_v h8
    exact hQ x9 _ _ hM hW.out rep_v
def M_pick_plD (x_some : (List D)) (KM : D → Prop) : Prop :=
  (M_draw (x_some.length : Int) fun r1 => (0 ≤ r1 ∧ ∃ g7 : Int.toNat r1 < x_some.length, ∀ x9, x9 = x_some[Int.toNat r1]'g7 → (KM x9)))
def sp_pick_plD (A : Ad) : Sp := fun vs H Q _ => ∃ (ms : List Addr) (ap : Addr) (v_some : V) (x_some : (List D)) (KM : D → Prop), vs = [.ref ap, v_some] ∧ Wd ms [(ap, none)] [] H H ∧ rep ms H (D.lst (x_some.map (fun y_ : D => y_))) v_some ∧ M_pick_plD x_some KM ∧ ∀ (r : D) (u : V) (H1 : Hp), KM r → Ret [(ap, none)] H H1 → rep ms H1 r u → Q u H1
set_option maxHeartbeats 16000000 in
theorem ok_pick_plD {P : Program} {w : World} {K : PySem.W.Frag} {mg : Str → Option Value} {base : Heap} {A : Ad} (T : Txt w K mg base A) : FnOk P w K mg base CX0 2 A.a_pick A.d_pick ["_law_pot_here", "_law_some"] (sp_pick_plD A) := by
  refine T.F_pick.ok sc_pick (fun vs H Q E h => ?_) (fun cdv A_ outer s_ H_0 vs Q E hr h => ?_)
  · obtain ⟨ms, ap, v_some, x_some, KM, rfl, _⟩ := h
    rfl
  · obtain ⟨ms, ap, v_some, x_some, KM, rfl, hW, h_some, hM, hQ⟩ := h
    unfold M_pick_plD at hM
    refine ⟨_, (pss_one (ps_ret (pe_ix (ix_listK (K := K) rfl) (pv 1) (pe_call (ok_draw T) (hr.mono (by decide)) (by rfl) T.g_draw T.F_draw.kp T.b_draw .nil pass0 (pa_cons (pv 0) (pa_cons (pe_callB (call_lenK (K := K) rfl) (by rfl) T.z_len PySem.boot_len (pa_cons (pv 1) pa_nil)) pa_nil))) (fun _ _ => rfl)))), ?_⟩
    refine ⟨_, rfl, ?_⟩
    refine ⟨_, rfl, ?_⟩
    refine ⟨_, rfl, ?_⟩
    apply rep_lenL (e := (fun y_ : D => y_)) (xs := x_some) h_some
    refine ⟨ms, ap, (x_some.length : Int), _, rfl, hW.enterP, hM, fun r1 u4 H5 hM e3 h2 => ?_⟩
    replace h_some := rep_ret hW e3 h_some
    replace hW := hW.retP e3
    obtain rfl := of_v h2
    obtain ⟨g6, g7, hM⟩ := hM
    apply rep_ixL (e := (fun y_ : D => y_)) (xs := x_some) h_some g6 g7
    intro u10 h8
    obtain ⟨x9, x9e⟩ : ∃ x_, x_ = x_some[Int.toNat r1]'g7 := ⟨_, rfl⟩
    rw [← x9e] at h8
    replace hM := hM x9 x9e
    exact hQ x9 _ _ hM hW.out h8
def M_no_integer (KM : D → Prop) : Prop :=
  (M_pick_plD ([(D.v V.non), (D.v (V.bl true)), (D.v (V.bl false)), (D.v (V.str ("" : Str))), (D.v (V.str ("1" : Str))), (D.v (V.str ("h" : Str))), (D.tup []), (D.tup [(D.v (V.int (1 : Int)))]), (D.lst (([] : List Int).map (fun y_ : Int => (D.v (V.int y_))))), (D.lst (([(2 : Int)] : List Int).map (fun y_ : Int => (D.v (V.int y_))))), (D.dct [] []), (D.dct [(Sum.inl (1 : Int) : Key)] [(D.v (V.int (2 : Int)))])] : List D) fun r45 => (KM r45))
def sp_no_integer (A : Ad) : Sp := fun vs H Q _ => ∃ (ms : List Addr) (ap : Addr) (KM : D → Prop), vs = [.ref ap] ∧ Wd ms [(ap, none)] [] H H ∧ M_no_integer  KM ∧ ∀ (r : D) (u : V) (H1 : Hp), KM r → Ret [(ap, none)] H H1 → rep ms H1 r u → Q u H1
set_option maxHeartbeats 16000000 in
theorem ok_no_integer {P : Program} {w : World} {K : PySem.W.Frag} {mg : Str → Option Value} {base : Heap} {A : Ad} (T : Txt w K mg base A) : FnOk P w K mg base CX0 3 A.a_no_integer A.d_no_integer ["_law_pot_here"] (sp_no_integer A) := by
  refine T.F_no_integer.ok sc_no_integer (fun vs H Q E h => ?_) (fun cdv A_ outer s_ H_0 vs Q E hr h => ?_)
  · obtain ⟨ms, ap, KM, rfl, _⟩ := h
    rfl
  · obtain ⟨ms, ap, KM, rfl, hW, hM, hQ⟩ := h
    unfold M_no_integer at hM
    refine ⟨_, (pss_one (ps_ret (pe_call (ok_pick_plD T) (hr.mono (by decide)) (by rfl) T.g_pick T.F_pick.kp T.b_pick .nil pass0 (pa_cons (pv 0) (pa_cons (pe_lst (pa_cons pe_non (pa_cons pe_bl (pa_cons pe_bl (pa_cons pe_str (pa_cons pe_str (pa_cons pe_str (pa_cons (pe_tup pa_nil) (pa_cons (pe_tup (pa_cons pe_int pa_nil)) (pa_cons (pe_lst pa_nil) (pa_cons (pe_lst (pa_cons pe_int pa_nil)) (pa_cons pe_dnewK (pa_cons (pe_disp (pps_cons pe_int pe_int pps_nil) rfl rfl (by simp) (by decide)) pa_nil))))))))))))) pa_nil))))), ?_⟩
    refine ⟨_, rfl, ?_⟩
    refine ⟨(by show 0 ≤ sizeLine; decide), ?_⟩
    intro p1 n5
    have e2 := Rx.Ext.new (H := H_0) (o := (HO.tup [])) n5
    have hp3 : upd H_0 p1 (HO.tup []) p1 = some (HO.tup []) := upd_same
    generalize upd H_0 p1 (HO.tup []) = H6 at e2 hp3 ⊢
    have h4 : rep ms H6 (D.tup []) (.ref p1) := rep_tup_mk hW n5 e2 hp3 repL_nil
    replace hW := hW.ret0 e2
    refine ⟨(by show 1 ≤ sizeLine; decide), ?_⟩
    intro p7 n11
    have e8 := Rx.Ext.new (H := H6) (o := (HO.tup [V.int (1 : Int)])) n11
    have hp9 : upd H6 p7 (HO.tup [V.int (1 : Int)]) p7 = some (HO.tup [V.int (1 : Int)]) := upd_same
    generalize upd H6 p7 (HO.tup [V.int (1 : Int)]) = H12 at e8 hp9 ⊢
    have h10 : rep ms H12 (D.tup [(D.v (V.int (1 : Int)))]) (.ref p7) := rep_tup_mk hW n11 e8 hp9 (repL_cons rep_v repL_nil)
    replace h4 := rep_ext e8 h4
    replace hW := hW.ret0 e8
    refine ⟨(by show 0 ≤ sizeLine; decide), ?_⟩
    intro p13 n17
    have e14 := Rx.Ext.new (H := H12) (o := (HO.lst [])) n17
    have hp15 : upd H12 p13 (HO.lst []) p13 = some (HO.lst []) := upd_same
    generalize upd H12 p13 (HO.lst []) = H18 at e14 hp15 ⊢
    have h16 : rep ms H18 (D.lst (([] : List Int).map (fun y_ : Int => (D.v (V.int y_))))) (.ref p13) := rep_lst_mk hW n17 e14 hp15 repL_nil
    replace h4 := rep_ext e14 h4
    replace h10 := rep_ext e14 h10
    replace hW := hW.ret0 e14
    refine ⟨(by show 1 ≤ sizeLine; decide), ?_⟩
    intro p19 n23
    have e20 := Rx.Ext.new (H := H18) (o := (HO.lst [V.int (2 : Int)])) n23
    have hp21 : upd H18 p19 (HO.lst [V.int (2 : Int)]) p19 = some (HO.lst [V.int (2 : Int)]) := upd_same
    generalize upd H18 p19 (HO.lst [V.int (2 : Int)]) = H24 at e20 hp21 ⊢
    have h22 : rep ms H24 (D.lst (([(2 : Int)] : List Int).map (fun y_ : Int => (D.v (V.int y_))))) (.ref p19) := rep_lst_mk hW n23 e20 hp21 (repL_cons rep_v repL_nil)
    replace h4 := rep_ext e20 h4
    replace h10 := rep_ext e20 h10
    replace h16 := rep_ext e20 h16
    replace hW := hW.ret0 e20
    intro p25 n29
    have e26 := Rx.Ext.new (H := H24) (o := (HO.dK [])) n29
    have hp27 : upd H24 p25 (HO.dK []) p25 = some (HO.dK []) := upd_same
    generalize upd H24 p25 (HO.dK []) = H30 at e26 hp27 ⊢
    have h28 : rep ms H30 (D.dct [] []) (.ref p25) := rep_dct0 hW n29 hp27
    replace h4 := rep_ext e26 h4
    replace h10 := rep_ext e26 h10
    replace h16 := rep_ext e26 h16
    replace h22 := rep_ext e26 h22
    replace hW := hW.ret0 e26
    intro L31 nl32
    have nm33 := nm_new hW nl32
    have mu34 := mo_nilD hW nl32
    replace h4 := rep_cell (o := .dK []) nl32 h4
    replace h10 := rep_cell (o := .dK []) nl32 h10
    replace h16 := rep_cell (o := .dK []) nl32 h16
    replace h22 := rep_cell (o := .dK []) nl32 h22
    replace h28 := rep_cell (o := .dK []) nl32 h28
    replace hW := wd_cell (o := .dK []) hW nl32
    generalize upd H30 L31 (.dK []) = H35 at *
    replace mu34 : MutO (L31 :: ms) [(ap, none)] H_0 H35 L31 (D.dct [] []) := mu34
    refine ⟨mo_dK0 mu34, List.zip [(Sum.inl (1 : Int) : Key)] [V.int (2 : Int)], rfl, (by show 1 ≤ 15; decide), ?_⟩
    rw [merge_zip (ks := [(Sum.inl (1 : Int) : Key)]) (vs := [V.int (2 : Int)]) rfl (by decide +kernel)]
    have mk36 := mo_setD (ks := [(Sum.inl (1 : Int) : Key)]) (vs := [V.int (2 : Int)]) mu34 rfl (repL_cons rep_v repL_nil)
    replace h4 := rep_put (o := .dK (List.zip [(Sum.inl (1 : Int) : Key)] [V.int (2 : Int)])) mu34.im h4
    replace h10 := rep_put (o := .dK (List.zip [(Sum.inl (1 : Int) : Key)] [V.int (2 : Int)])) mu34.im h10
    replace h16 := rep_put (o := .dK (List.zip [(Sum.inl (1 : Int) : Key)] [V.int (2 : Int)])) mu34.im h16
    replace h22 := rep_put (o := .dK (List.zip [(Sum.inl (1 : Int) : Key)] [V.int (2 : Int)])) mu34.im h22
    replace h28 := rep_put (o := .dK (List.zip [(Sum.inl (1 : Int) : Key)] [V.int (2 : Int)])) mu34.im h28
    replace hW := wd_put (o := .dK (List.zip [(Sum.inl (1 : Int) : Key)] [V.int (2 : Int)])) hW mu34
    replace mu34 := mk36
    generalize upd H35 L31 (.dK (List.zip [(Sum.inl (1 : Int) : Key)] [V.int (2 : Int)])) = H37 at *
    replace mu34 : MutO (L31 :: ms) [(ap, none)] H_0 H37 L31 (D.dct [(Sum.inl (1 : Int) : Key)] [(D.v (V.int (2 : Int)))]) := mu34
    clear mk36
    have h38 := mo_rep_dr dr_here nm33 mu34
    replace hW := wd_dr dr_here mu34.hp hW
    replace h4 := rep_dr dr_here h4
    replace h10 := rep_dr dr_here h10
    replace h16 := rep_dr dr_here h16
    replace h22 := rep_dr dr_here h22
    replace h28 := rep_dr dr_here h28
    clear mu34
    refine ⟨(by show 12 ≤ sizeLine; decide), ?_⟩
    intro p39 n43
    have e40 := Rx.Ext.new (H := H37) (o := (HO.lst [V.non, V.bl true, V.bl false, V.str ("" : Str), V.str ("1" : Str), V.str ("h" : Str), (V.ref p1), (V.ref p7), (V.ref p13), (V.ref p19), (V.ref p25), (V.ref L31)])) n43
    have hp41 : upd H37 p39 (HO.lst [V.non, V.bl true, V.bl false, V.str ("" : Str), V.str ("1" : Str), V.str ("h" : Str), (V.ref p1), (V.ref p7), (V.ref p13), (V.ref p19), (V.ref p25), (V.ref L31)]) p39 = some (HO.lst [V.non, V.bl true, V.bl false, V.str ("" : Str), V.str ("1" : Str), V.str ("h" : Str), (V.ref p1), (V.ref p7), (V.ref p13), (V.ref p19), (V.ref p25), (V.ref L31)]) := upd_same
    generalize upd H37 p39 (HO.lst [V.non, V.bl true, V.bl false, V.str ("" : Str), V.str ("1" : Str), V.str ("h" : Str), (V.ref p1), (V.ref p7), (V.ref p13), (V.ref p19), (V.ref p25), (V.ref L31)]) = H44 at e40 hp41 ⊢
    have h42 : rep ms H44 (D.lst (([(D.v V.non), (D.v (V.bl true)), (D.v (V.bl false)), (D.v (V.str ("" : Str))), (D.v (V.str ("1" : Str))), (D.v (V.str ("h" : Str))), (D.tup []), (D.tup [(D.v (V.int (1 : Int)))]), (D.lst (([] : List Int).map (fun y_ : Int => (D.v (V.int y_))))), (D.lst (([(2 : Int)] : List Int).map (fun y_ : Int => (D.v (V.int y_))))), (D.dct [] []), (D.dct [(Sum.inl (1 : Int) : Key)] [(D.v (V.int (2 : Int)))])] : List D).map (fun y_ : D => y_))) (.ref p39) := rep_lst_mk hW n43 e40 hp41 (repL_cons rep_v (repL_cons rep_v (repL_cons rep_v (repL_cons rep_v (repL_cons rep_v (repL_cons rep_v (repL_cons h4 (repL_cons h10 (repL_cons h16 (repL_cons h22 (repL_cons h28 (repL_cons h38 repL_nil))))))))))))
    replace h4 := rep_ext e40 h4
    replace h10 := rep_ext e40 h10
    replace h16 := rep_ext e40 h16
    replace h22 := rep_ext e40 h22
    replace h28 := rep_ext e40 h28
    replace h38 := rep_ext e40 h38
    replace hW := hW.ret0 e40
    refine ⟨ms, ap, _, ([(D.v V.non), (D.v (V.bl true)), (D.v (V.bl false)), (D.v (V.str ("" : Str))), (D.v (V.str ("1" : Str))), (D.v (V.str ("h" : Str))), (D.tup []), (D.tup [(D.v (V.int (1 : Int)))]), (D.lst (([] : List Int).map (fun y_ : Int => (D.v (V.int y_))))), (D.lst (([(2 : Int)] : List Int).map (fun y_ : Int => (D.v (V.int y_))))), (D.dct [] []), (D.dct [(Sum.inl (1 : Int) : Key)] [(D.v (V.int (2 : Int)))])] : List D), _, rfl, hW.enterP, h42, hM, fun r45 u48 H49 hM e47 h46 => ?_⟩
    replace h4 := rep_ret hW e47 h4
    replace h10 := rep_ret hW e47 h10
    replace h16 := rep_ret hW e47 h16
    replace h22 := rep_ret hW e47 h22
    replace h28 := rep_ret hW e47 h28
    replace h38 := rep_ret hW e47 h38
    replace h42 := rep_ret hW e47 h42
    replace hW := hW.retP e47
    exact hQ r45 _ _ hM hW.out h46
def M_no_count (KM : D → Prop) : Prop :=
  (M_no_integer  fun r1 => (M_no_integer  fun r6 => (M_pick_plD ([(D.v (V.int (-(1 : Int)))), (D.v (V.int (-((10 : Int) ^ Int.toNat (40 : Int))))), r1, r6] : List D) fun r17 => (KM r17))))
def sp_no_count (A : Ad) : Sp := fun vs H Q _ => ∃ (ms : List Addr) (ap : Addr) (KM : D → Prop), vs = [.ref ap] ∧ Wd ms [(ap, none)] [] H H ∧ M_no_count  KM ∧ ∀ (r : D) (u : V) (H1 : Hp), KM r → Ret [(ap, none)] H H1 → rep ms H1 r u → Q u H1
set_option maxHeartbeats 16000000 in
theorem ok_no_count {P : Program} {w : World} {K : PySem.W.Frag} {mg : Str → Option Value} {base : Heap} {A : Ad} (T : Txt w K mg base A) : FnOk P w K mg base CX0 4 A.a_no_count A.d_no_count ["_law_pot_here"] (sp_no_count A) := by
  refine T.F_no_count.ok sc_no_count (fun vs H Q E h => ?_) (fun cdv A_ outer s_ H_0 vs Q E hr h => ?_)
  · obtain ⟨ms, ap, KM, rfl, _⟩ := h
    rfl
  · obtain ⟨ms, ap, KM, rfl, hW, hM, hQ⟩ := h
    unfold M_no_count at hM
    refine ⟨_, (pss_one (ps_ret (pe_call (ok_pick_plD T) (hr.mono (by decide)) (by rfl) T.g_pick T.F_pick.kp T.b_pick .nil pass0 (pa_cons (pv 0) (pa_cons (pe_lst (pa_cons (pe_un un_neg pe_int) (pa_cons (pe_un un_neg (pe_op op_pow pe_int pe_int)) (pa_cons (pe_call (ok_no_integer T) (hr.mono (by decide)) (by rfl) T.g_no_integer T.F_no_integer.kp T.b_no_integer .nil pass0 (pa_cons (pv 0) pa_nil)) (pa_cons (pe_call (ok_no_integer T) (hr.mono (by decide)) (by rfl) T.g_no_integer T.F_no_integer.kp T.b_no_integer .nil pass0 (pa_cons (pv 0) pa_nil)) pa_nil))))) pa_nil))))), ?_⟩
    refine ⟨_, rfl, ?_⟩
    refine ⟨_, rfl, ?_⟩
    refine ⟨_, _, rfl, rfl, ⟨by decide, by decide, by decide⟩, ?_⟩
    refine ⟨_, rfl, ?_⟩
    refine ⟨_, rfl, ?_⟩
    refine ⟨ms, ap, _, rfl, hW.enterP, hM, fun r1 u4 H5 hM e3 h2 => ?_⟩
    replace hW := hW.retP e3
    refine ⟨_, rfl, ?_⟩
    refine ⟨ms, ap, _, rfl, hW.enterP, hM, fun r6 u9 H10 hM e8 h7 => ?_⟩
    replace h2 := rep_ret hW e8 h2
    replace hW := hW.retP e8
    refine ⟨(by show 4 ≤ sizeLine; decide), ?_⟩
    intro p11 n15
    have e12 := Rx.Ext.new (H := H10) (o := (HO.lst [V.int (-(1 : Int)), V.int (-((10 : Int) ^ Int.toNat (40 : Int))), u4, u9])) n15
    have hp13 : upd H10 p11 (HO.lst [V.int (-(1 : Int)), V.int (-((10 : Int) ^ Int.toNat (40 : Int))), u4, u9]) p11 = some (HO.lst [V.int (-(1 : Int)), V.int (-((10 : Int) ^ Int.toNat (40 : Int))), u4, u9]) := upd_same
    generalize upd H10 p11 (HO.lst [V.int (-(1 : Int)), V.int (-((10 : Int) ^ Int.toNat (40 : Int))), u4, u9]) = H16 at e12 hp13 ⊢
    have h14 : rep ms H16 (D.lst (([(D.v (V.int (-(1 : Int)))), (D.v (V.int (-((10 : Int) ^ Int.toNat (40 : Int))))), r1, r6] : List D).map (fun y_ : D => y_))) (.ref p11) := rep_lst_mk hW n15 e12 hp13 (repL_cons rep_v (repL_cons rep_v (repL_cons h2 (repL_cons h7 repL_nil))))
    replace h2 := rep_ext e12 h2
    replace h7 := rep_ext e12 h7
    replace hW := hW.ret0 e12
    refine ⟨ms, ap, _, ([(D.v (V.int (-(1 : Int)))), (D.v (V.int (-((10 : Int) ^ Int.toNat (40 : Int))))), r1, r6] : List D), _, rfl, hW.enterP, h14, hM, fun r17 u20 H21 hM e19 h18 => ?_⟩
    replace h2 := rep_ret hW e19 h2
    replace h7 := rep_ret hW e19 h7
    replace h14 := rep_ret hW e19 h14
    replace hW := hW.retP e19
    exact hQ r17 _ _ hM hW.out h18
def M_first (KM : (D × (Option (List D))) → Prop) : Prop :=
  (M_draw (4 : Int) fun r1 => (if (decide ((0 : Int) < r1)) = true then (M_pick ([(0 : Int), (1 : Int), (7 : Int), ((10 : Int) ^ Int.toNat (50 : Int))] : List Int) fun r12 => (KM ((D.v (V.int r12)), (none : (Option (List D)))))) else (M_no_count  fun r23 => (KM (r23, (some ([(D.v (V.str ("first" : Str))), r23] : List D)))))))
def sp_first (A : Ad) : Sp := fun vs H Q _ => ∃ (ms : List Addr) (ap : Addr) (KM : (D × (Option (List D))) → Prop), vs = [.ref ap] ∧ Wd ms [(ap, none)] [] H H ∧ M_first  KM ∧ ∀ (r : (D × (Option (List D)))) (u : V) (H1 : Hp), KM r → Ret [(ap, none)] H H1 → rep ms H1 (D.tup [r.1, (encO (fun y_ : (List D) => (D.lst (y_.map (fun y_ : D => y_)))) r.2)]) u → Q u H1
set_option maxHeartbeats 16000000 in
theorem ok_first {P : Program} {w : World} {K : PySem.W.Frag} {mg : Str → Option Value} {base : Heap} {A : Ad} (T : Txt w K mg base A) : FnOk P w K mg base CX0 5 A.a_first A.d_first ["_law_pot_here"] (sp_first A) := by
  refine T.F_first.ok sc_first (fun vs H Q E h => ?_) (fun cdv A_ outer s_ H_0 vs Q E hr h => ?_)
  · obtain ⟨ms, ap, KM, rfl, _⟩ := h
    rfl
  · obtain ⟨ms, ap, KM, rfl, hW, hM, hQ⟩ := h
    unfold M_first at hM
    refine ⟨_, (pss_cons (ps_if (pt_cmpR op_gt (pe_call (ok_draw T) (hr.mono (by decide)) (by rfl) T.g_draw T.F_draw.kp T.b_draw .nil pass0 (pa_cons (pv 0) (pa_cons pe_int pa_nil))) pe_int (nomark _)) (pss_one (ps_ret (pe_tup (pa_cons (pe_call (ok_pick T) (hr.mono (by decide)) (by rfl) T.g_pick T.F_pick.kp T.b_pick .nil pass0 (pa_cons (pv 0) (pa_cons (pe_lst (pa_cons pe_int (pa_cons pe_int (pa_cons pe_int (pa_cons (pe_op op_pow pe_int pe_int) pa_nil))))) pa_nil))) (pa_cons pe_non pa_nil))))) pss_nil) (pss_cons (ps_set (i := 1) sc_first.nd rfl (by first | exact Or.inl rfl | exact Or.inr rfl) (pe_call (ok_no_count T) (hr.mono (by decide)) (by rfl) T.g_no_count T.F_no_count.kp T.b_no_count .nil pass0 (pa_cons (pv 0) pa_nil))) (pss_one (ps_ret (pe_tup (pa_cons (pv 1) (pa_cons (pe_lst (pa_cons pe_str (pa_cons (pv 1) pa_nil))) pa_nil))))))), ?_⟩
    refine ⟨_, rfl, ?_⟩
    refine ⟨ms, ap, (4 : Int), _, rfl, hW.enterP, hM, fun r1 u4 H5 hM e3 h2 => ?_⟩
    replace hW := hW.retP e3
    obtain rfl := of_v h2
    refine ⟨_, _, rfl, rfl, ?_⟩
    refine ⟨_, rfl, ?_⟩
    refine ite3 hM (fun hM => ?_) (fun hM => ?_)
    · skip
      refine ⟨_, rfl, ?_⟩
      refine ⟨_, _, rfl, rfl, ⟨by decide, by decide, by decide⟩, ?_⟩
      refine ⟨(by show 4 ≤ sizeLine; decide), ?_⟩
      intro p6 n10
      have e7 := Rx.Ext.new (H := H5) (o := (HO.lst [V.int (0 : Int), V.int (1 : Int), V.int (7 : Int), V.int ((10 : Int) ^ Int.toNat (50 : Int))])) n10
      have hp8 : upd H5 p6 (HO.lst [V.int (0 : Int), V.int (1 : Int), V.int (7 : Int), V.int ((10 : Int) ^ Int.toNat (50 : Int))]) p6 = some (HO.lst [V.int (0 : Int), V.int (1 : Int), V.int (7 : Int), V.int ((10 : Int) ^ Int.toNat (50 : Int))]) := upd_same
      generalize upd H5 p6 (HO.lst [V.int (0 : Int), V.int (1 : Int), V.int (7 : Int), V.int ((10 : Int) ^ Int.toNat (50 : Int))]) = H11 at e7 hp8 ⊢
      have h9 : rep ms H11 (D.lst (([(0 : Int), (1 : Int), (7 : Int), ((10 : Int) ^ Int.toNat (50 : Int))] : List Int).map (fun y_ : Int => (D.v (V.int y_))))) (.ref p6) := rep_lst_mk hW n10 e7 hp8 (repL_cons rep_v (repL_cons rep_v (repL_cons rep_v (repL_cons rep_v repL_nil))))
      replace hW := hW.ret0 e7
      refine ⟨ms, ap, _, ([(0 : Int), (1 : Int), (7 : Int), ((10 : Int) ^ Int.toNat (50 : Int))] : List Int), _, rfl, hW.enterP, h9, hM, fun r12 u15 H16 hM e14 h13 => ?_⟩
      replace h9 := rep_ret hW e14 h9
      replace hW := hW.retP e14
      obtain rfl := of_v h13
      refine ⟨(by show 2 ≤ sizeLine; decide), ?_⟩
      intro p17 n21
      have e18 := Rx.Ext.new (H := H16) (o := (HO.tup [V.int r12, V.non])) n21
      have hp19 : upd H16 p17 (HO.tup [V.int r12, V.non]) p17 = some (HO.tup [V.int r12, V.non]) := upd_same
      generalize upd H16 p17 (HO.tup [V.int r12, V.non]) = H22 at e18 hp19 ⊢
      have h20 : rep ms H22 (D.tup [(D.v (V.int r12)), (D.v V.non)]) (.ref p17) := rep_tup_mk hW n21 e18 hp19 (repL_cons rep_v (repL_cons rep_v repL_nil))
      replace h9 := rep_ext e18 h9
      replace hW := hW.ret0 e18
      exact hQ ((D.v (V.int r12)), (none : (Option (List D)))) _ _ hM hW.out h20
    · skip
      refine ⟨_, rfl, ?_⟩
      refine ⟨ms, ap, _, rfl, hW.enterP, hM, fun r23 u26 H27 hM e25 h24 => ?_⟩
      replace hW := hW.retP e25
      refine ⟨_, rfl, ?_⟩
      refine ⟨_, rfl, ?_⟩
      refine ⟨(by show 2 ≤ sizeLine; decide), ?_⟩
      intro p28 n32
      have e29 := Rx.Ext.new (H := H27) (o := (HO.lst [V.str ("first" : Str), u26])) n32
      have hp30 : upd H27 p28 (HO.lst [V.str ("first" : Str), u26]) p28 = some (HO.lst [V.str ("first" : Str), u26]) := upd_same
      generalize upd H27 p28 (HO.lst [V.str ("first" : Str), u26]) = H33 at e29 hp30 ⊢
      have h31 : rep ms H33 (D.lst (([(D.v (V.str ("first" : Str))), r23] : List D).map (fun y_ : D => y_))) (.ref p28) := rep_lst_mk hW n32 e29 hp30 (repL_cons rep_v (repL_cons h24 repL_nil))
      replace h24 := rep_ext e29 h24
      replace hW := hW.ret0 e29
      refine ⟨(by show 2 ≤ sizeLine; decide), ?_⟩
      intro p34 n38
      have e35 := Rx.Ext.new (H := H33) (o := (HO.tup [u26, (V.ref p28)])) n38
      have hp36 : upd H33 p34 (HO.tup [u26, (V.ref p28)]) p34 = some (HO.tup [u26, (V.ref p28)]) := upd_same
      generalize upd H33 p34 (HO.tup [u26, (V.ref p28)]) = H39 at e35 hp36 ⊢
      have h37 : rep ms H39 (D.tup [r23, (D.lst (([(D.v (V.str ("first" : Str))), r23] : List D).map (fun y_ : D => y_)))]) (.ref p34) := rep_tup_mk hW n38 e35 hp36 (repL_cons h24 (repL_cons h31 repL_nil))
      replace h24 := rep_ext e35 h24
      replace h31 := rep_ext e35 h31
      replace hW := hW.ret0 e35
      exact hQ (r23, (some ([(D.v (V.str ("first" : Str))), r23] : List D))) _ _ hM hW.out h37
def M_spoilt (x_right_here : (List Int)) (x_wrong : D) (KM : ((Bool × List D) × Int) → Prop) : Prop :=
  (M_draw ((x_right_here.length : Int) + (1 : Int)) fun r14 => (((x_right_here.map (fun y_ : Int => (D.v (V.int y_)))).length < 16777216 ∧ 0 ≤ r14 ∧ r14 < 2 ^ 63) ∧ (M_draw (2 : Int) fun r24 => (if (decide (V.int r24 = V.int (0 : Int))) = true then (M_draw ((((x_right_here.map (fun y_ : Int => (D.v (V.int y_)))).take (Int.toNat r14) ++ [x_wrong] ++ (x_right_here.map (fun y_ : Int => (D.v (V.int y_)))).drop (Int.toNat r14)).length : Int) - r14) fun r29 => ((((x_right_here.map (fun y_ : Int => (D.v (V.int y_)))).take (Int.toNat r14) ++ [x_wrong] ++ (x_right_here.map (fun y_ : Int => (D.v (V.int y_)))).drop (Int.toNat r14)).length < 16777216 ∧ 0 ≤ ((r14 + (1 : Int)) + r29) ∧ ((r14 + (1 : Int)) + r29) < 2 ^ 63) ∧ (∃ KB40 : (Bool × List D) → Prop, (M_draw (2 : Int) fun r43 => (if (decide (V.int r43 = V.int (0 : Int))) = true then (KB40 ((false, (((x_right_here.map (fun y_ : Int => (D.v (V.int y_)))).take (Int.toNat r14) ++ [x_wrong] ++ (x_right_here.map (fun y_ : Int => (D.v (V.int y_)))).drop (Int.toNat r14)).take (Int.toNat ((r14 + (1 : Int)) + r29)) ++ [x_wrong] ++ ((x_right_here.map (fun y_ : Int => (D.v (V.int y_)))).take (Int.toNat r14) ++ [x_wrong] ++ (x_right_here.map (fun y_ : Int => (D.v (V.int y_)))).drop (Int.toNat r14)).drop (Int.toNat ((r14 + (1 : Int)) + r29)))) : (Bool × List D))) else (KB40 ((true, (((x_right_here.map (fun y_ : Int => (D.v (V.int y_)))).take (Int.toNat r14) ++ [x_wrong] ++ (x_right_here.map (fun y_ : Int => (D.v (V.int y_)))).drop (Int.toNat r14)).take (Int.toNat ((r14 + (1 : Int)) + r29)) ++ [x_wrong] ++ ((x_right_here.map (fun y_ : Int => (D.v (V.int y_)))).take (Int.toNat r14) ++ [x_wrong] ++ (x_right_here.map (fun y_ : Int => (D.v (V.int y_)))).drop (Int.toNat r14)).drop (Int.toNat ((r14 + (1 : Int)) + r29)))) : (Bool × List D))))) ∧ ∀ r56 : (Bool × List D), KB40 r56 → (KM (r56, r14))))) else (∃ KB66 : (Bool × List D) → Prop, (M_draw (2 : Int) fun r69 => (if (decide (V.int r69 = V.int (0 : Int))) = true then (KB66 ((false, ((x_right_here.map (fun y_ : Int => (D.v (V.int y_)))).take (Int.toNat r14) ++ [x_wrong] ++ (x_right_here.map (fun y_ : Int => (D.v (V.int y_)))).drop (Int.toNat r14))) : (Bool × List D))) else (KB66 ((true, ((x_right_here.map (fun y_ : Int => (D.v (V.int y_)))).take (Int.toNat r14) ++ [x_wrong] ++ (x_right_here.map (fun y_ : Int => (D.v (V.int y_)))).drop (Int.toNat r14))) : (Bool × List D))))) ∧ ∀ r82 : (Bool × List D), KB66 r82 → (KM (r82, r14)))))))
def sp_spoilt (A : Ad) : Sp := fun vs H Q _ => ∃ (ms : List Addr) (ap : Addr) (v_right_here : V) (v_wrong : V) (x_right_here : (List Int)) (x_wrong : D) (KM : ((Bool × List D) × Int) → Prop), vs = [.ref ap, v_right_here, v_wrong] ∧ Wd ms [(ap, none)] [] H H ∧ rep ms H (D.lst (x_right_here.map (fun y_ : Int => (D.v (V.int y_))))) v_right_here ∧ rep ms H x_wrong v_wrong ∧ M_spoilt x_right_here x_wrong KM ∧ ∀ (r : ((Bool × List D) × Int)) (u : V) (H1 : Hp), KM r → Ret [(ap, none)] H H1 → rep ms H1 (D.tup [(eSq (fun y_ : D => y_) r.1), (D.v (V.int r.2))]) u → Q u H1
set_option maxHeartbeats 16000000 in
theorem ok_spoilt {P : Program} {w : World} {K : PySem.W.Frag} {mg : Str → Option Value} {base : Heap} {A : Ad} (T : Txt w K mg base A) : FnOk P w K mg base CX0 2 A.a_spoilt A.d_spoilt ["_law_pot_here", "_law_right_here", "_law_wrong"] (sp_spoilt A) := by
  refine T.F_spoilt.ok sc_spoilt (fun vs H Q E h => ?_) (fun cdv A_ outer s_ H_0 vs Q E hr h => ?_)
  · obtain ⟨ms, ap, v_right_here, v_wrong, x_right_here, x_wrong, KM, rfl, _⟩ := h
    rfl
  · obtain ⟨ms, ap, v_right_here, v_wrong, x_right_here, x_wrong, KM, rfl, hW, h_right_here, h_wrong, hM, hQ⟩ := h
    unfold M_spoilt at hM
    refine ⟨_, (pss_cons (ps_par (i := 3) (j := 4) (by rfl) sc_spoilt.nd rfl rfl (by decide) rfl rfl (pa_cons (pe_callTy (call_list_ofK (K := K) rfl) (by rfl) T.z_list (by decide +kernel) (pa_cons (pv 1) pa_nil)) (pa_cons (pe_call (ok_draw T) (hr.mono (by decide)) (by rfl) T.g_draw T.F_draw.kp T.b_draw .nil pass0 (pa_cons (pv 0) (pa_cons (pe_op op_add (pe_callB (call_lenK (K := K) rfl) (by rfl) T.z_len PySem.boot_len (pa_cons (pv 1) pa_nil)) pe_int) pa_nil))) pa_nil)) (by rfl)) (pss_cons (ps_expr (pe_bmK (K := K) rfl PySem.F.plainAttrs_list PySem.F.slot_list_insert PySem.F.type_list_insert mt_insert (pv 3) (pa_cons (pv 4) (pa_cons (pv 2) pa_nil)))) (pss_cons (ps_if (pt_cmpR op_eq (pe_call (ok_draw T) (hr.mono (by decide)) (by rfl) T.g_draw T.F_draw.kp T.b_draw .nil pass0 (pa_cons (pv 0) (pa_cons pe_int pa_nil))) pe_int (nomark _)) (pss_one (ps_expr (pe_bmK (K := K) rfl PySem.F.plainAttrs_list PySem.F.slot_list_insert PySem.F.type_list_insert mt_insert (pv 3) (pa_cons (pe_op op_add (pe_op op_add (pv 4) pe_int) (pe_call (ok_draw T) (hr.mono (by decide)) (by rfl) T.g_draw T.F_draw.kp T.b_draw .nil pass0 (pa_cons (pv 0) (pa_cons (pe_op op_sub (pe_callB (call_lenK (K := K) rfl) (by rfl) T.z_len PySem.boot_len (pa_cons (pv 3) pa_nil)) (pv 4)) pa_nil)))) (pa_cons (pv 2) pa_nil))))) pss_nil) (pss_one (ps_ret (pe_tup (pa_cons (pe_up (pe_ifExp (pt_cmpR op_eq (pe_call (ok_draw T) (hr.mono (by decide)) (by rfl) T.g_draw T.F_draw.kp T.b_draw .nil pass0 (pa_cons (pv 0) (pa_cons pe_int pa_nil))) pe_int (nomark _)) (pv 3) (pe_callTy (call_tuple_ofK (K := K) rfl) (by rfl) T.z_tuple (by decide +kernel) (pa_cons (pv 3) pa_nil)))) (pa_cons (pv 4) pa_nil)))))))), ?_⟩
    refine ⟨_, rfl, ?_⟩
    apply rep_listL h_right_here
    intro ys1 hr2
    intro L9 nl10
    have nm11 := nm_new hW nl10
    have mu12 := mo_newL (ds := x_right_here.map (fun y_ : Int => (D.v (V.int y_)))) (vs := ys1) hW nl10 hr2
    replace h_right_here := rep_cell (o := .lst ys1) nl10 h_right_here
    replace h_wrong := rep_cell (o := .lst ys1) nl10 h_wrong
    replace hW := wd_cell (o := .lst ys1) hW nl10
    generalize upd H_0 L9 (.lst ys1) = H13 at *
    replace mu12 : MutO (L9 :: ms) [(ap, none)] H_0 H13 L9 (D.lst (x_right_here.map (fun y_ : Int => (D.v (V.int y_))))) := mu12
    refine ⟨_, rfl, ?_⟩
    refine ⟨_, rfl, ?_⟩
    apply rep_lenL (e := (fun y_ : Int => (D.v (V.int y_)))) (xs := x_right_here) h_right_here
    refine ⟨_, _, rfl, rfl, ?_⟩
    refine ⟨(L9 :: ms), ap, ((x_right_here.length : Int) + (1 : Int)), _, rfl, hW.enterP, hM, fun r14 u17 H18 hM e16 h15 => ?_⟩
    replace h_right_here := rep_ret hW e16 h_right_here
    replace h_wrong := rep_ret hW e16 h_wrong
    replace mu12 := mo_ret hW e16 mu12
    replace hW := hW.retP e16
    obtain rfl := of_v h15
    refine ⟨_, _, rfl, ?_⟩
    replace mu12 := mo_dyn (e := (fun y_ : Int => (D.v (V.int y_)))) (xs := x_right_here) mu12
    refine ⟨_, rfl, ?_⟩
    refine ⟨mo_tyL mu12, ?_⟩
    refine ⟨_, rfl, ?_⟩
    refine ⟨_, rfl, ?_⟩
    obtain ⟨g19, hM⟩ := hM
    apply mo_insU (e := (fun y_ : D => y_)) (xs := (x_right_here.map (fun y_ : Int => (D.v (V.int y_))))) (i := r14) mu12 g19
    intro vs20 hr21
    have mk22 := mo_setL mu12 (repL_ins (e := (fun y_ : D => y_)) (xs := (x_right_here.map (fun y_ : Int => (D.v (V.int y_))))) (y := x_wrong) (Int.toNat r14) hr21 h_wrong)
    replace h_right_here := rep_put (o := .lst (vs20.take (Int.toNat r14) ++ [v_wrong] ++ vs20.drop (Int.toNat r14))) mu12.im h_right_here
    replace h_wrong := rep_put (o := .lst (vs20.take (Int.toNat r14) ++ [v_wrong] ++ vs20.drop (Int.toNat r14))) mu12.im h_wrong
    replace hW := wd_put (o := .lst (vs20.take (Int.toNat r14) ++ [v_wrong] ++ vs20.drop (Int.toNat r14))) hW mu12
    replace mu12 := mk22
    generalize upd H18 L9 (.lst (vs20.take (Int.toNat r14) ++ [v_wrong] ++ vs20.drop (Int.toNat r14))) = H23 at *
    replace mu12 : MutO (L9 :: ms) [(ap, none)] H_0 H23 L9 (D.lst (((x_right_here.map (fun y_ : Int => (D.v (V.int y_)))).take (Int.toNat r14) ++ [x_wrong] ++ (x_right_here.map (fun y_ : Int => (D.v (V.int y_)))).drop (Int.toNat r14)).map (fun y_ : D => y_))) := mu12
    clear mk22
    refine ⟨_, rfl, ?_⟩
    refine ⟨(L9 :: ms), ap, (2 : Int), _, rfl, hW.enterP, hM, fun r24 u27 H28 hM e26 h25 => ?_⟩
    replace h_right_here := rep_ret hW e26 h_right_here
    replace h_wrong := rep_ret hW e26 h_wrong
    replace mu12 := mo_ret hW e26 mu12
    replace hW := hW.retP e26
    obtain rfl := of_v h25
    refine ⟨rfl, ?_⟩
    refine ⟨_, rfl, ?_⟩
    refine ite3 hM (fun hM => ?_) (fun hM => ?_)
    · skip
      refine ⟨_, rfl, ?_⟩
      refine ⟨mo_tyL mu12, ?_⟩
      refine ⟨_, rfl, ?_⟩
      refine ⟨_, _, rfl, rfl, ?_⟩
      refine ⟨_, rfl, ?_⟩
      refine ⟨_, rfl, ?_⟩
      apply mo_len (e := (fun y_ : D => y_)) (xs := ((x_right_here.map (fun y_ : Int => (D.v (V.int y_)))).take (Int.toNat r14) ++ [x_wrong] ++ (x_right_here.map (fun y_ : Int => (D.v (V.int y_)))).drop (Int.toNat r14))) mu12
      refine ⟨_, rfl, ?_⟩
      refine ⟨_, _, rfl, rfl, ?_⟩
      refine ⟨(L9 :: ms), ap, ((((x_right_here.map (fun y_ : Int => (D.v (V.int y_)))).take (Int.toNat r14) ++ [x_wrong] ++ (x_right_here.map (fun y_ : Int => (D.v (V.int y_)))).drop (Int.toNat r14)).length : Int) - r14), _, rfl, hW.enterP, hM, fun r29 u32 H33 hM e31 h30 => ?_⟩
      replace h_right_here := rep_ret hW e31 h_right_here
      replace h_wrong := rep_ret hW e31 h_wrong
      replace mu12 := mo_ret hW e31 mu12
      replace hW := hW.retP e31
      obtain rfl := of_v h30
      refine ⟨_, _, rfl, rfl, ?_⟩
      refine ⟨_, rfl, ?_⟩
      obtain ⟨g34, hM⟩ := hM
      apply mo_insU (e := (fun y_ : D => y_)) (xs := ((x_right_here.map (fun y_ : Int => (D.v (V.int y_)))).take (Int.toNat r14) ++ [x_wrong] ++ (x_right_here.map (fun y_ : Int => (D.v (V.int y_)))).drop (Int.toNat r14))) (i := ((r14 + (1 : Int)) + r29)) mu12 g34
      intro vs35 hr36
      have mk37 := mo_setL mu12 (repL_ins (e := (fun y_ : D => y_)) (xs := ((x_right_here.map (fun y_ : Int => (D.v (V.int y_)))).take (Int.toNat r14) ++ [x_wrong] ++ (x_right_here.map (fun y_ : Int => (D.v (V.int y_)))).drop (Int.toNat r14))) (y := x_wrong) (Int.toNat ((r14 + (1 : Int)) + r29)) hr36 h_wrong)
      replace h_right_here := rep_put (o := .lst (vs35.take (Int.toNat ((r14 + (1 : Int)) + r29)) ++ [v_wrong] ++ vs35.drop (Int.toNat ((r14 + (1 : Int)) + r29)))) mu12.im h_right_here
      replace h_wrong := rep_put (o := .lst (vs35.take (Int.toNat ((r14 + (1 : Int)) + r29)) ++ [v_wrong] ++ vs35.drop (Int.toNat ((r14 + (1 : Int)) + r29)))) mu12.im h_wrong
      replace hW := wd_put (o := .lst (vs35.take (Int.toNat ((r14 + (1 : Int)) + r29)) ++ [v_wrong] ++ vs35.drop (Int.toNat ((r14 + (1 : Int)) + r29)))) hW mu12
      replace mu12 := mk37
      generalize upd H33 L9 (.lst (vs35.take (Int.toNat ((r14 + (1 : Int)) + r29)) ++ [v_wrong] ++ vs35.drop (Int.toNat ((r14 + (1 : Int)) + r29)))) = H38 at *
      replace mu12 : MutO (L9 :: ms) [(ap, none)] H_0 H38 L9 (D.lst ((((x_right_here.map (fun y_ : Int => (D.v (V.int y_)))).take (Int.toNat r14) ++ [x_wrong] ++ (x_right_here.map (fun y_ : Int => (D.v (V.int y_)))).drop (Int.toNat r14)).take (Int.toNat ((r14 + (1 : Int)) + r29)) ++ [x_wrong] ++ ((x_right_here.map (fun y_ : Int => (D.v (V.int y_)))).take (Int.toNat r14) ++ [x_wrong] ++ (x_right_here.map (fun y_ : Int => (D.v (V.int y_)))).drop (Int.toNat r14)).drop (Int.toNat ((r14 + (1 : Int)) + r29))).map (fun y_ : D => y_))) := mu12
      clear mk37
      have h39 := mo_rep_dr dr_here nm11 mu12
      replace hW := wd_dr dr_here mu12.hp hW
      replace h_right_here := rep_dr dr_here h_right_here
      replace h_wrong := rep_dr dr_here h_wrong
      clear mu12
      obtain ⟨KB40, hM, hKKB40⟩ := hM
      refine ⟨fun v H1 => ∃ r : (Bool × List D), KB40 r ∧ Wd ms [(ap, none)] [] H_0 H1 ∧ Keep ms H38 H1 ∧ rep ms H1 (eSq (fun y_ : D => y_) r) v, ?_, ?_⟩
      · skip
        have hj42 := Keep.refl (ms := ms) (H := H38)
        refine ⟨_, rfl, ?_⟩
        refine ⟨ms, ap, (2 : Int), _, rfl, hW.enterP, hM, fun r43 u46 H47 hM e45 h44 => ?_⟩
        replace h_right_here := rep_ret hW e45 h_right_here
        replace h_wrong := rep_ret hW e45 h_wrong
        replace h39 := rep_ret hW e45 h39
        replace hj42 := keep_ret hW e45 hj42
        replace hW := hW.retP e45
        obtain rfl := of_v h44
        refine ⟨rfl, ?_⟩
        refine ⟨_, rfl, ?_⟩
        refine ite3 hM (fun hM => ?_) (fun hM => ?_)
        · skip
          refine ⟨_, rfl, ?_⟩
          exact ⟨((false, (((x_right_here.map (fun y_ : Int => (D.v (V.int y_)))).take (Int.toNat r14) ++ [x_wrong] ++ (x_right_here.map (fun y_ : Int => (D.v (V.int y_)))).drop (Int.toNat r14)).take (Int.toNat ((r14 + (1 : Int)) + r29)) ++ [x_wrong] ++ ((x_right_here.map (fun y_ : Int => (D.v (V.int y_)))).take (Int.toNat r14) ++ [x_wrong] ++ (x_right_here.map (fun y_ : Int => (D.v (V.int y_)))).drop (Int.toNat r14)).drop (Int.toNat ((r14 + (1 : Int)) + r29)))) : (Bool × List D)), hM, hW, hj42, (rep_sqL h39)⟩
        · skip
          refine ⟨_, rfl, ?_⟩
          apply rep_tupOf (ds := (((x_right_here.map (fun y_ : Int => (D.v (V.int y_)))).take (Int.toNat r14) ++ [x_wrong] ++ (x_right_here.map (fun y_ : Int => (D.v (V.int y_)))).drop (Int.toNat r14)).take (Int.toNat ((r14 + (1 : Int)) + r29)) ++ [x_wrong] ++ ((x_right_here.map (fun y_ : Int => (D.v (V.int y_)))).take (Int.toNat r14) ++ [x_wrong] ++ (x_right_here.map (fun y_ : Int => (D.v (V.int y_)))).drop (Int.toNat r14)).drop (Int.toNat ((r14 + (1 : Int)) + r29))).map (fun y_ : D => y_)) h39
          intro ys48 hr49
          intro p50 np51
          have e52 := Rx.Ext.new (H := H47) (o := (HO.tup ys48)) np51
          have hp53 : upd H47 p50 (HO.tup ys48) p50 = some (HO.tup ys48) := upd_same
          generalize upd H47 p50 (HO.tup ys48) = H55 at e52 hp53 ⊢
          have h54 : rep ms H55 (D.tup ((((x_right_here.map (fun y_ : Int => (D.v (V.int y_)))).take (Int.toNat r14) ++ [x_wrong] ++ (x_right_here.map (fun y_ : Int => (D.v (V.int y_)))).drop (Int.toNat r14)).take (Int.toNat ((r14 + (1 : Int)) + r29)) ++ [x_wrong] ++ ((x_right_here.map (fun y_ : Int => (D.v (V.int y_)))).take (Int.toNat r14) ++ [x_wrong] ++ (x_right_here.map (fun y_ : Int => (D.v (V.int y_)))).drop (Int.toNat r14)).drop (Int.toNat ((r14 + (1 : Int)) + r29))).map (fun y_ : D => y_))) (.ref p50) := rep_tup_mk hW np51 e52 hp53 hr49
          replace h_right_here := rep_ext e52 h_right_here
          replace h_wrong := rep_ext e52 h_wrong
          replace h39 := rep_ext e52 h39
          replace hj42 := keep_ext e52 hj42
          replace hW := hW.ret0 e52
          exact ⟨((true, (((x_right_here.map (fun y_ : Int => (D.v (V.int y_)))).take (Int.toNat r14) ++ [x_wrong] ++ (x_right_here.map (fun y_ : Int => (D.v (V.int y_)))).drop (Int.toNat r14)).take (Int.toNat ((r14 + (1 : Int)) + r29)) ++ [x_wrong] ++ ((x_right_here.map (fun y_ : Int => (D.v (V.int y_)))).take (Int.toNat r14) ++ [x_wrong] ++ (x_right_here.map (fun y_ : Int => (D.v (V.int y_)))).drop (Int.toNat r14)).drop (Int.toNat ((r14 + (1 : Int)) + r29)))) : (Bool × List D)), hM, hW, hj42, (rep_sqT h54)⟩
      · skip
        rintro u58 Hj41 ⟨r56, hr, hW, hj42, h57⟩
        replace hM := hKKB40 r56 hr
        replace h_right_here := rep_keep hj42 h_right_here
        replace h_wrong := rep_keep hj42 h_wrong
        replace h39 := rep_keep hj42 h39
        refine ⟨_, rfl, ?_⟩
        refine ⟨(by show 2 ≤ sizeLine; decide), ?_⟩
        intro p59 n63
        have e60 := Rx.Ext.new (H := Hj41) (o := (HO.tup [u58, V.int r14])) n63
        have hp61 : upd Hj41 p59 (HO.tup [u58, V.int r14]) p59 = some (HO.tup [u58, V.int r14]) := upd_same
        generalize upd Hj41 p59 (HO.tup [u58, V.int r14]) = H64 at e60 hp61 ⊢
        have h62 : rep ms H64 (D.tup [(eSq (fun y_ : D => y_) r56), (D.v (V.int r14))]) (.ref p59) := rep_tup_mk hW n63 e60 hp61 (repL_cons h57 (repL_cons rep_v repL_nil))
        replace h_right_here := rep_ext e60 h_right_here
        replace h_wrong := rep_ext e60 h_wrong
        replace h39 := rep_ext e60 h39
        replace h57 := rep_ext e60 h57
        replace hW := hW.ret0 e60
        exact hQ (r56, r14) _ _ hM hW.out h62
    · skip
      have h65 := mo_rep_dr dr_here nm11 mu12
      replace hW := wd_dr dr_here mu12.hp hW
      replace h_right_here := rep_dr dr_here h_right_here
      replace h_wrong := rep_dr dr_here h_wrong
      clear mu12
      obtain ⟨KB66, hM, hKKB66⟩ := hM
      refine ⟨fun v H1 => ∃ r : (Bool × List D), KB66 r ∧ Wd ms [(ap, none)] [] H_0 H1 ∧ Keep ms H28 H1 ∧ rep ms H1 (eSq (fun y_ : D => y_) r) v, ?_, ?_⟩
      · skip
        have hj68 := Keep.refl (ms := ms) (H := H28)
        refine ⟨_, rfl, ?_⟩
        refine ⟨ms, ap, (2 : Int), _, rfl, hW.enterP, hM, fun r69 u72 H73 hM e71 h70 => ?_⟩
        replace h_right_here := rep_ret hW e71 h_right_here
        replace h_wrong := rep_ret hW e71 h_wrong
        replace h65 := rep_ret hW e71 h65
        replace hj68 := keep_ret hW e71 hj68
        replace hW := hW.retP e71
        obtain rfl := of_v h70
        refine ⟨rfl, ?_⟩
        refine ⟨_, rfl, ?_⟩
        refine ite3 hM (fun hM => ?_) (fun hM => ?_)
        · skip
          refine ⟨_, rfl, ?_⟩
          exact ⟨((false, ((x_right_here.map (fun y_ : Int => (D.v (V.int y_)))).take (Int.toNat r14) ++ [x_wrong] ++ (x_right_here.map (fun y_ : Int => (D.v (V.int y_)))).drop (Int.toNat r14))) : (Bool × List D)), hM, hW, hj68, (rep_sqL h65)⟩
        · skip
          refine ⟨_, rfl, ?_⟩
          apply rep_tupOf (ds := ((x_right_here.map (fun y_ : Int => (D.v (V.int y_)))).take (Int.toNat r14) ++ [x_wrong] ++ (x_right_here.map (fun y_ : Int => (D.v (V.int y_)))).drop (Int.toNat r14)).map (fun y_ : D => y_)) h65
          intro ys74 hr75
          intro p76 np77
          have e78 := Rx.Ext.new (H := H73) (o := (HO.tup ys74)) np77
          have hp79 : upd H73 p76 (HO.tup ys74) p76 = some (HO.tup ys74) := upd_same
          generalize upd H73 p76 (HO.tup ys74) = H81 at e78 hp79 ⊢
          have h80 : rep ms H81 (D.tup (((x_right_here.map (fun y_ : Int => (D.v (V.int y_)))).take (Int.toNat r14) ++ [x_wrong] ++ (x_right_here.map (fun y_ : Int => (D.v (V.int y_)))).drop (Int.toNat r14)).map (fun y_ : D => y_))) (.ref p76) := rep_tup_mk hW np77 e78 hp79 hr75
          replace h_right_here := rep_ext e78 h_right_here
          replace h_wrong := rep_ext e78 h_wrong
          replace h65 := rep_ext e78 h65
          replace hj68 := keep_ext e78 hj68
          replace hW := hW.ret0 e78
          exact ⟨((true, ((x_right_here.map (fun y_ : Int => (D.v (V.int y_)))).take (Int.toNat r14) ++ [x_wrong] ++ (x_right_here.map (fun y_ : Int => (D.v (V.int y_)))).drop (Int.toNat r14))) : (Bool × List D)), hM, hW, hj68, (rep_sqT h80)⟩
      · skip
        rintro u84 Hj67 ⟨r82, hr, hW, hj68, h83⟩
        replace hM := hKKB66 r82 hr
        replace h_right_here := rep_keep hj68 h_right_here
        replace h_wrong := rep_keep hj68 h_wrong
        replace h65 := rep_keep hj68 h65
        refine ⟨_, rfl, ?_⟩
        refine ⟨(by show 2 ≤ sizeLine; decide), ?_⟩
        intro p85 n89
        have e86 := Rx.Ext.new (H := Hj67) (o := (HO.tup [u84, V.int r14])) n89
        have hp87 : upd Hj67 p85 (HO.tup [u84, V.int r14]) p85 = some (HO.tup [u84, V.int r14]) := upd_same
        generalize upd Hj67 p85 (HO.tup [u84, V.int r14]) = H90 at e86 hp87 ⊢
        have h88 : rep ms H90 (D.tup [(eSq (fun y_ : D => y_) r82), (D.v (V.int r14))]) (.ref p85) := rep_tup_mk hW n89 e86 hp87 (repL_cons h83 (repL_cons rep_v repL_nil))
        replace h_right_here := rep_ext e86 h_right_here
        replace h_wrong := rep_ext e86 h_wrong
        replace h65 := rep_ext e86 h65
        replace h83 := rep_ext e86 h83
        replace hW := hW.ret0 e86
        exact hQ (r82, r14) _ _ hM hW.out h88
def M_early (KM : (D × (Option (List D)) × Int) → Prop) : Prop :=
  (M_pick ([(0 : Int), (1 : Int), (2 : Int), (5 : Int), (200 : Int)] : List Int) fun r7 => ((rangeI (0 : Int) r7).length < 100000 ∧ mapC (fun (x23 : Int) (k16 : Int → Prop) => (M_draw (9 : Int) fun r29 => (k16 (r29 - (4 : Int))))) (rangeI (0 : Int) r7) [] fun ys39 => (M_draw (5 : Int) fun r42 => (if (decide (V.int r42 = V.int (0 : Int))) = true then (M_pick_plD ([(D.v V.non), (D.v (V.int (3 : Int))), (D.v (V.bl true)), (D.v (V.str ("" : Str))), (D.v (V.str ("12" : Str))), (D.dct [] []), (D.dct [(Sum.inl (0 : Int) : Key)] [(D.v (V.int (1 : Int)))])] : List D) fun r67 => (KM (r67, (some ([(D.v (V.str ("values" : Str))), (D.v V.non)] : List D)), (0 : Int)))) else (if (decide (V.int r42 = V.int (1 : Int))) = true then (M_no_integer  fun r84 => (M_spoilt ys39 r84 fun r89 => (KM ((eSq (fun y_ : D => y_) r89.1), (some ([(D.v (V.str ("values" : Str))), (D.v (V.int r89.2))] : List D)), (r89.1.2.length : Int))))) else (if (decide (V.int r42 = V.int (2 : Int))) = true then ((-(2 ^ 63) ≤ ((201 : Int) - (ys39.length : Int)) ∧ ((201 : Int) - (ys39.length : Int)) < 2 ^ 63 ∧ ([(0 : Int)] : List Int).length * Int.toNat ((201 : Int) - (ys39.length : Int)) ≤ sizeLine) ∧ (ys39.length + (List.flatten (List.replicate (Int.toNat ((201 : Int) - (ys39.length : Int))) ([(0 : Int)] : List Int))).length ≤ sizeLine ∧ (∃ KB136 : (Bool × List Int) → Prop, (M_draw (2 : Int) fun r139 => (if (decide (V.int r139 = V.int (0 : Int))) = true then (KB136 ((false, (ys39 ++ (List.flatten (List.replicate (Int.toNat ((201 : Int) - (ys39.length : Int))) ([(0 : Int)] : List Int))))) : (Bool × List Int))) else (KB136 ((true, (ys39 ++ (List.flatten (List.replicate (Int.toNat ((201 : Int) - (ys39.length : Int))) ([(0 : Int)] : List Int))))) : (Bool × List Int))))) ∧ ∀ r152 : (Bool × List Int), KB136 r152 → (KM ((eSq (fun y_ : Int => (D.v (V.int y_))) r152), (none : (Option (List D))), ((ys39 ++ (List.flatten (List.replicate (Int.toNat ((201 : Int) - (ys39.length : Int))) ([(0 : Int)] : List Int)))).length : Int)))))) else (∃ KB161 : (Bool × List Int) → Prop, (M_draw (2 : Int) fun r164 => (if (decide (V.int r164 = V.int (0 : Int))) = true then (KB161 ((false, ys39) : (Bool × List Int))) else (KB161 ((true, ys39) : (Bool × List Int))))) ∧ ∀ r177 : (Bool × List Int), KB161 r177 → (KM ((eSq (fun y_ : Int => (D.v (V.int y_))) r177), (none : (Option (List D))), (ys39.length : Int))))))))))
def sp_early (A : Ad) : Sp := fun vs H Q _ => ∃ (ms : List Addr) (ap : Addr) (KM : (D × (Option (List D)) × Int) → Prop), vs = [.ref ap] ∧ Wd ms [(ap, none)] [] H H ∧ M_early  KM ∧ ∀ (r : (D × (Option (List D)) × Int)) (u : V) (H1 : Hp), KM r → Ret [(ap, none)] H H1 → rep ms H1 (D.tup [r.1, (encO (fun y_ : (List D) => (D.lst (y_.map (fun y_ : D => y_)))) r.2.1), (D.v (V.int r.2.2))]) u → Q u H1
set_option maxHeartbeats 16000000 in
theorem ok_early {P : Program} {w : World} {K : PySem.W.Frag} {mg : Str → Option Value} {base : Heap} {A : Ad} (T : Txt w K mg base A) : FnOk P w K mg base CX0 4 A.a_early A.d_early ["_law_pot_here"] (sp_early A) := by
  refine T.F_early.ok sc_early (fun vs H Q E h => ?_) (fun cdv A_ outer s_ H_0 vs Q E hr h => ?_)
  · obtain ⟨ms, ap, KM, rfl, _⟩ := h
    rfl
  · obtain ⟨ms, ap, KM, rfl, hW, hM, hQ⟩ := h
    unfold M_early at hM
    refine ⟨_, (pss_cons (ps_setLc (i := 1) (own := [("_law_turn", 6)]) (g := gName 6) rfl sc_early.nd rfl rfl (sw_true rfl rfl rfl (by decide +kernel)) (pi_rangeW1 (by rfl) T.z_range (pa_cons (pe_call (ok_pick T) (hr.mono (by decide)) (by rfl) T.g_pick T.F_pick.kp T.b_pick .nil pass0 (pa_cons (pv 0) (pa_cons (pe_lst (pa_cons pe_int (pa_cons pe_int (pa_cons pe_int (pa_cons pe_int (pa_cons pe_int pa_nil)))))) pa_nil))) pa_nil)) (blkOk_by (N := ["_law_pot_here", "_law_right_here", "_law_way", "_law_odd", "_law_found", "_law_at", "_law_turn"]) (sc := defScope s_early) (by decide +kernel)) (fun _ _ _ _ _ => pg_name (i := 6) sc_early.nd rfl (by first | exact Or.inl rfl | exact Or.inr rfl)) (fun _ _ _ _ _ => pts_nil) (fun _ _ _ _ _ => (pe_op op_sub (pe_call (ok_draw T) (hr.mono (by decide)) (by rfl) T.g_draw T.F_draw.kp T.b_draw .nil pass0 (pa_cons (pv 0) (pa_cons pe_int pa_nil))) pe_int))) (pss_cons (ps_set (i := 2) sc_early.nd rfl (by first | exact Or.inl rfl | exact Or.inr rfl) (pe_call (ok_draw T) (hr.mono (by decide)) (by rfl) T.g_draw T.F_draw.kp T.b_draw .nil pass0 (pa_cons (pv 0) (pa_cons pe_int pa_nil)))) (pss_cons (ps_if (pt_cmpR op_eq (pv 2) pe_int (nomark _)) (pss_cons (ps_set (i := 3) sc_early.nd rfl (by first | exact Or.inl rfl | exact Or.inr rfl) (pe_call (ok_pick_plD T) (hr.mono (by decide)) (by rfl) T.g_pick T.F_pick.kp T.b_pick .nil pass0 (pa_cons (pv 0) (pa_cons (pe_lst (pa_cons pe_non (pa_cons pe_int (pa_cons pe_bl (pa_cons pe_str (pa_cons pe_str (pa_cons pe_dnewK (pa_cons (pe_disp (pps_cons pe_int pe_int pps_nil) rfl rfl (by simp) (by decide)) pa_nil)))))))) pa_nil)))) (pss_one (ps_ret (pe_tup (pa_cons (pv 3) (pa_cons (pe_lst (pa_cons pe_str (pa_cons pe_non pa_nil))) (pa_cons pe_int pa_nil))))))) pss_nil) (pss_cons (ps_if (pt_cmpR op_eq (pv 2) pe_int (nomark _)) (pss_cons (ps_asg (pe_call (ok_spoilt T) (hr.mono (by decide)) (by rfl) T.g_spoilt T.F_spoilt.kp T.b_spoilt .nil pass0 (pa_cons (pv 0) (pa_cons (pv 1) (pa_cons (pe_call (ok_no_integer T) (hr.mono (by decide)) (by rfl) T.g_no_integer T.F_no_integer.kp T.b_no_integer .nil pass0 (pa_cons (pv 0) pa_nil)) pa_nil)))) (pg_tup rfl (pgs_cons (pg_name (i := 4) sc_early.nd rfl (by first | exact Or.inl rfl | exact Or.inr rfl)) (pgs_cons (pg_name (i := 5) sc_early.nd rfl (by first | exact Or.inl rfl | exact Or.inr rfl)) pgs_nil)))) (pss_one (ps_ret (pe_tup (pa_cons (pv 4) (pa_cons (pe_lst (pa_cons pe_str (pa_cons (pv 5) pa_nil))) (pa_cons (pe_callB (call_lenK (K := K) rfl) (by rfl) T.z_len PySem.boot_len (pa_cons (pv 4) pa_nil)) pa_nil))))))) pss_nil) (pss_cons (ps_if (pt_cmpR op_eq (pv 2) pe_int (nomark _)) (pss_one (ps_set (i := 1) sc_early.nd rfl (by first | exact Or.inl rfl | exact Or.inr rfl) (pe_op op_cat (pv 1) (pe_op op_rep (pe_lst (pa_cons pe_int pa_nil)) (pe_op op_sub pe_int (pe_callB (call_lenK (K := K) rfl) (by rfl) T.z_len PySem.boot_len (pa_cons (pv 1) pa_nil))))))) pss_nil) (pss_one (ps_ret (pe_tup (pa_cons (pe_up (pe_ifExp (pt_cmpR op_eq (pe_call (ok_draw T) (hr.mono (by decide)) (by rfl) T.g_draw T.F_draw.kp T.b_draw .nil pass0 (pa_cons (pv 0) (pa_cons pe_int pa_nil))) pe_int (nomark _)) (pv 1) (pe_callTy (call_tuple_ofK (K := K) rfl) (by rfl) T.z_tuple (by decide +kernel) (pa_cons (pv 1) pa_nil)))) (pa_cons pe_non (pa_cons (pe_callB (call_lenK (K := K) rfl) (by rfl) T.z_len PySem.boot_len (pa_cons (pv 1) pa_nil)) pa_nil))))))))))), ?_⟩
    refine ⟨_, rfl, ?_⟩
    refine ⟨(by show 5 ≤ sizeLine; decide), ?_⟩
    intro p1 n5
    have e2 := Rx.Ext.new (H := H_0) (o := (HO.lst [V.int (0 : Int), V.int (1 : Int), V.int (2 : Int), V.int (5 : Int), V.int (200 : Int)])) n5
    have hp3 : upd H_0 p1 (HO.lst [V.int (0 : Int), V.int (1 : Int), V.int (2 : Int), V.int (5 : Int), V.int (200 : Int)]) p1 = some (HO.lst [V.int (0 : Int), V.int (1 : Int), V.int (2 : Int), V.int (5 : Int), V.int (200 : Int)]) := upd_same
    generalize upd H_0 p1 (HO.lst [V.int (0 : Int), V.int (1 : Int), V.int (2 : Int), V.int (5 : Int), V.int (200 : Int)]) = H6 at e2 hp3 ⊢
    have h4 : rep ms H6 (D.lst (([(0 : Int), (1 : Int), (2 : Int), (5 : Int), (200 : Int)] : List Int).map (fun y_ : Int => (D.v (V.int y_))))) (.ref p1) := rep_lst_mk hW n5 e2 hp3 (repL_cons rep_v (repL_cons rep_v (repL_cons rep_v (repL_cons rep_v (repL_cons rep_v repL_nil)))))
    replace hW := hW.ret0 e2
    refine ⟨ms, ap, _, ([(0 : Int), (1 : Int), (2 : Int), (5 : Int), (200 : Int)] : List Int), _, rfl, hW.enterP, h4, hM, fun r7 u10 H11 hM e9 h8 => ?_⟩
    replace h4 := rep_ret hW e9 h4
    replace hW := hW.retP e9
    obtain rfl := of_v h8
    refine ⟨_, rfl, ?_⟩
    refine fun L12 nl13 => ?_
    have nm27 := nm_new hW nl13
    refine lc_rangeG (L := L12) (fun n_ ys_ h_ => Wd (L12 :: ms) [(ap, none)] [] H_0 h_ ∧ Keep (L12 :: ms) H11 h_ ∧ MutO (L12 :: ms) [(ap, none)] H_0 h_ L12 (D.lst (ys_.map (fun y_ : Int => (D.v (V.int y_))))) ∧ ys_.length ≤ n_) (lo := (0 : Int)) (hi := r7) (N := Int.toNat r7) (by simp) hM ⟨wd_cell hW nl13, keep_cell nl13 Keep.refl, mo_newL (ds := []) hW nl13 repL_nil, Nat.le_refl _⟩ ?_ ?_
    · skip
      rintro x23  n14 ys15 k16 H28 hn ⟨hW, hk17, mu18, ln19⟩ hM Nx22 hN20
      replace h4 := rep_keep hk17 (rep_new nl13 h4)
      refine ⟨rfl, ?_⟩
      refine tyes_of ?_
      refine ⟨_, rfl, ?_⟩
      refine ⟨(L12 :: ms), ap, (9 : Int), _, rfl, hW.enterP, hM, fun r29 u32 H33 hM e31 h30 => ?_⟩
      replace h4 := rep_ret hW e31 h4
      replace hk17 := keep_ret hW e31 hk17
      replace mu18 := mo_ret hW e31 mu18
      replace hW := hW.retP e31
      obtain rfl := of_v h30
      refine ⟨_, _, rfl, rfl, ?_⟩
      refine mo_end mu18 hn (by rw [List.length_map]; exact ln19) fun vs34 hr35 => ?_
      have mk37 := mo_setL mu18 (repL_snoc (e := (fun y_ : Int => (D.v (V.int y_)))) (xs := ys15) (y := (r29 - (4 : Int))) hr35 rep_v)
      replace h4 := rep_put (o := .lst (vs34 ++ [V.int (r29 - (4 : Int))])) mu18.im h4
      replace hk17 := keep_put (o := .lst (vs34 ++ [V.int (r29 - (4 : Int))])) mu18.im hk17
      replace hW := wd_put (o := .lst (vs34 ++ [V.int (r29 - (4 : Int))])) hW mu18
      replace mu18 := mk37
      generalize upd H33 L12 (.lst (vs34 ++ [V.int (r29 - (4 : Int))])) = H38 at *
      replace mu18 : MutO (L12 :: ms) [(ap, none)] H_0 H38 L12 (D.lst ((ys15 ++ [(r29 - (4 : Int))]).map (fun y_ : Int => (D.v (V.int y_))))) := mu18
      clear mk37
      exact hN20 (r29 - (4 : Int)) _ hM ⟨hW, hk17, mu18, by rw [List.length_append]; exact Nat.add_le_add_right ln19 1⟩
    · skip
      rintro n14 ys39 H40 hM ⟨hW, hk17, mu18, ln19⟩
      replace h4 := rep_keep hk17 (rep_new nl13 h4)
      clear hk17 ln19
      have h41 := mo_rep_dr dr_here nm27 mu18
      replace hW := wd_dr dr_here mu18.hp hW
      replace h4 := rep_dr dr_here h4
      clear mu18
      refine ⟨_, rfl, ?_⟩
      refine ⟨ms, ap, (5 : Int), _, rfl, hW.enterP, hM, fun r42 u45 H46 hM e44 h43 => ?_⟩
      replace h4 := rep_ret hW e44 h4
      replace h41 := rep_ret hW e44 h41
      replace hW := hW.retP e44
      obtain rfl := of_v h43
      refine ⟨_, rfl, ?_⟩
      refine ⟨rfl, ?_⟩
      refine ⟨_, rfl, ?_⟩
      refine ite3 hM (fun hM => ?_) (fun hM => ?_)
      · skip
        refine ⟨_, rfl, ?_⟩
        intro p47 n51
        have e48 := Rx.Ext.new (H := H46) (o := (HO.dK [])) n51
        have hp49 : upd H46 p47 (HO.dK []) p47 = some (HO.dK []) := upd_same
        generalize upd H46 p47 (HO.dK []) = H52 at e48 hp49 ⊢
        have h50 : rep ms H52 (D.dct [] []) (.ref p47) := rep_dct0 hW n51 hp49
        replace h4 := rep_ext e48 h4
        replace h41 := rep_ext e48 h41
        replace hW := hW.ret0 e48
        intro L53 nl54
        have nm55 := nm_new hW nl54
        have mu56 := mo_nilD hW nl54
        replace h4 := rep_cell (o := .dK []) nl54 h4
        replace h41 := rep_cell (o := .dK []) nl54 h41
        replace h50 := rep_cell (o := .dK []) nl54 h50
        replace hW := wd_cell (o := .dK []) hW nl54
        generalize upd H52 L53 (.dK []) = H57 at *
        replace mu56 : MutO (L53 :: ms) [(ap, none)] H_0 H57 L53 (D.dct [] []) := mu56
        refine ⟨mo_dK0 mu56, List.zip [(Sum.inl (0 : Int) : Key)] [V.int (1 : Int)], rfl, (by show 1 ≤ 15; decide), ?_⟩
        rw [merge_zip (ks := [(Sum.inl (0 : Int) : Key)]) (vs := [V.int (1 : Int)]) rfl (by decide +kernel)]
        have mk58 := mo_setD (ks := [(Sum.inl (0 : Int) : Key)]) (vs := [V.int (1 : Int)]) mu56 rfl (repL_cons rep_v repL_nil)
        replace h4 := rep_put (o := .dK (List.zip [(Sum.inl (0 : Int) : Key)] [V.int (1 : Int)])) mu56.im h4
        replace h41 := rep_put (o := .dK (List.zip [(Sum.inl (0 : Int) : Key)] [V.int (1 : Int)])) mu56.im h41
        replace h50 := rep_put (o := .dK (List.zip [(Sum.inl (0 : Int) : Key)] [V.int (1 : Int)])) mu56.im h50
        replace hW := wd_put (o := .dK (List.zip [(Sum.inl (0 : Int) : Key)] [V.int (1 : Int)])) hW mu56
        replace mu56 := mk58
        generalize upd H57 L53 (.dK (List.zip [(Sum.inl (0 : Int) : Key)] [V.int (1 : Int)])) = H59 at *
        replace mu56 : MutO (L53 :: ms) [(ap, none)] H_0 H59 L53 (D.dct [(Sum.inl (0 : Int) : Key)] [(D.v (V.int (1 : Int)))]) := mu56
        clear mk58
        have h60 := mo_rep_dr dr_here nm55 mu56
        replace hW := wd_dr dr_here mu56.hp hW
        replace h4 := rep_dr dr_here h4
        replace h41 := rep_dr dr_here h41
        replace h50 := rep_dr dr_here h50
        clear mu56
        refine ⟨(by show 7 ≤ sizeLine; decide), ?_⟩
        intro p61 n65
        have e62 := Rx.Ext.new (H := H59) (o := (HO.lst [V.non, V.int (3 : Int), V.bl true, V.str ("" : Str), V.str ("12" : Str), (V.ref p47), (V.ref L53)])) n65
        have hp63 : upd H59 p61 (HO.lst [V.non, V.int (3 : Int), V.bl true, V.str ("" : Str), V.str ("12" : Str), (V.ref p47), (V.ref L53)]) p61 = some (HO.lst [V.non, V.int (3 : Int), V.bl true, V.str ("" : Str), V.str ("12" : Str), (V.ref p47), (V.ref L53)]) := upd_same
        generalize upd H59 p61 (HO.lst [V.non, V.int (3 : Int), V.bl true, V.str ("" : Str), V.str ("12" : Str), (V.ref p47), (V.ref L53)]) = H66 at e62 hp63 ⊢
        have h64 : rep ms H66 (D.lst (([(D.v V.non), (D.v (V.int (3 : Int))), (D.v (V.bl true)), (D.v (V.str ("" : Str))), (D.v (V.str ("12" : Str))), (D.dct [] []), (D.dct [(Sum.inl (0 : Int) : Key)] [(D.v (V.int (1 : Int)))])] : List D).map (fun y_ : D => y_))) (.ref p61) := rep_lst_mk hW n65 e62 hp63 (repL_cons rep_v (repL_cons rep_v (repL_cons rep_v (repL_cons rep_v (repL_cons rep_v (repL_cons h50 (repL_cons h60 repL_nil)))))))
        replace h4 := rep_ext e62 h4
        replace h41 := rep_ext e62 h41
        replace h50 := rep_ext e62 h50
        replace h60 := rep_ext e62 h60
        replace hW := hW.ret0 e62
        refine ⟨ms, ap, _, ([(D.v V.non), (D.v (V.int (3 : Int))), (D.v (V.bl true)), (D.v (V.str ("" : Str))), (D.v (V.str ("12" : Str))), (D.dct [] []), (D.dct [(Sum.inl (0 : Int) : Key)] [(D.v (V.int (1 : Int)))])] : List D), _, rfl, hW.enterP, h64, hM, fun r67 u70 H71 hM e69 h68 => ?_⟩
        replace h4 := rep_ret hW e69 h4
        replace h41 := rep_ret hW e69 h41
        replace h50 := rep_ret hW e69 h50
        replace h60 := rep_ret hW e69 h60
        replace h64 := rep_ret hW e69 h64
        replace hW := hW.retP e69
        refine ⟨_, rfl, ?_⟩
        refine ⟨(by show 2 ≤ sizeLine; decide), ?_⟩
        intro p72 n76
        have e73 := Rx.Ext.new (H := H71) (o := (HO.lst [V.str ("values" : Str), V.non])) n76
        have hp74 : upd H71 p72 (HO.lst [V.str ("values" : Str), V.non]) p72 = some (HO.lst [V.str ("values" : Str), V.non]) := upd_same
        generalize upd H71 p72 (HO.lst [V.str ("values" : Str), V.non]) = H77 at e73 hp74 ⊢
        have h75 : rep ms H77 (D.lst (([(D.v (V.str ("values" : Str))), (D.v V.non)] : List D).map (fun y_ : D => y_))) (.ref p72) := rep_lst_mk hW n76 e73 hp74 (repL_cons rep_v (repL_cons rep_v repL_nil))
        replace h4 := rep_ext e73 h4
        replace h41 := rep_ext e73 h41
        replace h50 := rep_ext e73 h50
        replace h60 := rep_ext e73 h60
        replace h64 := rep_ext e73 h64
        replace h68 := rep_ext e73 h68
        replace hW := hW.ret0 e73
        refine ⟨(by show 3 ≤ sizeLine; decide), ?_⟩
        intro p78 n82
        have e79 := Rx.Ext.new (H := H77) (o := (HO.tup [u70, (V.ref p72), V.int (0 : Int)])) n82
        have hp80 : upd H77 p78 (HO.tup [u70, (V.ref p72), V.int (0 : Int)]) p78 = some (HO.tup [u70, (V.ref p72), V.int (0 : Int)]) := upd_same
        generalize upd H77 p78 (HO.tup [u70, (V.ref p72), V.int (0 : Int)]) = H83 at e79 hp80 ⊢
        have h81 : rep ms H83 (D.tup [r67, (D.lst (([(D.v (V.str ("values" : Str))), (D.v V.non)] : List D).map (fun y_ : D => y_))), (D.v (V.int (0 : Int)))]) (.ref p78) := rep_tup_mk hW n82 e79 hp80 (repL_cons h68 (repL_cons h75 (repL_cons rep_v repL_nil)))
        replace h4 := rep_ext e79 h4
        replace h41 := rep_ext e79 h41
        replace h50 := rep_ext e79 h50
        replace h60 := rep_ext e79 h60
        replace h64 := rep_ext e79 h64
        replace h68 := rep_ext e79 h68
        replace h75 := rep_ext e79 h75
        replace hW := hW.ret0 e79
        exact hQ (r67, (some ([(D.v (V.str ("values" : Str))), (D.v V.non)] : List D)), (0 : Int)) _ _ hM hW.out h81
      · skip
        refine ⟨_, rfl, ?_⟩
        refine ⟨rfl, ?_⟩
        refine ⟨_, rfl, ?_⟩
        refine ite3 hM (fun hM => ?_) (fun hM => ?_)
        · skip
          refine ⟨_, rfl, ?_⟩
          refine ⟨_, rfl, ?_⟩
          refine ⟨_, rfl, ?_⟩
          refine ⟨ms, ap, _, rfl, hW.enterP, hM, fun r84 u87 H88 hM e86 h85 => ?_⟩
          replace h4 := rep_ret hW e86 h4
          replace h41 := rep_ret hW e86 h41
          replace hW := hW.retP e86
          refine ⟨ms, ap, _, _, ys39, r84, _, rfl, hW.enterP, h41, h85, hM, fun r89 u92 H93 hM e91 h90 => ?_⟩
          replace h4 := rep_ret hW e91 h4
          replace h41 := rep_ret hW e91 h41
          replace h85 := rep_ret hW e91 h85
          replace hW := hW.retP e91
          apply rep_gtup h90 rfl
          intro vs94 hv95
          obtain ⟨u96, us97, rfl, h98, hv99⟩ := repL_uncons hv95
          obtain ⟨u100, us101, rfl, h102, hv103⟩ := repL_uncons hv99
          obtain rfl := of_v h102
          obtain rfl := repL_empty hv103
          refine ⟨_, _, rfl, ?_⟩
          refine ⟨_, _, rfl, ?_⟩
          refine ⟨rfl, ?_⟩
          refine ⟨_, rfl, ?_⟩
          refine ⟨_, rfl, ?_⟩
          refine ⟨(by show 2 ≤ sizeLine; decide), ?_⟩
          intro p104 n108
          have e105 := Rx.Ext.new (H := H93) (o := (HO.lst [V.str ("values" : Str), V.int r89.2])) n108
          have hp106 : upd H93 p104 (HO.lst [V.str ("values" : Str), V.int r89.2]) p104 = some (HO.lst [V.str ("values" : Str), V.int r89.2]) := upd_same
          generalize upd H93 p104 (HO.lst [V.str ("values" : Str), V.int r89.2]) = H109 at e105 hp106 ⊢
          have h107 : rep ms H109 (D.lst (([(D.v (V.str ("values" : Str))), (D.v (V.int r89.2))] : List D).map (fun y_ : D => y_))) (.ref p104) := rep_lst_mk hW n108 e105 hp106 (repL_cons rep_v (repL_cons rep_v repL_nil))
          replace h4 := rep_ext e105 h4
          replace h41 := rep_ext e105 h41
          replace h85 := rep_ext e105 h85
          replace h90 := rep_ext e105 h90
          replace h98 := rep_ext e105 h98
          replace hW := hW.ret0 e105
          refine ⟨_, rfl, ?_⟩
          apply rep_lenSq (f := (fun y_ : D => y_)) (m := r89.1) h98
          refine ⟨(by show 3 ≤ sizeLine; decide), ?_⟩
          intro p110 n114
          have e111 := Rx.Ext.new (H := H109) (o := (HO.tup [u96, (V.ref p104), V.int (r89.1.2.length : Int)])) n114
          have hp112 : upd H109 p110 (HO.tup [u96, (V.ref p104), V.int (r89.1.2.length : Int)]) p110 = some (HO.tup [u96, (V.ref p104), V.int (r89.1.2.length : Int)]) := upd_same
          generalize upd H109 p110 (HO.tup [u96, (V.ref p104), V.int (r89.1.2.length : Int)]) = H115 at e111 hp112 ⊢
          have h113 : rep ms H115 (D.tup [(eSq (fun y_ : D => y_) r89.1), (D.lst (([(D.v (V.str ("values" : Str))), (D.v (V.int r89.2))] : List D).map (fun y_ : D => y_))), (D.v (V.int (r89.1.2.length : Int)))]) (.ref p110) := rep_tup_mk hW n114 e111 hp112 (repL_cons h98 (repL_cons h107 (repL_cons rep_v repL_nil)))
          replace h4 := rep_ext e111 h4
          replace h41 := rep_ext e111 h41
          replace h85 := rep_ext e111 h85
          replace h90 := rep_ext e111 h90
          replace h98 := rep_ext e111 h98
          replace h107 := rep_ext e111 h107
          replace hW := hW.ret0 e111
          exact hQ ((eSq (fun y_ : D => y_) r89.1), (some ([(D.v (V.str ("values" : Str))), (D.v (V.int r89.2))] : List D)), (r89.1.2.length : Int)) _ _ hM hW.out h113
        · skip
          refine ⟨_, rfl, ?_⟩
          refine ⟨rfl, ?_⟩
          refine ⟨_, rfl, ?_⟩
          refine ite3 hM (fun hM => ?_) (fun hM => ?_)
          · skip
            refine ⟨_, rfl, ?_⟩
            refine ⟨(by show 1 ≤ sizeLine; decide), ?_⟩
            intro p116 n120
            have e117 := Rx.Ext.new (H := H46) (o := (HO.lst [V.int (0 : Int)])) n120
            have hp118 : upd H46 p116 (HO.lst [V.int (0 : Int)]) p116 = some (HO.lst [V.int (0 : Int)]) := upd_same
            generalize upd H46 p116 (HO.lst [V.int (0 : Int)]) = H121 at e117 hp118 ⊢
            have h119 : rep ms H121 (D.lst (([(0 : Int)] : List Int).map (fun y_ : Int => (D.v (V.int y_))))) (.ref p116) := rep_lst_mk hW n120 e117 hp118 (repL_cons rep_v repL_nil)
            replace h4 := rep_ext e117 h4
            replace h41 := rep_ext e117 h41
            replace hW := hW.ret0 e117
            refine ⟨_, rfl, ?_⟩
            apply rep_lenL (e := (fun y_ : Int => (D.v (V.int y_)))) (xs := ys39) h41
            refine ⟨_, _, rfl, rfl, ?_⟩
            obtain ⟨g122, hM⟩ := hM
            apply rep_mulX (k := ((201 : Int) - (ys39.length : Int))) (e := (fun y_ : Int => (D.v (V.int y_)))) (xs := ([(0 : Int)] : List Int)) h119 rfl g122
            intro vs123 hr124
            intro p125 n129
            have e126 := Rx.Ext.new (H := H121) (o := (HO.lst (vs123))) n129
            have hp127 : upd H121 p125 (HO.lst (vs123)) p125 = some (HO.lst (vs123)) := upd_same
            generalize upd H121 p125 (HO.lst (vs123)) = H130 at e126 hp127 ⊢
            have h128 : rep ms H130 (D.lst ((List.flatten (List.replicate (Int.toNat ((201 : Int) - (ys39.length : Int))) ([(0 : Int)] : List Int))).map (fun y_ : Int => (D.v (V.int y_))))) (.ref p125) := rep_lst_mk hW n129 e126 hp127 hr124
            replace h4 := rep_ext e126 h4
            replace h41 := rep_ext e126 h41
            replace h119 := rep_ext e126 h119
            replace hW := hW.ret0 e126
            obtain ⟨g131, hM⟩ := hM
            apply rep_cat (xs := ys39) (ys := (List.flatten (List.replicate (Int.toNat ((201 : Int) - (ys39.length : Int))) ([(0 : Int)] : List Int)))) (e := (fun y_ : Int => (D.v (V.int y_)))) hW h41 h128 g131
            intro p132 H135 e134 h133
            replace h4 := rep_ext e134 h4
            replace h41 := rep_ext e134 h41
            replace h119 := rep_ext e134 h119
            replace h128 := rep_ext e134 h128
            replace hW := hW.ret0 e134
            obtain ⟨KB136, hM, hKKB136⟩ := hM
            refine ⟨fun v H1 => ∃ r : (Bool × List Int), KB136 r ∧ Wd ms [(ap, none)] [] H_0 H1 ∧ Keep ms H135 H1 ∧ rep ms H1 (eSq (fun y_ : Int => (D.v (V.int y_))) r) v, ?_, ?_⟩
            · skip
              have hj138 := Keep.refl (ms := ms) (H := H135)
              refine ⟨_, rfl, ?_⟩
              refine ⟨ms, ap, (2 : Int), _, rfl, hW.enterP, hM, fun r139 u142 H143 hM e141 h140 => ?_⟩
              replace h4 := rep_ret hW e141 h4
              replace h41 := rep_ret hW e141 h41
              replace h119 := rep_ret hW e141 h119
              replace h128 := rep_ret hW e141 h128
              replace h133 := rep_ret hW e141 h133
              replace hj138 := keep_ret hW e141 hj138
              replace hW := hW.retP e141
              obtain rfl := of_v h140
              refine ⟨rfl, ?_⟩
              refine ⟨_, rfl, ?_⟩
              refine ite3 hM (fun hM => ?_) (fun hM => ?_)
              · skip
                refine ⟨_, rfl, ?_⟩
                exact ⟨((false, (ys39 ++ (List.flatten (List.replicate (Int.toNat ((201 : Int) - (ys39.length : Int))) ([(0 : Int)] : List Int))))) : (Bool × List Int)), hM, hW, hj138, (rep_sqL h133)⟩
              · skip
                refine ⟨_, rfl, ?_⟩
                apply rep_tupOf (ds := (ys39 ++ (List.flatten (List.replicate (Int.toNat ((201 : Int) - (ys39.length : Int))) ([(0 : Int)] : List Int)))).map (fun y_ : Int => (D.v (V.int y_)))) h133
                intro ys144 hr145
                intro p146 np147
                have e148 := Rx.Ext.new (H := H143) (o := (HO.tup ys144)) np147
                have hp149 : upd H143 p146 (HO.tup ys144) p146 = some (HO.tup ys144) := upd_same
                generalize upd H143 p146 (HO.tup ys144) = H151 at e148 hp149 ⊢
                have h150 : rep ms H151 (D.tup ((ys39 ++ (List.flatten (List.replicate (Int.toNat ((201 : Int) - (ys39.length : Int))) ([(0 : Int)] : List Int)))).map (fun y_ : Int => (D.v (V.int y_))))) (.ref p146) := rep_tup_mk hW np147 e148 hp149 hr145
                replace h4 := rep_ext e148 h4
                replace h41 := rep_ext e148 h41
                replace h119 := rep_ext e148 h119
                replace h128 := rep_ext e148 h128
                replace h133 := rep_ext e148 h133
                replace hj138 := keep_ext e148 hj138
                replace hW := hW.ret0 e148
                exact ⟨((true, (ys39 ++ (List.flatten (List.replicate (Int.toNat ((201 : Int) - (ys39.length : Int))) ([(0 : Int)] : List Int))))) : (Bool × List Int)), hM, hW, hj138, (rep_sqT h150)⟩
            · skip
              rintro u154 Hj137 ⟨r152, hr, hW, hj138, h153⟩
              replace hM := hKKB136 r152 hr
              replace h4 := rep_keep hj138 h4
              replace h41 := rep_keep hj138 h41
              replace h119 := rep_keep hj138 h119
              replace h128 := rep_keep hj138 h128
              replace h133 := rep_keep hj138 h133
              refine ⟨_, rfl, ?_⟩
              apply rep_lenL (e := (fun y_ : Int => (D.v (V.int y_)))) (xs := (ys39 ++ (List.flatten (List.replicate (Int.toNat ((201 : Int) - (ys39.length : Int))) ([(0 : Int)] : List Int))))) h133
              refine ⟨(by show 3 ≤ sizeLine; decide), ?_⟩
              intro p155 n159
              have e156 := Rx.Ext.new (H := Hj137) (o := (HO.tup [u154, V.non, V.int ((ys39 ++ (List.flatten (List.replicate (Int.toNat ((201 : Int) - (ys39.length : Int))) ([(0 : Int)] : List Int)))).length : Int)])) n159
              have hp157 : upd Hj137 p155 (HO.tup [u154, V.non, V.int ((ys39 ++ (List.flatten (List.replicate (Int.toNat ((201 : Int) - (ys39.length : Int))) ([(0 : Int)] : List Int)))).length : Int)]) p155 = some (HO.tup [u154, V.non, V.int ((ys39 ++ (List.flatten (List.replicate (Int.toNat ((201 : Int) - (ys39.length : Int))) ([(0 : Int)] : List Int)))).length : Int)]) := upd_same
              generalize upd Hj137 p155 (HO.tup [u154, V.non, V.int ((ys39 ++ (List.flatten (List.replicate (Int.toNat ((201 : Int) - (ys39.length : Int))) ([(0 : Int)] : List Int)))).length : Int)]) = H160 at e156 hp157 ⊢
              have h158 : rep ms H160 (D.tup [(eSq (fun y_ : Int => (D.v (V.int y_))) r152), (D.v V.non), (D.v (V.int ((ys39 ++ (List.flatten (List.replicate (Int.toNat ((201 : Int) - (ys39.length : Int))) ([(0 : Int)] : List Int)))).length : Int)))]) (.ref p155) := rep_tup_mk hW n159 e156 hp157 (repL_cons h153 (repL_cons rep_v (repL_cons rep_v repL_nil)))
              replace h4 := rep_ext e156 h4
              replace h41 := rep_ext e156 h41
              replace h119 := rep_ext e156 h119
              replace h128 := rep_ext e156 h128
              replace h133 := rep_ext e156 h133
              replace h153 := rep_ext e156 h153
              replace hW := hW.ret0 e156
              exact hQ ((eSq (fun y_ : Int => (D.v (V.int y_))) r152), (none : (Option (List D))), ((ys39 ++ (List.flatten (List.replicate (Int.toNat ((201 : Int) - (ys39.length : Int))) ([(0 : Int)] : List Int)))).length : Int)) _ _ hM hW.out h158
          · skip
            obtain ⟨KB161, hM, hKKB161⟩ := hM
            refine ⟨fun v H1 => ∃ r : (Bool × List Int), KB161 r ∧ Wd ms [(ap, none)] [] H_0 H1 ∧ Keep ms H46 H1 ∧ rep ms H1 (eSq (fun y_ : Int => (D.v (V.int y_))) r) v, ?_, ?_⟩
            · skip
              have hj163 := Keep.refl (ms := ms) (H := H46)
              refine ⟨_, rfl, ?_⟩
              refine ⟨ms, ap, (2 : Int), _, rfl, hW.enterP, hM, fun r164 u167 H168 hM e166 h165 => ?_⟩
              replace h4 := rep_ret hW e166 h4
              replace h41 := rep_ret hW e166 h41
              replace hj163 := keep_ret hW e166 hj163
              replace hW := hW.retP e166
              obtain rfl := of_v h165
              refine ⟨rfl, ?_⟩
              refine ⟨_, rfl, ?_⟩
              refine ite3 hM (fun hM => ?_) (fun hM => ?_)
              · skip
                refine ⟨_, rfl, ?_⟩
                exact ⟨((false, ys39) : (Bool × List Int)), hM, hW, hj163, (rep_sqL h41)⟩
              · skip
                refine ⟨_, rfl, ?_⟩
                apply rep_tupOf (ds := ys39.map (fun y_ : Int => (D.v (V.int y_)))) h41
                intro ys169 hr170
                intro p171 np172
                have e173 := Rx.Ext.new (H := H168) (o := (HO.tup ys169)) np172
                have hp174 : upd H168 p171 (HO.tup ys169) p171 = some (HO.tup ys169) := upd_same
                generalize upd H168 p171 (HO.tup ys169) = H176 at e173 hp174 ⊢
                have h175 : rep ms H176 (D.tup (ys39.map (fun y_ : Int => (D.v (V.int y_))))) (.ref p171) := rep_tup_mk hW np172 e173 hp174 hr170
                replace h4 := rep_ext e173 h4
                replace h41 := rep_ext e173 h41
                replace hj163 := keep_ext e173 hj163
                replace hW := hW.ret0 e173
                exact ⟨((true, ys39) : (Bool × List Int)), hM, hW, hj163, (rep_sqT h175)⟩
            · skip
              rintro u179 Hj162 ⟨r177, hr, hW, hj163, h178⟩
              replace hM := hKKB161 r177 hr
              replace h4 := rep_keep hj163 h4
              replace h41 := rep_keep hj163 h41
              refine ⟨_, rfl, ?_⟩
              apply rep_lenL (e := (fun y_ : Int => (D.v (V.int y_)))) (xs := ys39) h41
              refine ⟨(by show 3 ≤ sizeLine; decide), ?_⟩
              intro p180 n184
              have e181 := Rx.Ext.new (H := Hj162) (o := (HO.tup [u179, V.non, V.int (ys39.length : Int)])) n184
              have hp182 : upd Hj162 p180 (HO.tup [u179, V.non, V.int (ys39.length : Int)]) p180 = some (HO.tup [u179, V.non, V.int (ys39.length : Int)]) := upd_same
              generalize upd Hj162 p180 (HO.tup [u179, V.non, V.int (ys39.length : Int)]) = H185 at e181 hp182 ⊢
              have h183 : rep ms H185 (D.tup [(eSq (fun y_ : Int => (D.v (V.int y_))) r177), (D.v V.non), (D.v (V.int (ys39.length : Int)))]) (.ref p180) := rep_tup_mk hW n184 e181 hp182 (repL_cons h178 (repL_cons rep_v (repL_cons rep_v repL_nil)))
              replace h4 := rep_ext e181 h4
              replace h41 := rep_ext e181 h41
              replace h178 := rep_ext e181 h178
              replace hW := hW.ret0 e181
              exact hQ ((eSq (fun y_ : Int => (D.v (V.int y_))) r177), (none : (Option (List D))), (ys39.length : Int)) _ _ hM hW.out h183
def M_no_row (KM : D → Prop) : Prop :=
  (M_no_integer  fun r61 => (M_no_integer  fun r66 => (([(D.tup []), (D.tup [(D.v (V.int ((1 : Int), (2 : Int)).1)), (D.v (V.int ((1 : Int), (2 : Int)).2))]), (D.tup [(D.v (V.int ((1 : Int), (2 : Int), (3 : Int), (4 : Int)).1)), (D.v (V.int ((1 : Int), (2 : Int), (3 : Int), (4 : Int)).2.1)), (D.v (V.int ((1 : Int), (2 : Int), (3 : Int), (4 : Int)).2.2.1)), (D.v (V.int ((1 : Int), (2 : Int), (3 : Int), (4 : Int)).2.2.2))]), (D.lst (([(1 : Int), (2 : Int), (3 : Int)] : List Int).map (fun y_ : Int => (D.v (V.int y_))))), (D.v (V.str ("123" : Str))), (D.tup [(D.v (V.int ((1 : Int), (2 : Int), ()).1)), (D.v (V.int ((1 : Int), (2 : Int), ()).2.1)), (D.v V.non)]), (D.tup [(D.v (V.int ((1 : Int), true, (3 : Int)).1)), (D.v (V.bl ((1 : Int), true, (3 : Int)).2.1)), (D.v (V.int ((1 : Int), true, (3 : Int)).2.2))]), (D.tup [(D.v (V.str (("1" : Str), (2 : Int), (3 : Int)).1)), (D.v (V.int (("1" : Str), (2 : Int), (3 : Int)).2.1)), (D.v (V.int (("1" : Str), (2 : Int), (3 : Int)).2.2))]), (D.tup [(D.v (V.int ((1 : Int), (2 : Int), (3 : Int)).1)), (D.v (V.int ((1 : Int), (2 : Int), (3 : Int)).2.1)), (D.tup [(D.v (V.int ((1 : Int), (2 : Int), (3 : Int)).2.2))])]), (D.v (V.int (5 : Int)))] : List D).length + ([r61, (D.tup [(r66, (0 : Int), (0 : Int)).1, (D.v (V.int (r66, (0 : Int), (0 : Int)).2.1)), (D.v (V.int (r66, (0 : Int), (0 : Int)).2.2))])] : List D).length ≤ sizeLine ∧ (M_pick_plD (([(D.tup []), (D.tup [(D.v (V.int ((1 : Int), (2 : Int)).1)), (D.v (V.int ((1 : Int), (2 : Int)).2))]), (D.tup [(D.v (V.int ((1 : Int), (2 : Int), (3 : Int), (4 : Int)).1)), (D.v (V.int ((1 : Int), (2 : Int), (3 : Int), (4 : Int)).2.1)), (D.v (V.int ((1 : Int), (2 : Int), (3 : Int), (4 : Int)).2.2.1)), (D.v (V.int ((1 : Int), (2 : Int), (3 : Int), (4 : Int)).2.2.2))]), (D.lst (([(1 : Int), (2 : Int), (3 : Int)] : List Int).map (fun y_ : Int => (D.v (V.int y_))))), (D.v (V.str ("123" : Str))), (D.tup [(D.v (V.int ((1 : Int), (2 : Int), ()).1)), (D.v (V.int ((1 : Int), (2 : Int), ()).2.1)), (D.v V.non)]), (D.tup [(D.v (V.int ((1 : Int), true, (3 : Int)).1)), (D.v (V.bl ((1 : Int), true, (3 : Int)).2.1)), (D.v (V.int ((1 : Int), true, (3 : Int)).2.2))]), (D.tup [(D.v (V.str (("1" : Str), (2 : Int), (3 : Int)).1)), (D.v (V.int (("1" : Str), (2 : Int), (3 : Int)).2.1)), (D.v (V.int (("1" : Str), (2 : Int), (3 : Int)).2.2))]), (D.tup [(D.v (V.int ((1 : Int), (2 : Int), (3 : Int)).1)), (D.v (V.int ((1 : Int), (2 : Int), (3 : Int)).2.1)), (D.tup [(D.v (V.int ((1 : Int), (2 : Int), (3 : Int)).2.2))])]), (D.v (V.int (5 : Int)))] : List D) ++ ([r61, (D.tup [(r66, (0 : Int), (0 : Int)).1, (D.v (V.int (r66, (0 : Int), (0 : Int)).2.1)), (D.v (V.int (r66, (0 : Int), (0 : Int)).2.2))])] : List D)) fun r88 => (KM r88)))))
def sp_no_row (A : Ad) : Sp := fun vs H Q _ => ∃ (ms : List Addr) (ap : Addr) (KM : D → Prop), vs = [.ref ap] ∧ Wd ms [(ap, none)] [] H H ∧ M_no_row  KM ∧ ∀ (r : D) (u : V) (H1 : Hp), KM r → Ret [(ap, none)] H H1 → rep ms H1 r u → Q u H1
set_option maxHeartbeats 16000000 in
theorem ok_no_row {P : Program} {w : World} {K : PySem.W.Frag} {mg : Str → Option Value} {base : Heap} {A : Ad} (T : Txt w K mg base A) : FnOk P w K mg base CX0 4 A.a_no_row A.d_no_row ["_law_pot_here"] (sp_no_row A) := by
  refine T.F_no_row.ok sc_no_row (fun vs H Q E h => ?_) (fun cdv A_ outer s_ H_0 vs Q E hr h => ?_)
  · obtain ⟨ms, ap, KM, rfl, _⟩ := h
    rfl
  · obtain ⟨ms, ap, KM, rfl, hW, hM, hQ⟩ := h
    unfold M_no_row at hM
    refine ⟨_, (pss_cons (ps_set (i := 1) sc_no_row.nd rfl (by first | exact Or.inl rfl | exact Or.inr rfl) (pe_lst (pa_cons (pe_tup pa_nil) (pa_cons (pe_tup (pa_cons pe_int (pa_cons pe_int pa_nil))) (pa_cons (pe_tup (pa_cons pe_int (pa_cons pe_int (pa_cons pe_int (pa_cons pe_int pa_nil))))) (pa_cons (pe_lst (pa_cons pe_int (pa_cons pe_int (pa_cons pe_int pa_nil)))) (pa_cons pe_str (pa_cons (pe_tup (pa_cons pe_int (pa_cons pe_int (pa_cons pe_non pa_nil)))) (pa_cons (pe_tup (pa_cons pe_int (pa_cons pe_bl (pa_cons pe_int pa_nil)))) (pa_cons (pe_tup (pa_cons pe_str (pa_cons pe_int (pa_cons pe_int pa_nil)))) (pa_cons (pe_tup (pa_cons pe_int (pa_cons pe_int (pa_cons (pe_tup (pa_cons pe_int pa_nil)) pa_nil)))) (pa_cons pe_int pa_nil)))))))))))) (pss_one (ps_ret (pe_call (ok_pick_plD T) (hr.mono (by decide)) (by rfl) T.g_pick T.F_pick.kp T.b_pick .nil pass0 (pa_cons (pv 0) (pa_cons (pe_op op_cat (pv 1) (pe_lst (pa_cons (pe_call (ok_no_integer T) (hr.mono (by decide)) (by rfl) T.g_no_integer T.F_no_integer.kp T.b_no_integer .nil pass0 (pa_cons (pv 0) pa_nil)) (pa_cons (pe_tup (pa_cons (pe_call (ok_no_integer T) (hr.mono (by decide)) (by rfl) T.g_no_integer T.F_no_integer.kp T.b_no_integer .nil pass0 (pa_cons (pv 0) pa_nil)) (pa_cons pe_int (pa_cons pe_int pa_nil)))) pa_nil)))) pa_nil)))))), ?_⟩
    refine ⟨(by show 0 ≤ sizeLine; decide), ?_⟩
    intro p1 n5
    have e2 := Rx.Ext.new (H := H_0) (o := (HO.tup [])) n5
    have hp3 : upd H_0 p1 (HO.tup []) p1 = some (HO.tup []) := upd_same
    generalize upd H_0 p1 (HO.tup []) = H6 at e2 hp3 ⊢
    have h4 : rep ms H6 (D.tup []) (.ref p1) := rep_tup_mk hW n5 e2 hp3 repL_nil
    replace hW := hW.ret0 e2
    refine ⟨(by show 2 ≤ sizeLine; decide), ?_⟩
    intro p7 n11
    have e8 := Rx.Ext.new (H := H6) (o := (HO.tup [V.int (1 : Int), V.int (2 : Int)])) n11
    have hp9 : upd H6 p7 (HO.tup [V.int (1 : Int), V.int (2 : Int)]) p7 = some (HO.tup [V.int (1 : Int), V.int (2 : Int)]) := upd_same
    generalize upd H6 p7 (HO.tup [V.int (1 : Int), V.int (2 : Int)]) = H12 at e8 hp9 ⊢
    have h10 : rep ms H12 (D.tup [(D.v (V.int (1 : Int))), (D.v (V.int (2 : Int)))]) (.ref p7) := rep_tup_mk hW n11 e8 hp9 (repL_cons rep_v (repL_cons rep_v repL_nil))
    replace h4 := rep_ext e8 h4
    replace hW := hW.ret0 e8
    refine ⟨(by show 4 ≤ sizeLine; decide), ?_⟩
    intro p13 n17
    have e14 := Rx.Ext.new (H := H12) (o := (HO.tup [V.int (1 : Int), V.int (2 : Int), V.int (3 : Int), V.int (4 : Int)])) n17
    have hp15 : upd H12 p13 (HO.tup [V.int (1 : Int), V.int (2 : Int), V.int (3 : Int), V.int (4 : Int)]) p13 = some (HO.tup [V.int (1 : Int), V.int (2 : Int), V.int (3 : Int), V.int (4 : Int)]) := upd_same
    generalize upd H12 p13 (HO.tup [V.int (1 : Int), V.int (2 : Int), V.int (3 : Int), V.int (4 : Int)]) = H18 at e14 hp15 ⊢
    have h16 : rep ms H18 (D.tup [(D.v (V.int (1 : Int))), (D.v (V.int (2 : Int))), (D.v (V.int (3 : Int))), (D.v (V.int (4 : Int)))]) (.ref p13) := rep_tup_mk hW n17 e14 hp15 (repL_cons rep_v (repL_cons rep_v (repL_cons rep_v (repL_cons rep_v repL_nil))))
    replace h4 := rep_ext e14 h4
    replace h10 := rep_ext e14 h10
    replace hW := hW.ret0 e14
    refine ⟨(by show 3 ≤ sizeLine; decide), ?_⟩
    intro p19 n23
    have e20 := Rx.Ext.new (H := H18) (o := (HO.lst [V.int (1 : Int), V.int (2 : Int), V.int (3 : Int)])) n23
    have hp21 : upd H18 p19 (HO.lst [V.int (1 : Int), V.int (2 : Int), V.int (3 : Int)]) p19 = some (HO.lst [V.int (1 : Int), V.int (2 : Int), V.int (3 : Int)]) := upd_same
    generalize upd H18 p19 (HO.lst [V.int (1 : Int), V.int (2 : Int), V.int (3 : Int)]) = H24 at e20 hp21 ⊢
    have h22 : rep ms H24 (D.lst (([(1 : Int), (2 : Int), (3 : Int)] : List Int).map (fun y_ : Int => (D.v (V.int y_))))) (.ref p19) := rep_lst_mk hW n23 e20 hp21 (repL_cons rep_v (repL_cons rep_v (repL_cons rep_v repL_nil)))
    replace h4 := rep_ext e20 h4
    replace h10 := rep_ext e20 h10
    replace h16 := rep_ext e20 h16
    replace hW := hW.ret0 e20
    refine ⟨(by show 3 ≤ sizeLine; decide), ?_⟩
    intro p25 n29
    have e26 := Rx.Ext.new (H := H24) (o := (HO.tup [V.int (1 : Int), V.int (2 : Int), V.non])) n29
    have hp27 : upd H24 p25 (HO.tup [V.int (1 : Int), V.int (2 : Int), V.non]) p25 = some (HO.tup [V.int (1 : Int), V.int (2 : Int), V.non]) := upd_same
    generalize upd H24 p25 (HO.tup [V.int (1 : Int), V.int (2 : Int), V.non]) = H30 at e26 hp27 ⊢
    have h28 : rep ms H30 (D.tup [(D.v (V.int (1 : Int))), (D.v (V.int (2 : Int))), (D.v V.non)]) (.ref p25) := rep_tup_mk hW n29 e26 hp27 (repL_cons rep_v (repL_cons rep_v (repL_cons rep_v repL_nil)))
    replace h4 := rep_ext e26 h4
    replace h10 := rep_ext e26 h10
    replace h16 := rep_ext e26 h16
    replace h22 := rep_ext e26 h22
    replace hW := hW.ret0 e26
    refine ⟨(by show 3 ≤ sizeLine; decide), ?_⟩
    intro p31 n35
    have e32 := Rx.Ext.new (H := H30) (o := (HO.tup [V.int (1 : Int), V.bl true, V.int (3 : Int)])) n35
    have hp33 : upd H30 p31 (HO.tup [V.int (1 : Int), V.bl true, V.int (3 : Int)]) p31 = some (HO.tup [V.int (1 : Int), V.bl true, V.int (3 : Int)]) := upd_same
    generalize upd H30 p31 (HO.tup [V.int (1 : Int), V.bl true, V.int (3 : Int)]) = H36 at e32 hp33 ⊢
    have h34 : rep ms H36 (D.tup [(D.v (V.int (1 : Int))), (D.v (V.bl true)), (D.v (V.int (3 : Int)))]) (.ref p31) := rep_tup_mk hW n35 e32 hp33 (repL_cons rep_v (repL_cons rep_v (repL_cons rep_v repL_nil)))
    replace h4 := rep_ext e32 h4
    replace h10 := rep_ext e32 h10
    replace h16 := rep_ext e32 h16
    replace h22 := rep_ext e32 h22
    replace h28 := rep_ext e32 h28
    replace hW := hW.ret0 e32
    refine ⟨(by show 3 ≤ sizeLine; decide), ?_⟩
    intro p37 n41
    have e38 := Rx.Ext.new (H := H36) (o := (HO.tup [V.str ("1" : Str), V.int (2 : Int), V.int (3 : Int)])) n41
    have hp39 : upd H36 p37 (HO.tup [V.str ("1" : Str), V.int (2 : Int), V.int (3 : Int)]) p37 = some (HO.tup [V.str ("1" : Str), V.int (2 : Int), V.int (3 : Int)]) := upd_same
    generalize upd H36 p37 (HO.tup [V.str ("1" : Str), V.int (2 : Int), V.int (3 : Int)]) = H42 at e38 hp39 ⊢
    have h40 : rep ms H42 (D.tup [(D.v (V.str ("1" : Str))), (D.v (V.int (2 : Int))), (D.v (V.int (3 : Int)))]) (.ref p37) := rep_tup_mk hW n41 e38 hp39 (repL_cons rep_v (repL_cons rep_v (repL_cons rep_v repL_nil)))
    replace h4 := rep_ext e38 h4
    replace h10 := rep_ext e38 h10
    replace h16 := rep_ext e38 h16
    replace h22 := rep_ext e38 h22
    replace h28 := rep_ext e38 h28
    replace h34 := rep_ext e38 h34
    replace hW := hW.ret0 e38
    refine ⟨(by show 1 ≤ sizeLine; decide), ?_⟩
    intro p43 n47
    have e44 := Rx.Ext.new (H := H42) (o := (HO.tup [V.int (3 : Int)])) n47
    have hp45 : upd H42 p43 (HO.tup [V.int (3 : Int)]) p43 = some (HO.tup [V.int (3 : Int)]) := upd_same
    generalize upd H42 p43 (HO.tup [V.int (3 : Int)]) = H48 at e44 hp45 ⊢
    have h46 : rep ms H48 (D.tup [(D.v (V.int (3 : Int)))]) (.ref p43) := rep_tup_mk hW n47 e44 hp45 (repL_cons rep_v repL_nil)
    replace h4 := rep_ext e44 h4
    replace h10 := rep_ext e44 h10
    replace h16 := rep_ext e44 h16
    replace h22 := rep_ext e44 h22
    replace h28 := rep_ext e44 h28
    replace h34 := rep_ext e44 h34
    replace h40 := rep_ext e44 h40
    replace hW := hW.ret0 e44
    refine ⟨(by show 3 ≤ sizeLine; decide), ?_⟩
    intro p49 n53
    have e50 := Rx.Ext.new (H := H48) (o := (HO.tup [V.int (1 : Int), V.int (2 : Int), (V.ref p43)])) n53
    have hp51 : upd H48 p49 (HO.tup [V.int (1 : Int), V.int (2 : Int), (V.ref p43)]) p49 = some (HO.tup [V.int (1 : Int), V.int (2 : Int), (V.ref p43)]) := upd_same
    generalize upd H48 p49 (HO.tup [V.int (1 : Int), V.int (2 : Int), (V.ref p43)]) = H54 at e50 hp51 ⊢
    have h52 : rep ms H54 (D.tup [(D.v (V.int (1 : Int))), (D.v (V.int (2 : Int))), (D.tup [(D.v (V.int (3 : Int)))])]) (.ref p49) := rep_tup_mk hW n53 e50 hp51 (repL_cons rep_v (repL_cons rep_v (repL_cons h46 repL_nil)))
    replace h4 := rep_ext e50 h4
    replace h10 := rep_ext e50 h10
    replace h16 := rep_ext e50 h16
    replace h22 := rep_ext e50 h22
    replace h28 := rep_ext e50 h28
    replace h34 := rep_ext e50 h34
    replace h40 := rep_ext e50 h40
    replace h46 := rep_ext e50 h46
    replace hW := hW.ret0 e50
    refine ⟨(by show 10 ≤ sizeLine; decide), ?_⟩
    intro p55 n59
    have e56 := Rx.Ext.new (H := H54) (o := (HO.lst [(V.ref p1), (V.ref p7), (V.ref p13), (V.ref p19), V.str ("123" : Str), (V.ref p25), (V.ref p31), (V.ref p37), (V.ref p49), V.int (5 : Int)])) n59
    have hp57 : upd H54 p55 (HO.lst [(V.ref p1), (V.ref p7), (V.ref p13), (V.ref p19), V.str ("123" : Str), (V.ref p25), (V.ref p31), (V.ref p37), (V.ref p49), V.int (5 : Int)]) p55 = some (HO.lst [(V.ref p1), (V.ref p7), (V.ref p13), (V.ref p19), V.str ("123" : Str), (V.ref p25), (V.ref p31), (V.ref p37), (V.ref p49), V.int (5 : Int)]) := upd_same
    generalize upd H54 p55 (HO.lst [(V.ref p1), (V.ref p7), (V.ref p13), (V.ref p19), V.str ("123" : Str), (V.ref p25), (V.ref p31), (V.ref p37), (V.ref p49), V.int (5 : Int)]) = H60 at e56 hp57 ⊢
    have h58 : rep ms H60 (D.lst (([(D.tup []), (D.tup [(D.v (V.int ((1 : Int), (2 : Int)).1)), (D.v (V.int ((1 : Int), (2 : Int)).2))]), (D.tup [(D.v (V.int ((1 : Int), (2 : Int), (3 : Int), (4 : Int)).1)), (D.v (V.int ((1 : Int), (2 : Int), (3 : Int), (4 : Int)).2.1)), (D.v (V.int ((1 : Int), (2 : Int), (3 : Int), (4 : Int)).2.2.1)), (D.v (V.int ((1 : Int), (2 : Int), (3 : Int), (4 : Int)).2.2.2))]), (D.lst (([(1 : Int), (2 : Int), (3 : Int)] : List Int).map (fun y_ : Int => (D.v (V.int y_))))), (D.v (V.str ("123" : Str))), (D.tup [(D.v (V.int ((1 : Int), (2 : Int), ()).1)), (D.v (V.int ((1 : Int), (2 : Int), ()).2.1)), (D.v V.non)]), (D.tup [(D.v (V.int ((1 : Int), true, (3 : Int)).1)), (D.v (V.bl ((1 : Int), true, (3 : Int)).2.1)), (D.v (V.int ((1 : Int), true, (3 : Int)).2.2))]), (D.tup [(D.v (V.str (("1" : Str), (2 : Int), (3 : Int)).1)), (D.v (V.int (("1" : Str), (2 : Int), (3 : Int)).2.1)), (D.v (V.int (("1" : Str), (2 : Int), (3 : Int)).2.2))]), (D.tup [(D.v (V.int ((1 : Int), (2 : Int), (3 : Int)).1)), (D.v (V.int ((1 : Int), (2 : Int), (3 : Int)).2.1)), (D.tup [(D.v (V.int ((1 : Int), (2 : Int), (3 : Int)).2.2))])]), (D.v (V.int (5 : Int)))] : List D).map (fun y_ : D => y_))) (.ref p55) := rep_lst_mk hW n59 e56 hp57 (repL_cons h4 (repL_cons h10 (repL_cons h16 (repL_cons h22 (repL_cons rep_v (repL_cons h28 (repL_cons h34 (repL_cons h40 (repL_cons h52 (repL_cons rep_v repL_nil))))))))))
    replace h4 := rep_ext e56 h4
    replace h10 := rep_ext e56 h10
    replace h16 := rep_ext e56 h16
    replace h22 := rep_ext e56 h22
    replace h28 := rep_ext e56 h28
    replace h34 := rep_ext e56 h34
    replace h40 := rep_ext e56 h40
    replace h46 := rep_ext e56 h46
    replace h52 := rep_ext e56 h52
    replace hW := hW.ret0 e56
    refine ⟨_, rfl, ?_⟩
    refine ⟨_, rfl, ?_⟩
    refine ⟨_, rfl, ?_⟩
    refine ⟨ms, ap, _, rfl, hW.enterP, hM, fun r61 u64 H65 hM e63 h62 => ?_⟩
    replace h4 := rep_ret hW e63 h4
    replace h10 := rep_ret hW e63 h10
    replace h16 := rep_ret hW e63 h16
    replace h22 := rep_ret hW e63 h22
    replace h28 := rep_ret hW e63 h28
    replace h34 := rep_ret hW e63 h34
    replace h40 := rep_ret hW e63 h40
    replace h46 := rep_ret hW e63 h46
    replace h52 := rep_ret hW e63 h52
    replace h58 := rep_ret hW e63 h58
    replace hW := hW.retP e63
    refine ⟨_, rfl, ?_⟩
    refine ⟨ms, ap, _, rfl, hW.enterP, hM, fun r66 u69 H70 hM e68 h67 => ?_⟩
    replace h4 := rep_ret hW e68 h4
    replace h10 := rep_ret hW e68 h10
    replace h16 := rep_ret hW e68 h16
    replace h22 := rep_ret hW e68 h22
    replace h28 := rep_ret hW e68 h28
    replace h34 := rep_ret hW e68 h34
    replace h40 := rep_ret hW e68 h40
    replace h46 := rep_ret hW e68 h46
    replace h52 := rep_ret hW e68 h52
    replace h58 := rep_ret hW e68 h58
    replace h62 := rep_ret hW e68 h62
    replace hW := hW.retP e68
    refine ⟨(by show 3 ≤ sizeLine; decide), ?_⟩
    intro p71 n75
    have e72 := Rx.Ext.new (H := H70) (o := (HO.tup [u69, V.int (0 : Int), V.int (0 : Int)])) n75
    have hp73 : upd H70 p71 (HO.tup [u69, V.int (0 : Int), V.int (0 : Int)]) p71 = some (HO.tup [u69, V.int (0 : Int), V.int (0 : Int)]) := upd_same
    generalize upd H70 p71 (HO.tup [u69, V.int (0 : Int), V.int (0 : Int)]) = H76 at e72 hp73 ⊢
    have h74 : rep ms H76 (D.tup [r66, (D.v (V.int (0 : Int))), (D.v (V.int (0 : Int)))]) (.ref p71) := rep_tup_mk hW n75 e72 hp73 (repL_cons h67 (repL_cons rep_v (repL_cons rep_v repL_nil)))
    replace h4 := rep_ext e72 h4
    replace h10 := rep_ext e72 h10
    replace h16 := rep_ext e72 h16
    replace h22 := rep_ext e72 h22
    replace h28 := rep_ext e72 h28
    replace h34 := rep_ext e72 h34
    replace h40 := rep_ext e72 h40
    replace h46 := rep_ext e72 h46
    replace h52 := rep_ext e72 h52
    replace h58 := rep_ext e72 h58
    replace h62 := rep_ext e72 h62
    replace h67 := rep_ext e72 h67
    replace hW := hW.ret0 e72
    refine ⟨(by show 2 ≤ sizeLine; decide), ?_⟩
    intro p77 n81
    have e78 := Rx.Ext.new (H := H76) (o := (HO.lst [u64, (V.ref p71)])) n81
    have hp79 : upd H76 p77 (HO.lst [u64, (V.ref p71)]) p77 = some (HO.lst [u64, (V.ref p71)]) := upd_same
    generalize upd H76 p77 (HO.lst [u64, (V.ref p71)]) = H82 at e78 hp79 ⊢
    have h80 : rep ms H82 (D.lst (([r61, (D.tup [(r66, (0 : Int), (0 : Int)).1, (D.v (V.int (r66, (0 : Int), (0 : Int)).2.1)), (D.v (V.int (r66, (0 : Int), (0 : Int)).2.2))])] : List D).map (fun y_ : D => y_))) (.ref p77) := rep_lst_mk hW n81 e78 hp79 (repL_cons h62 (repL_cons h74 repL_nil))
    replace h4 := rep_ext e78 h4
    replace h10 := rep_ext e78 h10
    replace h16 := rep_ext e78 h16
    replace h22 := rep_ext e78 h22
    replace h28 := rep_ext e78 h28
    replace h34 := rep_ext e78 h34
    replace h40 := rep_ext e78 h40
    replace h46 := rep_ext e78 h46
    replace h52 := rep_ext e78 h52
    replace h58 := rep_ext e78 h58
    replace h62 := rep_ext e78 h62
    replace h67 := rep_ext e78 h67
    replace h74 := rep_ext e78 h74
    replace hW := hW.ret0 e78
    obtain ⟨g83, hM⟩ := hM
    apply rep_cat (xs := ([(D.tup []), (D.tup [(D.v (V.int ((1 : Int), (2 : Int)).1)), (D.v (V.int ((1 : Int), (2 : Int)).2))]), (D.tup [(D.v (V.int ((1 : Int), (2 : Int), (3 : Int), (4 : Int)).1)), (D.v (V.int ((1 : Int), (2 : Int), (3 : Int), (4 : Int)).2.1)), (D.v (V.int ((1 : Int), (2 : Int), (3 : Int), (4 : Int)).2.2.1)), (D.v (V.int ((1 : Int), (2 : Int), (3 : Int), (4 : Int)).2.2.2))]), (D.lst (([(1 : Int), (2 : Int), (3 : Int)] : List Int).map (fun y_ : Int => (D.v (V.int y_))))), (D.v (V.str ("123" : Str))), (D.tup [(D.v (V.int ((1 : Int), (2 : Int), ()).1)), (D.v (V.int ((1 : Int), (2 : Int), ()).2.1)), (D.v V.non)]), (D.tup [(D.v (V.int ((1 : Int), true, (3 : Int)).1)), (D.v (V.bl ((1 : Int), true, (3 : Int)).2.1)), (D.v (V.int ((1 : Int), true, (3 : Int)).2.2))]), (D.tup [(D.v (V.str (("1" : Str), (2 : Int), (3 : Int)).1)), (D.v (V.int (("1" : Str), (2 : Int), (3 : Int)).2.1)), (D.v (V.int (("1" : Str), (2 : Int), (3 : Int)).2.2))]), (D.tup [(D.v (V.int ((1 : Int), (2 : Int), (3 : Int)).1)), (D.v (V.int ((1 : Int), (2 : Int), (3 : Int)).2.1)), (D.tup [(D.v (V.int ((1 : Int), (2 : Int), (3 : Int)).2.2))])]), (D.v (V.int (5 : Int)))] : List D)) (ys := ([r61, (D.tup [(r66, (0 : Int), (0 : Int)).1, (D.v (V.int (r66, (0 : Int), (0 : Int)).2.1)), (D.v (V.int (r66, (0 : Int), (0 : Int)).2.2))])] : List D)) (e := (fun y_ : D => y_)) hW h58 h80 g83
    intro p84 H87 e86 h85
    replace h4 := rep_ext e86 h4
    replace h10 := rep_ext e86 h10
    replace h16 := rep_ext e86 h16
    replace h22 := rep_ext e86 h22
    replace h28 := rep_ext e86 h28
    replace h34 := rep_ext e86 h34
    replace h40 := rep_ext e86 h40
    replace h46 := rep_ext e86 h46
    replace h52 := rep_ext e86 h52
    replace h58 := rep_ext e86 h58
    replace h62 := rep_ext e86 h62
    replace h67 := rep_ext e86 h67
    replace h74 := rep_ext e86 h74
    replace h80 := rep_ext e86 h80
    replace hW := hW.ret0 e86
    refine ⟨ms, ap, _, (([(D.tup []), (D.tup [(D.v (V.int ((1 : Int), (2 : Int)).1)), (D.v (V.int ((1 : Int), (2 : Int)).2))]), (D.tup [(D.v (V.int ((1 : Int), (2 : Int), (3 : Int), (4 : Int)).1)), (D.v (V.int ((1 : Int), (2 : Int), (3 : Int), (4 : Int)).2.1)), (D.v (V.int ((1 : Int), (2 : Int), (3 : Int), (4 : Int)).2.2.1)), (D.v (V.int ((1 : Int), (2 : Int), (3 : Int), (4 : Int)).2.2.2))]), (D.lst (([(1 : Int), (2 : Int), (3 : Int)] : List Int).map (fun y_ : Int => (D.v (V.int y_))))), (D.v (V.str ("123" : Str))), (D.tup [(D.v (V.int ((1 : Int), (2 : Int), ()).1)), (D.v (V.int ((1 : Int), (2 : Int), ()).2.1)), (D.v V.non)]), (D.tup [(D.v (V.int ((1 : Int), true, (3 : Int)).1)), (D.v (V.bl ((1 : Int), true, (3 : Int)).2.1)), (D.v (V.int ((1 : Int), true, (3 : Int)).2.2))]), (D.tup [(D.v (V.str (("1" : Str), (2 : Int), (3 : Int)).1)), (D.v (V.int (("1" : Str), (2 : Int), (3 : Int)).2.1)), (D.v (V.int (("1" : Str), (2 : Int), (3 : Int)).2.2))]), (D.tup [(D.v (V.int ((1 : Int), (2 : Int), (3 : Int)).1)), (D.v (V.int ((1 : Int), (2 : Int), (3 : Int)).2.1)), (D.tup [(D.v (V.int ((1 : Int), (2 : Int), (3 : Int)).2.2))])]), (D.v (V.int (5 : Int)))] : List D) ++ ([r61, (D.tup [(r66, (0 : Int), (0 : Int)).1, (D.v (V.int (r66, (0 : Int), (0 : Int)).2.1)), (D.v (V.int (r66, (0 : Int), (0 : Int)).2.2))])] : List D)), _, rfl, hW.enterP, h85, hM, fun r88 u91 H92 hM e90 h89 => ?_⟩
    replace h4 := rep_ret hW e90 h4
    replace h10 := rep_ret hW e90 h10
    replace h16 := rep_ret hW e90 h16
    replace h22 := rep_ret hW e90 h22
    replace h28 := rep_ret hW e90 h28
    replace h34 := rep_ret hW e90 h34
    replace h40 := rep_ret hW e90 h40
    replace h46 := rep_ret hW e90 h46
    replace h52 := rep_ret hW e90 h52
    replace h58 := rep_ret hW e90 h58
    replace h62 := rep_ret hW e90 h62
    replace h67 := rep_ret hW e90 h67
    replace h74 := rep_ret hW e90 h74
    replace h80 := rep_ret hW e90 h80
    replace h85 := rep_ret hW e90 h85
    replace hW := hW.retP e90
    exact hQ r88 _ _ hM hW.out h89
def M_spoilt_pltiiiD (x_right_here : (List (Int × Int × Int))) (x_wrong : D) (KM : ((Bool × List D) × Int) → Prop) : Prop :=
  (M_draw ((x_right_here.length : Int) + (1 : Int)) fun r14 => (((x_right_here.map (fun y_ : (Int × Int × Int) => (D.tup [(D.v (V.int y_.1)), (D.v (V.int y_.2.1)), (D.v (V.int y_.2.2))]))).length < 16777216 ∧ 0 ≤ r14 ∧ r14 < 2 ^ 63) ∧ (M_draw (2 : Int) fun r24 => (if (decide (V.int r24 = V.int (0 : Int))) = true then (M_draw ((((x_right_here.map (fun y_ : (Int × Int × Int) => (D.tup [(D.v (V.int y_.1)), (D.v (V.int y_.2.1)), (D.v (V.int y_.2.2))]))).take (Int.toNat r14) ++ [x_wrong] ++ (x_right_here.map (fun y_ : (Int × Int × Int) => (D.tup [(D.v (V.int y_.1)), (D.v (V.int y_.2.1)), (D.v (V.int y_.2.2))]))).drop (Int.toNat r14)).length : Int) - r14) fun r29 => ((((x_right_here.map (fun y_ : (Int × Int × Int) => (D.tup [(D.v (V.int y_.1)), (D.v (V.int y_.2.1)), (D.v (V.int y_.2.2))]))).take (Int.toNat r14) ++ [x_wrong] ++ (x_right_here.map (fun y_ : (Int × Int × Int) => (D.tup [(D.v (V.int y_.1)), (D.v (V.int y_.2.1)), (D.v (V.int y_.2.2))]))).drop (Int.toNat r14)).length < 16777216 ∧ 0 ≤ ((r14 + (1 : Int)) + r29) ∧ ((r14 + (1 : Int)) + r29) < 2 ^ 63) ∧ (∃ KB40 : (Bool × List D) → Prop, (M_draw (2 : Int) fun r43 => (if (decide (V.int r43 = V.int (0 : Int))) = true then (KB40 ((false, (((x_right_here.map (fun y_ : (Int × Int × Int) => (D.tup [(D.v (V.int y_.1)), (D.v (V.int y_.2.1)), (D.v (V.int y_.2.2))]))).take (Int.toNat r14) ++ [x_wrong] ++ (x_right_here.map (fun y_ : (Int × Int × Int) => (D.tup [(D.v (V.int y_.1)), (D.v (V.int y_.2.1)), (D.v (V.int y_.2.2))]))).drop (Int.toNat r14)).take (Int.toNat ((r14 + (1 : Int)) + r29)) ++ [x_wrong] ++ ((x_right_here.map (fun y_ : (Int × Int × Int) => (D.tup [(D.v (V.int y_.1)), (D.v (V.int y_.2.1)), (D.v (V.int y_.2.2))]))).take (Int.toNat r14) ++ [x_wrong] ++ (x_right_here.map (fun y_ : (Int × Int × Int) => (D.tup [(D.v (V.int y_.1)), (D.v (V.int y_.2.1)), (D.v (V.int y_.2.2))]))).drop (Int.toNat r14)).drop (Int.toNat ((r14 + (1 : Int)) + r29)))) : (Bool × List D))) else (KB40 ((true, (((x_right_here.map (fun y_ : (Int × Int × Int) => (D.tup [(D.v (V.int y_.1)), (D.v (V.int y_.2.1)), (D.v (V.int y_.2.2))]))).take (Int.toNat r14) ++ [x_wrong] ++ (x_right_here.map (fun y_ : (Int × Int × Int) => (D.tup [(D.v (V.int y_.1)), (D.v (V.int y_.2.1)), (D.v (V.int y_.2.2))]))).drop (Int.toNat r14)).take (Int.toNat ((r14 + (1 : Int)) + r29)) ++ [x_wrong] ++ ((x_right_here.map (fun y_ : (Int × Int × Int) => (D.tup [(D.v (V.int y_.1)), (D.v (V.int y_.2.1)), (D.v (V.int y_.2.2))]))).take (Int.toNat r14) ++ [x_wrong] ++ (x_right_here.map (fun y_ : (Int × Int × Int) => (D.tup [(D.v (V.int y_.1)), (D.v (V.int y_.2.1)), (D.v (V.int y_.2.2))]))).drop (Int.toNat r14)).drop (Int.toNat ((r14 + (1 : Int)) + r29)))) : (Bool × List D))))) ∧ ∀ r56 : (Bool × List D), KB40 r56 → (KM (r56, r14))))) else (∃ KB66 : (Bool × List D) → Prop, (M_draw (2 : Int) fun r69 => (if (decide (V.int r69 = V.int (0 : Int))) = true then (KB66 ((false, ((x_right_here.map (fun y_ : (Int × Int × Int) => (D.tup [(D.v (V.int y_.1)), (D.v (V.int y_.2.1)), (D.v (V.int y_.2.2))]))).take (Int.toNat r14) ++ [x_wrong] ++ (x_right_here.map (fun y_ : (Int × Int × Int) => (D.tup [(D.v (V.int y_.1)), (D.v (V.int y_.2.1)), (D.v (V.int y_.2.2))]))).drop (Int.toNat r14))) : (Bool × List D))) else (KB66 ((true, ((x_right_here.map (fun y_ : (Int × Int × Int) => (D.tup [(D.v (V.int y_.1)), (D.v (V.int y_.2.1)), (D.v (V.int y_.2.2))]))).take (Int.toNat r14) ++ [x_wrong] ++ (x_right_here.map (fun y_ : (Int × Int × Int) => (D.tup [(D.v (V.int y_.1)), (D.v (V.int y_.2.1)), (D.v (V.int y_.2.2))]))).drop (Int.toNat r14))) : (Bool × List D))))) ∧ ∀ r82 : (Bool × List D), KB66 r82 → (KM (r82, r14)))))))
def sp_spoilt_pltiiiD (A : Ad) : Sp := fun vs H Q _ => ∃ (ms : List Addr) (ap : Addr) (v_right_here : V) (v_wrong : V) (x_right_here : (List (Int × Int × Int))) (x_wrong : D) (KM : ((Bool × List D) × Int) → Prop), vs = [.ref ap, v_right_here, v_wrong] ∧ Wd ms [(ap, none)] [] H H ∧ rep ms H (D.lst (x_right_here.map (fun y_ : (Int × Int × Int) => (D.tup [(D.v (V.int y_.1)), (D.v (V.int y_.2.1)), (D.v (V.int y_.2.2))])))) v_right_here ∧ rep ms H x_wrong v_wrong ∧ M_spoilt_pltiiiD x_right_here x_wrong KM ∧ ∀ (r : ((Bool × List D) × Int)) (u : V) (H1 : Hp), KM r → Ret [(ap, none)] H H1 → rep ms H1 (D.tup [(eSq (fun y_ : D => y_) r.1), (D.v (V.int r.2))]) u → Q u H1
set_option maxHeartbeats 16000000 in
theorem ok_spoilt_pltiiiD {P : Program} {w : World} {K : PySem.W.Frag} {mg : Str → Option Value} {base : Heap} {A : Ad} (T : Txt w K mg base A) : FnOk P w K mg base CX0 2 A.a_spoilt A.d_spoilt ["_law_pot_here", "_law_right_here", "_law_wrong"] (sp_spoilt_pltiiiD A) := by
  refine T.F_spoilt.ok sc_spoilt (fun vs H Q E h => ?_) (fun cdv A_ outer s_ H_0 vs Q E hr h => ?_)
  · obtain ⟨ms, ap, v_right_here, v_wrong, x_right_here, x_wrong, KM, rfl, _⟩ := h
    rfl
  · obtain ⟨ms, ap, v_right_here, v_wrong, x_right_here, x_wrong, KM, rfl, hW, h_right_here, h_wrong, hM, hQ⟩ := h
    unfold M_spoilt_pltiiiD at hM
    refine ⟨_, (pss_cons (ps_par (i := 3) (j := 4) (by rfl) sc_spoilt.nd rfl rfl (by decide) rfl rfl (pa_cons (pe_callTy (call_list_ofK (K := K) rfl) (by rfl) T.z_list (by decide +kernel) (pa_cons (pv 1) pa_nil)) (pa_cons (pe_call (ok_draw T) (hr.mono (by decide)) (by rfl) T.g_draw T.F_draw.kp T.b_draw .nil pass0 (pa_cons (pv 0) (pa_cons (pe_op op_add (pe_callB (call_lenK (K := K) rfl) (by rfl) T.z_len PySem.boot_len (pa_cons (pv 1) pa_nil)) pe_int) pa_nil))) pa_nil)) (by rfl)) (pss_cons (ps_expr (pe_bmK (K := K) rfl PySem.F.plainAttrs_list PySem.F.slot_list_insert PySem.F.type_list_insert mt_insert (pv 3) (pa_cons (pv 4) (pa_cons (pv 2) pa_nil)))) (pss_cons (ps_if (pt_cmpR op_eq (pe_call (ok_draw T) (hr.mono (by decide)) (by rfl) T.g_draw T.F_draw.kp T.b_draw .nil pass0 (pa_cons (pv 0) (pa_cons pe_int pa_nil))) pe_int (nomark _)) (pss_one (ps_expr (pe_bmK (K := K) rfl PySem.F.plainAttrs_list PySem.F.slot_list_insert PySem.F.type_list_insert mt_insert (pv 3) (pa_cons (pe_op op_add (pe_op op_add (pv 4) pe_int) (pe_call (ok_draw T) (hr.mono (by decide)) (by rfl) T.g_draw T.F_draw.kp T.b_draw .nil pass0 (pa_cons (pv 0) (pa_cons (pe_op op_sub (pe_callB (call_lenK (K := K) rfl) (by rfl) T.z_len PySem.boot_len (pa_cons (pv 3) pa_nil)) (pv 4)) pa_nil)))) (pa_cons (pv 2) pa_nil))))) pss_nil) (pss_one (ps_ret (pe_tup (pa_cons (pe_up (pe_ifExp (pt_cmpR op_eq (pe_call (ok_draw T) (hr.mono (by decide)) (by rfl) T.g_draw T.F_draw.kp T.b_draw .nil pass0 (pa_cons (pv 0) (pa_cons pe_int pa_nil))) pe_int (nomark _)) (pv 3) (pe_callTy (call_tuple_ofK (K := K) rfl) (by rfl) T.z_tuple (by decide +kernel) (pa_cons (pv 3) pa_nil)))) (pa_cons (pv 4) pa_nil)))))))), ?_⟩
    refine ⟨_, rfl, ?_⟩
    apply rep_listL h_right_here
    intro ys1 hr2
    intro L9 nl10
    have nm11 := nm_new hW nl10
    have mu12 := mo_newL (ds := x_right_here.map (fun y_ : (Int × Int × Int) => (D.tup [(D.v (V.int y_.1)), (D.v (V.int y_.2.1)), (D.v (V.int y_.2.2))]))) (vs := ys1) hW nl10 hr2
    replace h_right_here := rep_cell (o := .lst ys1) nl10 h_right_here
    replace h_wrong := rep_cell (o := .lst ys1) nl10 h_wrong
    replace hW := wd_cell (o := .lst ys1) hW nl10
    generalize upd H_0 L9 (.lst ys1) = H13 at *
    replace mu12 : MutO (L9 :: ms) [(ap, none)] H_0 H13 L9 (D.lst (x_right_here.map (fun y_ : (Int × Int × Int) => (D.tup [(D.v (V.int y_.1)), (D.v (V.int y_.2.1)), (D.v (V.int y_.2.2))])))) := mu12
    refine ⟨_, rfl, ?_⟩
    refine ⟨_, rfl, ?_⟩
    apply rep_lenL (e := (fun y_ : (Int × Int × Int) => (D.tup [(D.v (V.int y_.1)), (D.v (V.int y_.2.1)), (D.v (V.int y_.2.2))]))) (xs := x_right_here) h_right_here
    refine ⟨_, _, rfl, rfl, ?_⟩
    refine ⟨(L9 :: ms), ap, ((x_right_here.length : Int) + (1 : Int)), _, rfl, hW.enterP, hM, fun r14 u17 H18 hM e16 h15 => ?_⟩
    replace h_right_here := rep_ret hW e16 h_right_here
    replace h_wrong := rep_ret hW e16 h_wrong
    replace mu12 := mo_ret hW e16 mu12
    replace hW := hW.retP e16
    obtain rfl := of_v h15
    refine ⟨_, _, rfl, ?_⟩
    replace mu12 := mo_dyn (e := (fun y_ : (Int × Int × Int) => (D.tup [(D.v (V.int y_.1)), (D.v (V.int y_.2.1)), (D.v (V.int y_.2.2))]))) (xs := x_right_here) mu12
    refine ⟨_, rfl, ?_⟩
    refine ⟨mo_tyL mu12, ?_⟩
    refine ⟨_, rfl, ?_⟩
    refine ⟨_, rfl, ?_⟩
    obtain ⟨g19, hM⟩ := hM
    apply mo_insU (e := (fun y_ : D => y_)) (xs := (x_right_here.map (fun y_ : (Int × Int × Int) => (D.tup [(D.v (V.int y_.1)), (D.v (V.int y_.2.1)), (D.v (V.int y_.2.2))])))) (i := r14) mu12 g19
    intro vs20 hr21
    have mk22 := mo_setL mu12 (repL_ins (e := (fun y_ : D => y_)) (xs := (x_right_here.map (fun y_ : (Int × Int × Int) => (D.tup [(D.v (V.int y_.1)), (D.v (V.int y_.2.1)), (D.v (V.int y_.2.2))])))) (y := x_wrong) (Int.toNat r14) hr21 h_wrong)
    replace h_right_here := rep_put (o := .lst (vs20.take (Int.toNat r14) ++ [v_wrong] ++ vs20.drop (Int.toNat r14))) mu12.im h_right_here
    replace h_wrong := rep_put (o := .lst (vs20.take (Int.toNat r14) ++ [v_wrong] ++ vs20.drop (Int.toNat r14))) mu12.im h_wrong
    replace hW := wd_put (o := .lst (vs20.take (Int.toNat r14) ++ [v_wrong] ++ vs20.drop (Int.toNat r14))) hW mu12
    replace mu12 := mk22
    generalize upd H18 L9 (.lst (vs20.take (Int.toNat r14) ++ [v_wrong] ++ vs20.drop (Int.toNat r14))) = H23 at *
    replace mu12 : MutO (L9 :: ms) [(ap, none)] H_0 H23 L9 (D.lst (((x_right_here.map (fun y_ : (Int × Int × Int) => (D.tup [(D.v (V.int y_.1)), (D.v (V.int y_.2.1)), (D.v (V.int y_.2.2))]))).take (Int.toNat r14) ++ [x_wrong] ++ (x_right_here.map (fun y_ : (Int × Int × Int) => (D.tup [(D.v (V.int y_.1)), (D.v (V.int y_.2.1)), (D.v (V.int y_.2.2))]))).drop (Int.toNat r14)).map (fun y_ : D => y_))) := mu12
    clear mk22
    refine ⟨_, rfl, ?_⟩
    refine ⟨(L9 :: ms), ap, (2 : Int), _, rfl, hW.enterP, hM, fun r24 u27 H28 hM e26 h25 => ?_⟩
    replace h_right_here := rep_ret hW e26 h_right_here
    replace h_wrong := rep_ret hW e26 h_wrong
    replace mu12 := mo_ret hW e26 mu12
    replace hW := hW.retP e26
    obtain rfl := of_v h25
    refine ⟨rfl, ?_⟩
    refine ⟨_, rfl, ?_⟩
    refine ite3 hM (fun hM => ?_) (fun hM => ?_)
    · skip
      refine ⟨_, rfl, ?_⟩
      refine ⟨mo_tyL mu12, ?_⟩
      refine ⟨_, rfl, ?_⟩
      refine ⟨_, _, rfl, rfl, ?_⟩
      refine ⟨_, rfl, ?_⟩
      refine ⟨_, rfl, ?_⟩
      apply mo_len (e := (fun y_ : D => y_)) (xs := ((x_right_here.map (fun y_ : (Int × Int × Int) => (D.tup [(D.v (V.int y_.1)), (D.v (V.int y_.2.1)), (D.v (V.int y_.2.2))]))).take (Int.toNat r14) ++ [x_wrong] ++ (x_right_here.map (fun y_ : (Int × Int × Int) => (D.tup [(D.v (V.int y_.1)), (D.v (V.int y_.2.1)), (D.v (V.int y_.2.2))]))).drop (Int.toNat r14))) mu12
      refine ⟨_, rfl, ?_⟩
      refine ⟨_, _, rfl, rfl, ?_⟩
      refine ⟨(L9 :: ms), ap, ((((x_right_here.map (fun y_ : (Int × Int × Int) => (D.tup [(D.v (V.int y_.1)), (D.v (V.int y_.2.1)), (D.v (V.int y_.2.2))]))).take (Int.toNat r14) ++ [x_wrong] ++ (x_right_here.map (fun y_ : (Int × Int × Int) => (D.tup [(D.v (V.int y_.1)), (D.v (V.int y_.2.1)), (D.v (V.int y_.2.2))]))).drop (Int.toNat r14)).length : Int) - r14), _, rfl, hW.enterP, hM, fun r29 u32 H33 hM e31 h30 => ?_⟩
      replace h_right_here := rep_ret hW e31 h_right_here
      replace h_wrong := rep_ret hW e31 h_wrong
      replace mu12 := mo_ret hW e31 mu12
      replace hW := hW.retP e31
      obtain rfl := of_v h30
      refine ⟨_, _, rfl, rfl, ?_⟩
      refine ⟨_, rfl, ?_⟩
      obtain ⟨g34, hM⟩ := hM
      apply mo_insU (e := (fun y_ : D => y_)) (xs := ((x_right_here.map (fun y_ : (Int × Int × Int) => (D.tup [(D.v (V.int y_.1)), (D.v (V.int y_.2.1)), (D.v (V.int y_.2.2))]))).take (Int.toNat r14) ++ [x_wrong] ++ (x_right_here.map (fun y_ : (Int × Int × Int) => (D.tup [(D.v (V.int y_.1)), (D.v (V.int y_.2.1)), (D.v (V.int y_.2.2))]))).drop (Int.toNat r14))) (i := ((r14 + (1 : Int)) + r29)) mu12 g34
      intro vs35 hr36
      have mk37 := mo_setL mu12 (repL_ins (e := (fun y_ : D => y_)) (xs := ((x_right_here.map (fun y_ : (Int × Int × Int) => (D.tup [(D.v (V.int y_.1)), (D.v (V.int y_.2.1)), (D.v (V.int y_.2.2))]))).take (Int.toNat r14) ++ [x_wrong] ++ (x_right_here.map (fun y_ : (Int × Int × Int) => (D.tup [(D.v (V.int y_.1)), (D.v (V.int y_.2.1)), (D.v (V.int y_.2.2))]))).drop (Int.toNat r14))) (y := x_wrong) (Int.toNat ((r14 + (1 : Int)) + r29)) hr36 h_wrong)
      replace h_right_here := rep_put (o := .lst (vs35.take (Int.toNat ((r14 + (1 : Int)) + r29)) ++ [v_wrong] ++ vs35.drop (Int.toNat ((r14 + (1 : Int)) + r29)))) mu12.im h_right_here
      replace h_wrong := rep_put (o := .lst (vs35.take (Int.toNat ((r14 + (1 : Int)) + r29)) ++ [v_wrong] ++ vs35.drop (Int.toNat ((r14 + (1 : Int)) + r29)))) mu12.im h_wrong
      replace hW := wd_put (o := .lst (vs35.take (Int.toNat ((r14 + (1 : Int)) + r29)) ++ [v_wrong] ++ vs35.drop (Int.toNat ((r14 + (1 : Int)) + r29)))) hW mu12
      replace mu12 := mk37
      generalize upd H33 L9 (.lst (vs35.take (Int.toNat ((r14 + (1 : Int)) + r29)) ++ [v_wrong] ++ vs35.drop (Int.toNat ((r14 + (1 : Int)) + r29)))) = H38 at *
      replace mu12 : MutO (L9 :: ms) [(ap, none)] H_0 H38 L9 (D.lst ((((x_right_here.map (fun y_ : (Int × Int × Int) => (D.tup [(D.v (V.int y_.1)), (D.v (V.int y_.2.1)), (D.v (V.int y_.2.2))]))).take (Int.toNat r14) ++ [x_wrong] ++ (x_right_here.map (fun y_ : (Int × Int × Int) => (D.tup [(D.v (V.int y_.1)), (D.v (V.int y_.2.1)), (D.v (V.int y_.2.2))]))).drop (Int.toNat r14)).take (Int.toNat ((r14 + (1 : Int)) + r29)) ++ [x_wrong] ++ ((x_right_here.map (fun y_ : (Int × Int × Int) => (D.tup [(D.v (V.int y_.1)), (D.v (V.int y_.2.1)), (D.v (V.int y_.2.2))]))).take (Int.toNat r14) ++ [x_wrong] ++ (x_right_here.map (fun y_ : (Int × Int × Int) => (D.tup [(D.v (V.int y_.1)), (D.v (V.int y_.2.1)), (D.v (V.int y_.2.2))]))).drop (Int.toNat r14)).drop (Int.toNat ((r14 + (1 : Int)) + r29))).map (fun y_ : D => y_))) := mu12
      clear mk37
      have h39 := mo_rep_dr dr_here nm11 mu12
      replace hW := wd_dr dr_here mu12.hp hW
      replace h_right_here := rep_dr dr_here h_right_here
      replace h_wrong := rep_dr dr_here h_wrong
      clear mu12
      obtain ⟨KB40, hM, hKKB40⟩ := hM
      refine ⟨fun v H1 => ∃ r : (Bool × List D), KB40 r ∧ Wd ms [(ap, none)] [] H_0 H1 ∧ Keep ms H38 H1 ∧ rep ms H1 (eSq (fun y_ : D => y_) r) v, ?_, ?_⟩
      · skip
        have hj42 := Keep.refl (ms := ms) (H := H38)
        refine ⟨_, rfl, ?_⟩
        refine ⟨ms, ap, (2 : Int), _, rfl, hW.enterP, hM, fun r43 u46 H47 hM e45 h44 => ?_⟩
        replace h_right_here := rep_ret hW e45 h_right_here
        replace h_wrong := rep_ret hW e45 h_wrong
        replace h39 := rep_ret hW e45 h39
        replace hj42 := keep_ret hW e45 hj42
        replace hW := hW.retP e45
        obtain rfl := of_v h44
        refine ⟨rfl, ?_⟩
        refine ⟨_, rfl, ?_⟩
        refine ite3 hM (fun hM => ?_) (fun hM => ?_)
        · skip
          refine ⟨_, rfl, ?_⟩
          exact ⟨((false, (((x_right_here.map (fun y_ : (Int × Int × Int) => (D.tup [(D.v (V.int y_.1)), (D.v (V.int y_.2.1)), (D.v (V.int y_.2.2))]))).take (Int.toNat r14) ++ [x_wrong] ++ (x_right_here.map (fun y_ : (Int × Int × Int) => (D.tup [(D.v (V.int y_.1)), (D.v (V.int y_.2.1)), (D.v (V.int y_.2.2))]))).drop (Int.toNat r14)).take (Int.toNat ((r14 + (1 : Int)) + r29)) ++ [x_wrong] ++ ((x_right_here.map (fun y_ : (Int × Int × Int) => (D.tup [(D.v (V.int y_.1)), (D.v (V.int y_.2.1)), (D.v (V.int y_.2.2))]))).take (Int.toNat r14) ++ [x_wrong] ++ (x_right_here.map (fun y_ : (Int × Int × Int) => (D.tup [(D.v (V.int y_.1)), (D.v (V.int y_.2.1)), (D.v (V.int y_.2.2))]))).drop (Int.toNat r14)).drop (Int.toNat ((r14 + (1 : Int)) + r29)))) : (Bool × List D)), hM, hW, hj42, (rep_sqL h39)⟩
        · skip
          refine ⟨_, rfl, ?_⟩
          apply rep_tupOf (ds := (((x_right_here.map (fun y_ : (Int × Int × Int) => (D.tup [(D.v (V.int y_.1)), (D.v (V.int y_.2.1)), (D.v (V.int y_.2.2))]))).take (Int.toNat r14) ++ [x_wrong] ++ (x_right_here.map (fun y_ : (Int × Int × Int) => (D.tup [(D.v (V.int y_.1)), (D.v (V.int y_.2.1)), (D.v (V.int y_.2.2))]))).drop (Int.toNat r14)).take (Int.toNat ((r14 + (1 : Int)) + r29)) ++ [x_wrong] ++ ((x_right_here.map (fun y_ : (Int × Int × Int) => (D.tup [(D.v (V.int y_.1)), (D.v (V.int y_.2.1)), (D.v (V.int y_.2.2))]))).take (Int.toNat r14) ++ [x_wrong] ++ (x_right_here.map (fun y_ : (Int × Int × Int) => (D.tup [(D.v (V.int y_.1)), (D.v (V.int y_.2.1)), (D.v (V.int y_.2.2))]))).drop (Int.toNat r14)).drop (Int.toNat ((r14 + (1 : Int)) + r29))).map (fun y_ : D => y_)) h39
          intro ys48 hr49
          intro p50 np51
          have e52 := Rx.Ext.new (H := H47) (o := (HO.tup ys48)) np51
          have hp53 : upd H47 p50 (HO.tup ys48) p50 = some (HO.tup ys48) := upd_same
          generalize upd H47 p50 (HO.tup ys48) = H55 at e52 hp53 ⊢
          have h54 : rep ms H55 (D.tup ((((x_right_here.map (fun y_ : (Int × Int × Int) => (D.tup [(D.v (V.int y_.1)), (D.v (V.int y_.2.1)), (D.v (V.int y_.2.2))]))).take (Int.toNat r14) ++ [x_wrong] ++ (x_right_here.map (fun y_ : (Int × Int × Int) => (D.tup [(D.v (V.int y_.1)), (D.v (V.int y_.2.1)), (D.v (V.int y_.2.2))]))).drop (Int.toNat r14)).take (Int.toNat ((r14 + (1 : Int)) + r29)) ++ [x_wrong] ++ ((x_right_here.map (fun y_ : (Int × Int × Int) => (D.tup [(D.v (V.int y_.1)), (D.v (V.int y_.2.1)), (D.v (V.int y_.2.2))]))).take (Int.toNat r14) ++ [x_wrong] ++ (x_right_here.map (fun y_ : (Int × Int × Int) => (D.tup [(D.v (V.int y_.1)), (D.v (V.int y_.2.1)), (D.v (V.int y_.2.2))]))).drop (Int.toNat r14)).drop (Int.toNat ((r14 + (1 : Int)) + r29))).map (fun y_ : D => y_))) (.ref p50) := rep_tup_mk hW np51 e52 hp53 hr49
          replace h_right_here := rep_ext e52 h_right_here
          replace h_wrong := rep_ext e52 h_wrong
          replace h39 := rep_ext e52 h39
          replace hj42 := keep_ext e52 hj42
          replace hW := hW.ret0 e52
          exact ⟨((true, (((x_right_here.map (fun y_ : (Int × Int × Int) => (D.tup [(D.v (V.int y_.1)), (D.v (V.int y_.2.1)), (D.v (V.int y_.2.2))]))).take (Int.toNat r14) ++ [x_wrong] ++ (x_right_here.map (fun y_ : (Int × Int × Int) => (D.tup [(D.v (V.int y_.1)), (D.v (V.int y_.2.1)), (D.v (V.int y_.2.2))]))).drop (Int.toNat r14)).take (Int.toNat ((r14 + (1 : Int)) + r29)) ++ [x_wrong] ++ ((x_right_here.map (fun y_ : (Int × Int × Int) => (D.tup [(D.v (V.int y_.1)), (D.v (V.int y_.2.1)), (D.v (V.int y_.2.2))]))).take (Int.toNat r14) ++ [x_wrong] ++ (x_right_here.map (fun y_ : (Int × Int × Int) => (D.tup [(D.v (V.int y_.1)), (D.v (V.int y_.2.1)), (D.v (V.int y_.2.2))]))).drop (Int.toNat r14)).drop (Int.toNat ((r14 + (1 : Int)) + r29)))) : (Bool × List D)), hM, hW, hj42, (rep_sqT h54)⟩
      · skip
        rintro u58 Hj41 ⟨r56, hr, hW, hj42, h57⟩
        replace hM := hKKB40 r56 hr
        replace h_right_here := rep_keep hj42 h_right_here
        replace h_wrong := rep_keep hj42 h_wrong
        replace h39 := rep_keep hj42 h39
        refine ⟨_, rfl, ?_⟩
        refine ⟨(by show 2 ≤ sizeLine; decide), ?_⟩
        intro p59 n63
        have e60 := Rx.Ext.new (H := Hj41) (o := (HO.tup [u58, V.int r14])) n63
        have hp61 : upd Hj41 p59 (HO.tup [u58, V.int r14]) p59 = some (HO.tup [u58, V.int r14]) := upd_same
        generalize upd Hj41 p59 (HO.tup [u58, V.int r14]) = H64 at e60 hp61 ⊢
        have h62 : rep ms H64 (D.tup [(eSq (fun y_ : D => y_) r56), (D.v (V.int r14))]) (.ref p59) := rep_tup_mk hW n63 e60 hp61 (repL_cons h57 (repL_cons rep_v repL_nil))
        replace h_right_here := rep_ext e60 h_right_here
        replace h_wrong := rep_ext e60 h_wrong
        replace h39 := rep_ext e60 h39
        replace h57 := rep_ext e60 h57
        replace hW := hW.ret0 e60
        exact hQ (r56, r14) _ _ hM hW.out h62
    · skip
      have h65 := mo_rep_dr dr_here nm11 mu12
      replace hW := wd_dr dr_here mu12.hp hW
      replace h_right_here := rep_dr dr_here h_right_here
      replace h_wrong := rep_dr dr_here h_wrong
      clear mu12
      obtain ⟨KB66, hM, hKKB66⟩ := hM
      refine ⟨fun v H1 => ∃ r : (Bool × List D), KB66 r ∧ Wd ms [(ap, none)] [] H_0 H1 ∧ Keep ms H28 H1 ∧ rep ms H1 (eSq (fun y_ : D => y_) r) v, ?_, ?_⟩
      · skip
        have hj68 := Keep.refl (ms := ms) (H := H28)
        refine ⟨_, rfl, ?_⟩
        refine ⟨ms, ap, (2 : Int), _, rfl, hW.enterP, hM, fun r69 u72 H73 hM e71 h70 => ?_⟩
        replace h_right_here := rep_ret hW e71 h_right_here
        replace h_wrong := rep_ret hW e71 h_wrong
        replace h65 := rep_ret hW e71 h65
        replace hj68 := keep_ret hW e71 hj68
        replace hW := hW.retP e71
        obtain rfl := of_v h70
        refine ⟨rfl, ?_⟩
        refine ⟨_, rfl, ?_⟩
        refine ite3 hM (fun hM => ?_) (fun hM => ?_)
        · skip
          refine ⟨_, rfl, ?_⟩
          exact ⟨((false, ((x_right_here.map (fun y_ : (Int × Int × Int) => (D.tup [(D.v (V.int y_.1)), (D.v (V.int y_.2.1)), (D.v (V.int y_.2.2))]))).take (Int.toNat r14) ++ [x_wrong] ++ (x_right_here.map (fun y_ : (Int × Int × Int) => (D.tup [(D.v (V.int y_.1)), (D.v (V.int y_.2.1)), (D.v (V.int y_.2.2))]))).drop (Int.toNat r14))) : (Bool × List D)), hM, hW, hj68, (rep_sqL h65)⟩
        · skip
          refine ⟨_, rfl, ?_⟩
          apply rep_tupOf (ds := ((x_right_here.map (fun y_ : (Int × Int × Int) => (D.tup [(D.v (V.int y_.1)), (D.v (V.int y_.2.1)), (D.v (V.int y_.2.2))]))).take (Int.toNat r14) ++ [x_wrong] ++ (x_right_here.map (fun y_ : (Int × Int × Int) => (D.tup [(D.v (V.int y_.1)), (D.v (V.int y_.2.1)), (D.v (V.int y_.2.2))]))).drop (Int.toNat r14)).map (fun y_ : D => y_)) h65
          intro ys74 hr75
          intro p76 np77
          have e78 := Rx.Ext.new (H := H73) (o := (HO.tup ys74)) np77
          have hp79 : upd H73 p76 (HO.tup ys74) p76 = some (HO.tup ys74) := upd_same
          generalize upd H73 p76 (HO.tup ys74) = H81 at e78 hp79 ⊢
          have h80 : rep ms H81 (D.tup (((x_right_here.map (fun y_ : (Int × Int × Int) => (D.tup [(D.v (V.int y_.1)), (D.v (V.int y_.2.1)), (D.v (V.int y_.2.2))]))).take (Int.toNat r14) ++ [x_wrong] ++ (x_right_here.map (fun y_ : (Int × Int × Int) => (D.tup [(D.v (V.int y_.1)), (D.v (V.int y_.2.1)), (D.v (V.int y_.2.2))]))).drop (Int.toNat r14)).map (fun y_ : D => y_))) (.ref p76) := rep_tup_mk hW np77 e78 hp79 hr75
          replace h_right_here := rep_ext e78 h_right_here
          replace h_wrong := rep_ext e78 h_wrong
          replace h65 := rep_ext e78 h65
          replace hj68 := keep_ext e78 hj68
          replace hW := hW.ret0 e78
          exact ⟨((true, ((x_right_here.map (fun y_ : (Int × Int × Int) => (D.tup [(D.v (V.int y_.1)), (D.v (V.int y_.2.1)), (D.v (V.int y_.2.2))]))).take (Int.toNat r14) ++ [x_wrong] ++ (x_right_here.map (fun y_ : (Int × Int × Int) => (D.tup [(D.v (V.int y_.1)), (D.v (V.int y_.2.1)), (D.v (V.int y_.2.2))]))).drop (Int.toNat r14))) : (Bool × List D)), hM, hW, hj68, (rep_sqT h80)⟩
      · skip
        rintro u84 Hj67 ⟨r82, hr, hW, hj68, h83⟩
        replace hM := hKKB66 r82 hr
        replace h_right_here := rep_keep hj68 h_right_here
        replace h_wrong := rep_keep hj68 h_wrong
        replace h65 := rep_keep hj68 h65
        refine ⟨_, rfl, ?_⟩
        refine ⟨(by show 2 ≤ sizeLine; decide), ?_⟩
        intro p85 n89
        have e86 := Rx.Ext.new (H := Hj67) (o := (HO.tup [u84, V.int r14])) n89
        have hp87 : upd Hj67 p85 (HO.tup [u84, V.int r14]) p85 = some (HO.tup [u84, V.int r14]) := upd_same
        generalize upd Hj67 p85 (HO.tup [u84, V.int r14]) = H90 at e86 hp87 ⊢
        have h88 : rep ms H90 (D.tup [(eSq (fun y_ : D => y_) r82), (D.v (V.int r14))]) (.ref p85) := rep_tup_mk hW n89 e86 hp87 (repL_cons h83 (repL_cons rep_v repL_nil))
        replace h_right_here := rep_ext e86 h_right_here
        replace h_wrong := rep_ext e86 h_wrong
        replace h65 := rep_ext e86 h65
        replace h83 := rep_ext e86 h83
        replace hW := hW.ret0 e86
        exact hQ (r82, r14) _ _ hM hW.out h88
def M_rows (KM : (D × (Option (List D)) × Int) → Prop) : Prop :=
  (M_pick ([(1 : Int), (1 : Int), (2 : Int), (24 : Int)] : List Int) fun r7 => ((rangeI (0 : Int) r7).length < 100000 ∧ mapC (fun (x23 : Int) (k16 : (Int × Int × Int) → Prop) => (M_draw (3 : Int) fun r29 => (M_draw (9 : Int) fun r34 => (k16 (r29, (r34 - (4 : Int)), x23))))) (rangeI (0 : Int) r7) [] fun ys50 => (M_draw (6 : Int) fun r53 => (if (decide (V.int r53 = V.int (0 : Int))) = true then (M_pick_plD ([(D.v V.non), (D.v (V.int (3 : Int))), (D.v (V.bl false)), (D.v (V.str ("" : Str))), (D.v (V.str ("12" : Str))), (D.dct [] []), (D.dct [(Sum.inl (0 : Int) : Key)] [(D.v (V.int (1 : Int)))]), (D.lst (([] : List Int).map (fun y_ : Int => (D.v (V.int y_))))), (D.tup [])] : List D) fun r90 => (KM (r90, (some ([(D.v (V.str ("rows" : Str))), (D.v V.non)] : List D)), (0 : Int)))) else (if (decide (V.int r53 = V.int (1 : Int))) = true then (M_no_row  fun r107 => (M_spoilt_pltiiiD ys50 r107 fun r112 => (KM ((eSq (fun y_ : D => y_) r112.1), (some ([(D.v (V.str ("rows" : Str))), (D.v (V.int r112.2))] : List D)), (r112.1.2.length : Int))))) else (if (decide (V.int r53 = V.int (2 : Int))) = true then ((-(2 ^ 63) ≤ ((25 : Int) - (ys50.length : Int)) ∧ ((25 : Int) - (ys50.length : Int)) < 2 ^ 63 ∧ ([((0 : Int), (0 : Int), (1 : Int))] : List (Int × Int × Int)).length * Int.toNat ((25 : Int) - (ys50.length : Int)) ≤ sizeLine) ∧ (ys50.length + (List.flatten (List.replicate (Int.toNat ((25 : Int) - (ys50.length : Int))) ([((0 : Int), (0 : Int), (1 : Int))] : List (Int × Int × Int)))).length ≤ sizeLine ∧ (∃ KB165 : (Bool × List (Int × Int × Int)) → Prop, (M_draw (2 : Int) fun r168 => (if (decide (V.int r168 = V.int (0 : Int))) = true then (KB165 ((false, (ys50 ++ (List.flatten (List.replicate (Int.toNat ((25 : Int) - (ys50.length : Int))) ([((0 : Int), (0 : Int), (1 : Int))] : List (Int × Int × Int)))))) : (Bool × List (Int × Int × Int)))) else (KB165 ((true, (ys50 ++ (List.flatten (List.replicate (Int.toNat ((25 : Int) - (ys50.length : Int))) ([((0 : Int), (0 : Int), (1 : Int))] : List (Int × Int × Int)))))) : (Bool × List (Int × Int × Int)))))) ∧ ∀ r181 : (Bool × List (Int × Int × Int)), KB165 r181 → (KM ((eSq (fun y_ : (Int × Int × Int) => (D.tup [(D.v (V.int y_.1)), (D.v (V.int y_.2.1)), (D.v (V.int y_.2.2))])) r181), (none : (Option (List D))), ((ys50 ++ (List.flatten (List.replicate (Int.toNat ((25 : Int) - (ys50.length : Int))) ([((0 : Int), (0 : Int), (1 : Int))] : List (Int × Int × Int))))).length : Int)))))) else (∃ KB190 : (Bool × List (Int × Int × Int)) → Prop, (M_draw (2 : Int) fun r193 => (if (decide (V.int r193 = V.int (0 : Int))) = true then (KB190 ((false, ys50) : (Bool × List (Int × Int × Int)))) else (KB190 ((true, ys50) : (Bool × List (Int × Int × Int)))))) ∧ ∀ r206 : (Bool × List (Int × Int × Int)), KB190 r206 → (KM ((eSq (fun y_ : (Int × Int × Int) => (D.tup [(D.v (V.int y_.1)), (D.v (V.int y_.2.1)), (D.v (V.int y_.2.2))])) r206), (none : (Option (List D))), (ys50.length : Int))))))))))
def sp_rows (A : Ad) : Sp := fun vs H Q _ => ∃ (ms : List Addr) (ap : Addr) (KM : (D × (Option (List D)) × Int) → Prop), vs = [.ref ap] ∧ Wd ms [(ap, none)] [] H H ∧ M_rows  KM ∧ ∀ (r : (D × (Option (List D)) × Int)) (u : V) (H1 : Hp), KM r → Ret [(ap, none)] H H1 → rep ms H1 (D.tup [r.1, (encO (fun y_ : (List D) => (D.lst (y_.map (fun y_ : D => y_)))) r.2.1), (D.v (V.int r.2.2))]) u → Q u H1
set_option maxHeartbeats 16000000 in
theorem ok_rows {P : Program} {w : World} {K : PySem.W.Frag} {mg : Str → Option Value} {base : Heap} {A : Ad} (T : Txt w K mg base A) : FnOk P w K mg base CX0 5 A.a_rows A.d_rows ["_law_pot_here"] (sp_rows A) := by
  refine T.F_rows.ok sc_rows (fun vs H Q E h => ?_) (fun cdv A_ outer s_ H_0 vs Q E hr h => ?_)
  · obtain ⟨ms, ap, KM, rfl, _⟩ := h
    rfl
  · obtain ⟨ms, ap, KM, rfl, hW, hM, hQ⟩ := h
    unfold M_rows at hM
    refine ⟨_, (pss_cons (ps_setLc (i := 1) (own := [("_law_rest", 6)]) (g := gName 6) rfl sc_rows.nd rfl rfl (sw_true rfl rfl rfl (by decide +kernel)) (pi_rangeW1 (by rfl) T.z_range (pa_cons (pe_call (ok_pick T) (hr.mono (by decide)) (by rfl) T.g_pick T.F_pick.kp T.b_pick .nil pass0 (pa_cons (pv 0) (pa_cons (pe_lst (pa_cons pe_int (pa_cons pe_int (pa_cons pe_int (pa_cons pe_int pa_nil))))) pa_nil))) pa_nil)) (blkOk_by (N := ["_law_pot_here", "_law_right_here", "_law_way", "_law_odd", "_law_found", "_law_at", "_law_rest"]) (sc := defScope s_rows) (by decide +kernel)) (fun _ _ _ _ _ => pg_name (i := 6) sc_rows.nd rfl (by first | exact Or.inl rfl | exact Or.inr rfl)) (fun _ _ _ _ _ => pts_nil) (fun _ _ _ _ _ => (pe_tup (pa_cons (pe_call (ok_draw T) (hr.mono (by decide)) (by rfl) T.g_draw T.F_draw.kp T.b_draw .nil pass0 (pa_cons (pv 0) (pa_cons pe_int pa_nil))) (pa_cons (pe_op op_sub (pe_call (ok_draw T) (hr.mono (by decide)) (by rfl) T.g_draw T.F_draw.kp T.b_draw .nil pass0 (pa_cons (pv 0) (pa_cons pe_int pa_nil))) pe_int) (pa_cons (pv 6) pa_nil)))))) (pss_cons (ps_set (i := 2) sc_rows.nd rfl (by first | exact Or.inl rfl | exact Or.inr rfl) (pe_call (ok_draw T) (hr.mono (by decide)) (by rfl) T.g_draw T.F_draw.kp T.b_draw .nil pass0 (pa_cons (pv 0) (pa_cons pe_int pa_nil)))) (pss_cons (ps_if (pt_cmpR op_eq (pv 2) pe_int (nomark _)) (pss_cons (ps_set (i := 3) sc_rows.nd rfl (by first | exact Or.inl rfl | exact Or.inr rfl) (pe_call (ok_pick_plD T) (hr.mono (by decide)) (by rfl) T.g_pick T.F_pick.kp T.b_pick .nil pass0 (pa_cons (pv 0) (pa_cons (pe_lst (pa_cons pe_non (pa_cons pe_int (pa_cons pe_bl (pa_cons pe_str (pa_cons pe_str (pa_cons pe_dnewK (pa_cons (pe_disp (pps_cons pe_int pe_int pps_nil) rfl rfl (by simp) (by decide)) (pa_cons (pe_lst pa_nil) (pa_cons (pe_tup pa_nil) pa_nil)))))))))) pa_nil)))) (pss_one (ps_ret (pe_tup (pa_cons (pv 3) (pa_cons (pe_lst (pa_cons pe_str (pa_cons pe_non pa_nil))) (pa_cons pe_int pa_nil))))))) pss_nil) (pss_cons (ps_if (pt_cmpR op_eq (pv 2) pe_int (nomark _)) (pss_cons (ps_asg (pe_call (ok_spoilt_pltiiiD T) (hr.mono (by decide)) (by rfl) T.g_spoilt T.F_spoilt.kp T.b_spoilt .nil pass0 (pa_cons (pv 0) (pa_cons (pv 1) (pa_cons (pe_call (ok_no_row T) (hr.mono (by decide)) (by rfl) T.g_no_row T.F_no_row.kp T.b_no_row .nil pass0 (pa_cons (pv 0) pa_nil)) pa_nil)))) (pg_tup rfl (pgs_cons (pg_name (i := 4) sc_rows.nd rfl (by first | exact Or.inl rfl | exact Or.inr rfl)) (pgs_cons (pg_name (i := 5) sc_rows.nd rfl (by first | exact Or.inl rfl | exact Or.inr rfl)) pgs_nil)))) (pss_one (ps_ret (pe_tup (pa_cons (pv 4) (pa_cons (pe_lst (pa_cons pe_str (pa_cons (pv 5) pa_nil))) (pa_cons (pe_callB (call_lenK (K := K) rfl) (by rfl) T.z_len PySem.boot_len (pa_cons (pv 4) pa_nil)) pa_nil))))))) pss_nil) (pss_cons (ps_if (pt_cmpR op_eq (pv 2) pe_int (nomark _)) (pss_one (ps_set (i := 1) sc_rows.nd rfl (by first | exact Or.inl rfl | exact Or.inr rfl) (pe_op op_cat (pv 1) (pe_op op_rep (pe_lst (pa_cons (pe_tup (pa_cons pe_int (pa_cons pe_int (pa_cons pe_int pa_nil)))) pa_nil)) (pe_op op_sub pe_int (pe_callB (call_lenK (K := K) rfl) (by rfl) T.z_len PySem.boot_len (pa_cons (pv 1) pa_nil))))))) pss_nil) (pss_one (ps_ret (pe_tup (pa_cons (pe_up (pe_ifExp (pt_cmpR op_eq (pe_call (ok_draw T) (hr.mono (by decide)) (by rfl) T.g_draw T.F_draw.kp T.b_draw .nil pass0 (pa_cons (pv 0) (pa_cons pe_int pa_nil))) pe_int (nomark _)) (pv 1) (pe_callTy (call_tuple_ofK (K := K) rfl) (by rfl) T.z_tuple (by decide +kernel) (pa_cons (pv 1) pa_nil)))) (pa_cons pe_non (pa_cons (pe_callB (call_lenK (K := K) rfl) (by rfl) T.z_len PySem.boot_len (pa_cons (pv 1) pa_nil)) pa_nil))))))))))), ?_⟩
    refine ⟨_, rfl, ?_⟩
    refine ⟨(by show 4 ≤ sizeLine; decide), ?_⟩
    intro p1 n5
    have e2 := Rx.Ext.new (H := H_0) (o := (HO.lst [V.int (1 : Int), V.int (1 : Int), V.int (2 : Int), V.int (24 : Int)])) n5
    have hp3 : upd H_0 p1 (HO.lst [V.int (1 : Int), V.int (1 : Int), V.int (2 : Int), V.int (24 : Int)]) p1 = some (HO.lst [V.int (1 : Int), V.int (1 : Int), V.int (2 : Int), V.int (24 : Int)]) := upd_same
    generalize upd H_0 p1 (HO.lst [V.int (1 : Int), V.int (1 : Int), V.int (2 : Int), V.int (24 : Int)]) = H6 at e2 hp3 ⊢
    have h4 : rep ms H6 (D.lst (([(1 : Int), (1 : Int), (2 : Int), (24 : Int)] : List Int).map (fun y_ : Int => (D.v (V.int y_))))) (.ref p1) := rep_lst_mk hW n5 e2 hp3 (repL_cons rep_v (repL_cons rep_v (repL_cons rep_v (repL_cons rep_v repL_nil))))
    replace hW := hW.ret0 e2
    refine ⟨ms, ap, _, ([(1 : Int), (1 : Int), (2 : Int), (24 : Int)] : List Int), _, rfl, hW.enterP, h4, hM, fun r7 u10 H11 hM e9 h8 => ?_⟩
    replace h4 := rep_ret hW e9 h4
    replace hW := hW.retP e9
    obtain rfl := of_v h8
    refine ⟨_, rfl, ?_⟩
    refine fun L12 nl13 => ?_
    have nm27 := nm_new hW nl13
    refine lc_rangeG (L := L12) (fun n_ ys_ h_ => Wd (L12 :: ms) [(ap, none)] [] H_0 h_ ∧ Keep (L12 :: ms) H11 h_ ∧ MutO (L12 :: ms) [(ap, none)] H_0 h_ L12 (D.lst (ys_.map (fun y_ : (Int × Int × Int) => (D.tup [(D.v (V.int y_.1)), (D.v (V.int y_.2.1)), (D.v (V.int y_.2.2))])))) ∧ ys_.length ≤ n_) (lo := (0 : Int)) (hi := r7) (N := Int.toNat r7) (by simp) hM ⟨wd_cell hW nl13, keep_cell nl13 Keep.refl, mo_newL (ds := []) hW nl13 repL_nil, Nat.le_refl _⟩ ?_ ?_
    · skip
      rintro x23  n14 ys15 k16 H28 hn ⟨hW, hk17, mu18, ln19⟩ hM Nx22 hN20
      replace h4 := rep_keep hk17 (rep_new nl13 h4)
      refine ⟨rfl, ?_⟩
      refine tyes_of ?_
      refine ⟨_, rfl, ?_⟩
      refine ⟨(L12 :: ms), ap, (3 : Int), _, rfl, hW.enterP, hM, fun r29 u32 H33 hM e31 h30 => ?_⟩
      replace h4 := rep_ret hW e31 h4
      replace hk17 := keep_ret hW e31 hk17
      replace mu18 := mo_ret hW e31 mu18
      replace hW := hW.retP e31
      obtain rfl := of_v h30
      refine ⟨_, rfl, ?_⟩
      refine ⟨(L12 :: ms), ap, (9 : Int), _, rfl, hW.enterP, hM, fun r34 u37 H38 hM e36 h35 => ?_⟩
      replace h4 := rep_ret hW e36 h4
      replace hk17 := keep_ret hW e36 hk17
      replace mu18 := mo_ret hW e36 mu18
      replace hW := hW.retP e36
      obtain rfl := of_v h35
      refine ⟨_, _, rfl, rfl, ?_⟩
      refine ⟨_, rfl, ?_⟩
      refine ⟨(by show 3 ≤ sizeLine; decide), ?_⟩
      intro p39 n43
      have e40 := Rx.Ext.new (H := H38) (o := (HO.tup [V.int r29, V.int (r34 - (4 : Int)), V.int x23])) n43
      have hp41 : upd H38 p39 (HO.tup [V.int r29, V.int (r34 - (4 : Int)), V.int x23]) p39 = some (HO.tup [V.int r29, V.int (r34 - (4 : Int)), V.int x23]) := upd_same
      generalize upd H38 p39 (HO.tup [V.int r29, V.int (r34 - (4 : Int)), V.int x23]) = H44 at e40 hp41 ⊢
      have h42 : rep (L12 :: ms) H44 (D.tup [(D.v (V.int r29)), (D.v (V.int (r34 - (4 : Int)))), (D.v (V.int x23))]) (.ref p39) := rep_tup_mk hW n43 e40 hp41 (repL_cons rep_v (repL_cons rep_v (repL_cons rep_v repL_nil)))
      replace h4 := rep_ext e40 h4
      replace hk17 := keep_ext e40 hk17
      replace mu18 := mo_ext e40 mu18
      replace hW := hW.ret0 e40
      refine mo_end mu18 hn (by rw [List.length_map]; exact ln19) fun vs45 hr46 => ?_
      have mk48 := mo_setL mu18 (repL_snoc (e := (fun y_ : (Int × Int × Int) => (D.tup [(D.v (V.int y_.1)), (D.v (V.int y_.2.1)), (D.v (V.int y_.2.2))]))) (xs := ys15) (y := (r29, (r34 - (4 : Int)), x23)) hr46 h42)
      replace h4 := rep_put (o := .lst (vs45 ++ [(V.ref p39)])) mu18.im h4
      replace hk17 := keep_put (o := .lst (vs45 ++ [(V.ref p39)])) mu18.im hk17
      replace h42 := rep_put (o := .lst (vs45 ++ [(V.ref p39)])) mu18.im h42
      replace hW := wd_put (o := .lst (vs45 ++ [(V.ref p39)])) hW mu18
      replace mu18 := mk48
      generalize upd H44 L12 (.lst (vs45 ++ [(V.ref p39)])) = H49 at *
      replace mu18 : MutO (L12 :: ms) [(ap, none)] H_0 H49 L12 (D.lst ((ys15 ++ [(r29, (r34 - (4 : Int)), x23)]).map (fun y_ : (Int × Int × Int) => (D.tup [(D.v (V.int y_.1)), (D.v (V.int y_.2.1)), (D.v (V.int y_.2.2))])))) := mu18
      clear mk48
      exact hN20 (r29, (r34 - (4 : Int)), x23) _ hM ⟨hW, hk17, mu18, by rw [List.length_append]; exact Nat.add_le_add_right ln19 1⟩
    · skip
      rintro n14 ys50 H51 hM ⟨hW, hk17, mu18, ln19⟩
      replace h4 := rep_keep hk17 (rep_new nl13 h4)
      clear hk17 ln19
      have h52 := mo_rep_dr dr_here nm27 mu18
      replace hW := wd_dr dr_here mu18.hp hW
      replace h4 := rep_dr dr_here h4
      clear mu18
      refine ⟨_, rfl, ?_⟩
      refine ⟨ms, ap, (6 : Int), _, rfl, hW.enterP, hM, fun r53 u56 H57 hM e55 h54 => ?_⟩
      replace h4 := rep_ret hW e55 h4
      replace h52 := rep_ret hW e55 h52
      replace hW := hW.retP e55
      obtain rfl := of_v h54
      refine ⟨_, rfl, ?_⟩
      refine ⟨rfl, ?_⟩
      refine ⟨_, rfl, ?_⟩
      refine ite3 hM (fun hM => ?_) (fun hM => ?_)
      · skip
        refine ⟨_, rfl, ?_⟩
        intro p58 n62
        have e59 := Rx.Ext.new (H := H57) (o := (HO.dK [])) n62
        have hp60 : upd H57 p58 (HO.dK []) p58 = some (HO.dK []) := upd_same
        generalize upd H57 p58 (HO.dK []) = H63 at e59 hp60 ⊢
        have h61 : rep ms H63 (D.dct [] []) (.ref p58) := rep_dct0 hW n62 hp60
        replace h4 := rep_ext e59 h4
        replace h52 := rep_ext e59 h52
        replace hW := hW.ret0 e59
        intro L64 nl65
        have nm66 := nm_new hW nl65
        have mu67 := mo_nilD hW nl65
        replace h4 := rep_cell (o := .dK []) nl65 h4
        replace h52 := rep_cell (o := .dK []) nl65 h52
        replace h61 := rep_cell (o := .dK []) nl65 h61
        replace hW := wd_cell (o := .dK []) hW nl65
        generalize upd H63 L64 (.dK []) = H68 at *
        replace mu67 : MutO (L64 :: ms) [(ap, none)] H_0 H68 L64 (D.dct [] []) := mu67
        refine ⟨mo_dK0 mu67, List.zip [(Sum.inl (0 : Int) : Key)] [V.int (1 : Int)], rfl, (by show 1 ≤ 15; decide), ?_⟩
        rw [merge_zip (ks := [(Sum.inl (0 : Int) : Key)]) (vs := [V.int (1 : Int)]) rfl (by decide +kernel)]
        have mk69 := mo_setD (ks := [(Sum.inl (0 : Int) : Key)]) (vs := [V.int (1 : Int)]) mu67 rfl (repL_cons rep_v repL_nil)
        replace h4 := rep_put (o := .dK (List.zip [(Sum.inl (0 : Int) : Key)] [V.int (1 : Int)])) mu67.im h4
        replace h52 := rep_put (o := .dK (List.zip [(Sum.inl (0 : Int) : Key)] [V.int (1 : Int)])) mu67.im h52
        replace h61 := rep_put (o := .dK (List.zip [(Sum.inl (0 : Int) : Key)] [V.int (1 : Int)])) mu67.im h61
        replace hW := wd_put (o := .dK (List.zip [(Sum.inl (0 : Int) : Key)] [V.int (1 : Int)])) hW mu67
        replace mu67 := mk69
        generalize upd H68 L64 (.dK (List.zip [(Sum.inl (0 : Int) : Key)] [V.int (1 : Int)])) = H70 at *
        replace mu67 : MutO (L64 :: ms) [(ap, none)] H_0 H70 L64 (D.dct [(Sum.inl (0 : Int) : Key)] [(D.v (V.int (1 : Int)))]) := mu67
        clear mk69
        have h71 := mo_rep_dr dr_here nm66 mu67
        replace hW := wd_dr dr_here mu67.hp hW
        replace h4 := rep_dr dr_here h4
        replace h52 := rep_dr dr_here h52
        replace h61 := rep_dr dr_here h61
        clear mu67
        refine ⟨(by show 0 ≤ sizeLine; decide), ?_⟩
        intro p72 n76
        have e73 := Rx.Ext.new (H := H70) (o := (HO.lst [])) n76
        have hp74 : upd H70 p72 (HO.lst []) p72 = some (HO.lst []) := upd_same
        generalize upd H70 p72 (HO.lst []) = H77 at e73 hp74 ⊢
        have h75 : rep ms H77 (D.lst (([] : List Int).map (fun y_ : Int => (D.v (V.int y_))))) (.ref p72) := rep_lst_mk hW n76 e73 hp74 repL_nil
        replace h4 := rep_ext e73 h4
        replace h52 := rep_ext e73 h52
        replace h61 := rep_ext e73 h61
        replace h71 := rep_ext e73 h71
        replace hW := hW.ret0 e73
        refine ⟨(by show 0 ≤ sizeLine; decide), ?_⟩
        intro p78 n82
        have e79 := Rx.Ext.new (H := H77) (o := (HO.tup [])) n82
        have hp80 : upd H77 p78 (HO.tup []) p78 = some (HO.tup []) := upd_same
        generalize upd H77 p78 (HO.tup []) = H83 at e79 hp80 ⊢
        have h81 : rep ms H83 (D.tup []) (.ref p78) := rep_tup_mk hW n82 e79 hp80 repL_nil
        replace h4 := rep_ext e79 h4
        replace h52 := rep_ext e79 h52
        replace h61 := rep_ext e79 h61
        replace h71 := rep_ext e79 h71
        replace h75 := rep_ext e79 h75
        replace hW := hW.ret0 e79
        refine ⟨(by show 9 ≤ sizeLine; decide), ?_⟩
        intro p84 n88
        have e85 := Rx.Ext.new (H := H83) (o := (HO.lst [V.non, V.int (3 : Int), V.bl false, V.str ("" : Str), V.str ("12" : Str), (V.ref p58), (V.ref L64), (V.ref p72), (V.ref p78)])) n88
        have hp86 : upd H83 p84 (HO.lst [V.non, V.int (3 : Int), V.bl false, V.str ("" : Str), V.str ("12" : Str), (V.ref p58), (V.ref L64), (V.ref p72), (V.ref p78)]) p84 = some (HO.lst [V.non, V.int (3 : Int), V.bl false, V.str ("" : Str), V.str ("12" : Str), (V.ref p58), (V.ref L64), (V.ref p72), (V.ref p78)]) := upd_same
        generalize upd H83 p84 (HO.lst [V.non, V.int (3 : Int), V.bl false, V.str ("" : Str), V.str ("12" : Str), (V.ref p58), (V.ref L64), (V.ref p72), (V.ref p78)]) = H89 at e85 hp86 ⊢
        have h87 : rep ms H89 (D.lst (([(D.v V.non), (D.v (V.int (3 : Int))), (D.v (V.bl false)), (D.v (V.str ("" : Str))), (D.v (V.str ("12" : Str))), (D.dct [] []), (D.dct [(Sum.inl (0 : Int) : Key)] [(D.v (V.int (1 : Int)))]), (D.lst (([] : List Int).map (fun y_ : Int => (D.v (V.int y_))))), (D.tup [])] : List D).map (fun y_ : D => y_))) (.ref p84) := rep_lst_mk hW n88 e85 hp86 (repL_cons rep_v (repL_cons rep_v (repL_cons rep_v (repL_cons rep_v (repL_cons rep_v (repL_cons h61 (repL_cons h71 (repL_cons h75 (repL_cons h81 repL_nil)))))))))
        replace h4 := rep_ext e85 h4
        replace h52 := rep_ext e85 h52
        replace h61 := rep_ext e85 h61
        replace h71 := rep_ext e85 h71
        replace h75 := rep_ext e85 h75
        replace h81 := rep_ext e85 h81
        replace hW := hW.ret0 e85
        refine ⟨ms, ap, _, ([(D.v V.non), (D.v (V.int (3 : Int))), (D.v (V.bl false)), (D.v (V.str ("" : Str))), (D.v (V.str ("12" : Str))), (D.dct [] []), (D.dct [(Sum.inl (0 : Int) : Key)] [(D.v (V.int (1 : Int)))]), (D.lst (([] : List Int).map (fun y_ : Int => (D.v (V.int y_))))), (D.tup [])] : List D), _, rfl, hW.enterP, h87, hM, fun r90 u93 H94 hM e92 h91 => ?_⟩
        replace h4 := rep_ret hW e92 h4
        replace h52 := rep_ret hW e92 h52
        replace h61 := rep_ret hW e92 h61
        replace h71 := rep_ret hW e92 h71
        replace h75 := rep_ret hW e92 h75
        replace h81 := rep_ret hW e92 h81
        replace h87 := rep_ret hW e92 h87
        replace hW := hW.retP e92
        refine ⟨_, rfl, ?_⟩
        refine ⟨(by show 2 ≤ sizeLine; decide), ?_⟩
        intro p95 n99
        have e96 := Rx.Ext.new (H := H94) (o := (HO.lst [V.str ("rows" : Str), V.non])) n99
        have hp97 : upd H94 p95 (HO.lst [V.str ("rows" : Str), V.non]) p95 = some (HO.lst [V.str ("rows" : Str), V.non]) := upd_same
        generalize upd H94 p95 (HO.lst [V.str ("rows" : Str), V.non]) = H100 at e96 hp97 ⊢
        have h98 : rep ms H100 (D.lst (([(D.v (V.str ("rows" : Str))), (D.v V.non)] : List D).map (fun y_ : D => y_))) (.ref p95) := rep_lst_mk hW n99 e96 hp97 (repL_cons rep_v (repL_cons rep_v repL_nil))
        replace h4 := rep_ext e96 h4
        replace h52 := rep_ext e96 h52
        replace h61 := rep_ext e96 h61
        replace h71 := rep_ext e96 h71
        replace h75 := rep_ext e96 h75
        replace h81 := rep_ext e96 h81
        replace h87 := rep_ext e96 h87
        replace h91 := rep_ext e96 h91
        replace hW := hW.ret0 e96
        refine ⟨(by show 3 ≤ sizeLine; decide), ?_⟩
        intro p101 n105
        have e102 := Rx.Ext.new (H := H100) (o := (HO.tup [u93, (V.ref p95), V.int (0 : Int)])) n105
        have hp103 : upd H100 p101 (HO.tup [u93, (V.ref p95), V.int (0 : Int)]) p101 = some (HO.tup [u93, (V.ref p95), V.int (0 : Int)]) := upd_same
        generalize upd H100 p101 (HO.tup [u93, (V.ref p95), V.int (0 : Int)]) = H106 at e102 hp103 ⊢
        have h104 : rep ms H106 (D.tup [r90, (D.lst (([(D.v (V.str ("rows" : Str))), (D.v V.non)] : List D).map (fun y_ : D => y_))), (D.v (V.int (0 : Int)))]) (.ref p101) := rep_tup_mk hW n105 e102 hp103 (repL_cons h91 (repL_cons h98 (repL_cons rep_v repL_nil)))
        replace h4 := rep_ext e102 h4
        replace h52 := rep_ext e102 h52
        replace h61 := rep_ext e102 h61
        replace h71 := rep_ext e102 h71
        replace h75 := rep_ext e102 h75
        replace h81 := rep_ext e102 h81
        replace h87 := rep_ext e102 h87
        replace h91 := rep_ext e102 h91
        replace h98 := rep_ext e102 h98
        replace hW := hW.ret0 e102
        exact hQ (r90, (some ([(D.v (V.str ("rows" : Str))), (D.v V.non)] : List D)), (0 : Int)) _ _ hM hW.out h104
      · skip
        refine ⟨_, rfl, ?_⟩
        refine ⟨rfl, ?_⟩
        refine ⟨_, rfl, ?_⟩
        refine ite3 hM (fun hM => ?_) (fun hM => ?_)
        · skip
          refine ⟨_, rfl, ?_⟩
          refine ⟨_, rfl, ?_⟩
          refine ⟨_, rfl, ?_⟩
          refine ⟨ms, ap, _, rfl, hW.enterP, hM, fun r107 u110 H111 hM e109 h108 => ?_⟩
          replace h4 := rep_ret hW e109 h4
          replace h52 := rep_ret hW e109 h52
          replace hW := hW.retP e109
          refine ⟨ms, ap, _, _, ys50, r107, _, rfl, hW.enterP, h52, h108, hM, fun r112 u115 H116 hM e114 h113 => ?_⟩
          replace h4 := rep_ret hW e114 h4
          replace h52 := rep_ret hW e114 h52
          replace h108 := rep_ret hW e114 h108
          replace hW := hW.retP e114
          apply rep_gtup h113 rfl
          intro vs117 hv118
          obtain ⟨u119, us120, rfl, h121, hv122⟩ := repL_uncons hv118
          obtain ⟨u123, us124, rfl, h125, hv126⟩ := repL_uncons hv122
          obtain rfl := of_v h125
          obtain rfl := repL_empty hv126
          refine ⟨_, _, rfl, ?_⟩
          refine ⟨_, _, rfl, ?_⟩
          refine ⟨rfl, ?_⟩
          refine ⟨_, rfl, ?_⟩
          refine ⟨_, rfl, ?_⟩
          refine ⟨(by show 2 ≤ sizeLine; decide), ?_⟩
          intro p127 n131
          have e128 := Rx.Ext.new (H := H116) (o := (HO.lst [V.str ("rows" : Str), V.int r112.2])) n131
          have hp129 : upd H116 p127 (HO.lst [V.str ("rows" : Str), V.int r112.2]) p127 = some (HO.lst [V.str ("rows" : Str), V.int r112.2]) := upd_same
          generalize upd H116 p127 (HO.lst [V.str ("rows" : Str), V.int r112.2]) = H132 at e128 hp129 ⊢
          have h130 : rep ms H132 (D.lst (([(D.v (V.str ("rows" : Str))), (D.v (V.int r112.2))] : List D).map (fun y_ : D => y_))) (.ref p127) := rep_lst_mk hW n131 e128 hp129 (repL_cons rep_v (repL_cons rep_v repL_nil))
          replace h4 := rep_ext e128 h4
          replace h52 := rep_ext e128 h52
          replace h108 := rep_ext e128 h108
          replace h113 := rep_ext e128 h113
          replace h121 := rep_ext e128 h121
          replace hW := hW.ret0 e128
          refine ⟨_, rfl, ?_⟩
          apply rep_lenSq (f := (fun y_ : D => y_)) (m := r112.1) h121
          refine ⟨(by show 3 ≤ sizeLine; decide), ?_⟩
          intro p133 n137
          have e134 := Rx.Ext.new (H := H132) (o := (HO.tup [u119, (V.ref p127), V.int (r112.1.2.length : Int)])) n137
          have hp135 : upd H132 p133 (HO.tup [u119, (V.ref p127), V.int (r112.1.2.length : Int)]) p133 = some (HO.tup [u119, (V.ref p127), V.int (r112.1.2.length : Int)]) := upd_same
          generalize upd H132 p133 (HO.tup [u119, (V.ref p127), V.int (r112.1.2.length : Int)]) = H138 at e134 hp135 ⊢
          have h136 : rep ms H138 (D.tup [(eSq (fun y_ : D => y_) r112.1), (D.lst (([(D.v (V.str ("rows" : Str))), (D.v (V.int r112.2))] : List D).map (fun y_ : D => y_))), (D.v (V.int (r112.1.2.length : Int)))]) (.ref p133) := rep_tup_mk hW n137 e134 hp135 (repL_cons h121 (repL_cons h130 (repL_cons rep_v repL_nil)))
          replace h4 := rep_ext e134 h4
          replace h52 := rep_ext e134 h52
          replace h108 := rep_ext e134 h108
          replace h113 := rep_ext e134 h113
          replace h121 := rep_ext e134 h121
          replace h130 := rep_ext e134 h130
          replace hW := hW.ret0 e134
          exact hQ ((eSq (fun y_ : D => y_) r112.1), (some ([(D.v (V.str ("rows" : Str))), (D.v (V.int r112.2))] : List D)), (r112.1.2.length : Int)) _ _ hM hW.out h136
        · skip
          refine ⟨_, rfl, ?_⟩
          refine ⟨rfl, ?_⟩
          refine ⟨_, rfl, ?_⟩
          refine ite3 hM (fun hM => ?_) (fun hM => ?_)
          · skip
            refine ⟨_, rfl, ?_⟩
            refine ⟨(by show 3 ≤ sizeLine; decide), ?_⟩
            intro p139 n143
            have e140 := Rx.Ext.new (H := H57) (o := (HO.tup [V.int (0 : Int), V.int (0 : Int), V.int (1 : Int)])) n143
            have hp141 : upd H57 p139 (HO.tup [V.int (0 : Int), V.int (0 : Int), V.int (1 : Int)]) p139 = some (HO.tup [V.int (0 : Int), V.int (0 : Int), V.int (1 : Int)]) := upd_same
            generalize upd H57 p139 (HO.tup [V.int (0 : Int), V.int (0 : Int), V.int (1 : Int)]) = H144 at e140 hp141 ⊢
            have h142 : rep ms H144 (D.tup [(D.v (V.int (0 : Int))), (D.v (V.int (0 : Int))), (D.v (V.int (1 : Int)))]) (.ref p139) := rep_tup_mk hW n143 e140 hp141 (repL_cons rep_v (repL_cons rep_v (repL_cons rep_v repL_nil)))
            replace h4 := rep_ext e140 h4
            replace h52 := rep_ext e140 h52
            replace hW := hW.ret0 e140
            refine ⟨(by show 1 ≤ sizeLine; decide), ?_⟩
            intro p145 n149
            have e146 := Rx.Ext.new (H := H144) (o := (HO.lst [(V.ref p139)])) n149
            have hp147 : upd H144 p145 (HO.lst [(V.ref p139)]) p145 = some (HO.lst [(V.ref p139)]) := upd_same
            generalize upd H144 p145 (HO.lst [(V.ref p139)]) = H150 at e146 hp147 ⊢
            have h148 : rep ms H150 (D.lst (([((0 : Int), (0 : Int), (1 : Int))] : List (Int × Int × Int)).map (fun y_ : (Int × Int × Int) => (D.tup [(D.v (V.int y_.1)), (D.v (V.int y_.2.1)), (D.v (V.int y_.2.2))])))) (.ref p145) := rep_lst_mk hW n149 e146 hp147 (repL_cons h142 repL_nil)
            replace h4 := rep_ext e146 h4
            replace h52 := rep_ext e146 h52
            replace h142 := rep_ext e146 h142
            replace hW := hW.ret0 e146
            refine ⟨_, rfl, ?_⟩
            apply rep_lenL (e := (fun y_ : (Int × Int × Int) => (D.tup [(D.v (V.int y_.1)), (D.v (V.int y_.2.1)), (D.v (V.int y_.2.2))]))) (xs := ys50) h52
            refine ⟨_, _, rfl, rfl, ?_⟩
            obtain ⟨g151, hM⟩ := hM
            apply rep_mulX (k := ((25 : Int) - (ys50.length : Int))) (e := (fun y_ : (Int × Int × Int) => (D.tup [(D.v (V.int y_.1)), (D.v (V.int y_.2.1)), (D.v (V.int y_.2.2))]))) (xs := ([((0 : Int), (0 : Int), (1 : Int))] : List (Int × Int × Int))) h148 rfl g151
            intro vs152 hr153
            intro p154 n158
            have e155 := Rx.Ext.new (H := H150) (o := (HO.lst (vs152))) n158
            have hp156 : upd H150 p154 (HO.lst (vs152)) p154 = some (HO.lst (vs152)) := upd_same
            generalize upd H150 p154 (HO.lst (vs152)) = H159 at e155 hp156 ⊢
            have h157 : rep ms H159 (D.lst ((List.flatten (List.replicate (Int.toNat ((25 : Int) - (ys50.length : Int))) ([((0 : Int), (0 : Int), (1 : Int))] : List (Int × Int × Int)))).map (fun y_ : (Int × Int × Int) => (D.tup [(D.v (V.int y_.1)), (D.v (V.int y_.2.1)), (D.v (V.int y_.2.2))])))) (.ref p154) := rep_lst_mk hW n158 e155 hp156 hr153
            replace h4 := rep_ext e155 h4
            replace h52 := rep_ext e155 h52
            replace h142 := rep_ext e155 h142
            replace h148 := rep_ext e155 h148
            replace hW := hW.ret0 e155
            obtain ⟨g160, hM⟩ := hM
            apply rep_cat (xs := ys50) (ys := (List.flatten (List.replicate (Int.toNat ((25 : Int) - (ys50.length : Int))) ([((0 : Int), (0 : Int), (1 : Int))] : List (Int × Int × Int))))) (e := (fun y_ : (Int × Int × Int) => (D.tup [(D.v (V.int y_.1)), (D.v (V.int y_.2.1)), (D.v (V.int y_.2.2))]))) hW h52 h157 g160
            intro p161 H164 e163 h162
            replace h4 := rep_ext e163 h4
            replace h52 := rep_ext e163 h52
            replace h142 := rep_ext e163 h142
            replace h148 := rep_ext e163 h148
            replace h157 := rep_ext e163 h157
            replace hW := hW.ret0 e163
            obtain ⟨KB165, hM, hKKB165⟩ := hM
            refine ⟨fun v H1 => ∃ r : (Bool × List (Int × Int × Int)), KB165 r ∧ Wd ms [(ap, none)] [] H_0 H1 ∧ Keep ms H164 H1 ∧ rep ms H1 (eSq (fun y_ : (Int × Int × Int) => (D.tup [(D.v (V.int y_.1)), (D.v (V.int y_.2.1)), (D.v (V.int y_.2.2))])) r) v, ?_, ?_⟩
            · skip
              have hj167 := Keep.refl (ms := ms) (H := H164)
              refine ⟨_, rfl, ?_⟩
              refine ⟨ms, ap, (2 : Int), _, rfl, hW.enterP, hM, fun r168 u171 H172 hM e170 h169 => ?_⟩
              replace h4 := rep_ret hW e170 h4
              replace h52 := rep_ret hW e170 h52
              replace h142 := rep_ret hW e170 h142
              replace h148 := rep_ret hW e170 h148
              replace h157 := rep_ret hW e170 h157
              replace h162 := rep_ret hW e170 h162
              replace hj167 := keep_ret hW e170 hj167
              replace hW := hW.retP e170
              obtain rfl := of_v h169
              refine ⟨rfl, ?_⟩
              refine ⟨_, rfl, ?_⟩
              refine ite3 hM (fun hM => ?_) (fun hM => ?_)
              · skip
                refine ⟨_, rfl, ?_⟩
                exact ⟨((false, (ys50 ++ (List.flatten (List.replicate (Int.toNat ((25 : Int) - (ys50.length : Int))) ([((0 : Int), (0 : Int), (1 : Int))] : List (Int × Int × Int)))))) : (Bool × List (Int × Int × Int))), hM, hW, hj167, (rep_sqL h162)⟩
              · skip
                refine ⟨_, rfl, ?_⟩
                apply rep_tupOf (ds := (ys50 ++ (List.flatten (List.replicate (Int.toNat ((25 : Int) - (ys50.length : Int))) ([((0 : Int), (0 : Int), (1 : Int))] : List (Int × Int × Int))))).map (fun y_ : (Int × Int × Int) => (D.tup [(D.v (V.int y_.1)), (D.v (V.int y_.2.1)), (D.v (V.int y_.2.2))]))) h162
                intro ys173 hr174
                intro p175 np176
                have e177 := Rx.Ext.new (H := H172) (o := (HO.tup ys173)) np176
                have hp178 : upd H172 p175 (HO.tup ys173) p175 = some (HO.tup ys173) := upd_same
                generalize upd H172 p175 (HO.tup ys173) = H180 at e177 hp178 ⊢
                have h179 : rep ms H180 (D.tup ((ys50 ++ (List.flatten (List.replicate (Int.toNat ((25 : Int) - (ys50.length : Int))) ([((0 : Int), (0 : Int), (1 : Int))] : List (Int × Int × Int))))).map (fun y_ : (Int × Int × Int) => (D.tup [(D.v (V.int y_.1)), (D.v (V.int y_.2.1)), (D.v (V.int y_.2.2))])))) (.ref p175) := rep_tup_mk hW np176 e177 hp178 hr174
                replace h4 := rep_ext e177 h4
                replace h52 := rep_ext e177 h52
                replace h142 := rep_ext e177 h142
                replace h148 := rep_ext e177 h148
                replace h157 := rep_ext e177 h157
                replace h162 := rep_ext e177 h162
                replace hj167 := keep_ext e177 hj167
                replace hW := hW.ret0 e177
                exact ⟨((true, (ys50 ++ (List.flatten (List.replicate (Int.toNat ((25 : Int) - (ys50.length : Int))) ([((0 : Int), (0 : Int), (1 : Int))] : List (Int × Int × Int)))))) : (Bool × List (Int × Int × Int))), hM, hW, hj167, (rep_sqT h179)⟩
            · skip
              rintro u183 Hj166 ⟨r181, hr, hW, hj167, h182⟩
              replace hM := hKKB165 r181 hr
              replace h4 := rep_keep hj167 h4
              replace h52 := rep_keep hj167 h52
              replace h142 := rep_keep hj167 h142
              replace h148 := rep_keep hj167 h148
              replace h157 := rep_keep hj167 h157
              replace h162 := rep_keep hj167 h162
              refine ⟨_, rfl, ?_⟩
              apply rep_lenL (e := (fun y_ : (Int × Int × Int) => (D.tup [(D.v (V.int y_.1)), (D.v (V.int y_.2.1)), (D.v (V.int y_.2.2))]))) (xs := (ys50 ++ (List.flatten (List.replicate (Int.toNat ((25 : Int) - (ys50.length : Int))) ([((0 : Int), (0 : Int), (1 : Int))] : List (Int × Int × Int)))))) h162
              refine ⟨(by show 3 ≤ sizeLine; decide), ?_⟩
              intro p184 n188
              have e185 := Rx.Ext.new (H := Hj166) (o := (HO.tup [u183, V.non, V.int ((ys50 ++ (List.flatten (List.replicate (Int.toNat ((25 : Int) - (ys50.length : Int))) ([((0 : Int), (0 : Int), (1 : Int))] : List (Int × Int × Int))))).length : Int)])) n188
              have hp186 : upd Hj166 p184 (HO.tup [u183, V.non, V.int ((ys50 ++ (List.flatten (List.replicate (Int.toNat ((25 : Int) - (ys50.length : Int))) ([((0 : Int), (0 : Int), (1 : Int))] : List (Int × Int × Int))))).length : Int)]) p184 = some (HO.tup [u183, V.non, V.int ((ys50 ++ (List.flatten (List.replicate (Int.toNat ((25 : Int) - (ys50.length : Int))) ([((0 : Int), (0 : Int), (1 : Int))] : List (Int × Int × Int))))).length : Int)]) := upd_same
              generalize upd Hj166 p184 (HO.tup [u183, V.non, V.int ((ys50 ++ (List.flatten (List.replicate (Int.toNat ((25 : Int) - (ys50.length : Int))) ([((0 : Int), (0 : Int), (1 : Int))] : List (Int × Int × Int))))).length : Int)]) = H189 at e185 hp186 ⊢
              have h187 : rep ms H189 (D.tup [(eSq (fun y_ : (Int × Int × Int) => (D.tup [(D.v (V.int y_.1)), (D.v (V.int y_.2.1)), (D.v (V.int y_.2.2))])) r181), (D.v V.non), (D.v (V.int ((ys50 ++ (List.flatten (List.replicate (Int.toNat ((25 : Int) - (ys50.length : Int))) ([((0 : Int), (0 : Int), (1 : Int))] : List (Int × Int × Int))))).length : Int)))]) (.ref p184) := rep_tup_mk hW n188 e185 hp186 (repL_cons h182 (repL_cons rep_v (repL_cons rep_v repL_nil)))
              replace h4 := rep_ext e185 h4
              replace h52 := rep_ext e185 h52
              replace h142 := rep_ext e185 h142
              replace h148 := rep_ext e185 h148
              replace h157 := rep_ext e185 h157
              replace h162 := rep_ext e185 h162
              replace h182 := rep_ext e185 h182
              replace hW := hW.ret0 e185
              exact hQ ((eSq (fun y_ : (Int × Int × Int) => (D.tup [(D.v (V.int y_.1)), (D.v (V.int y_.2.1)), (D.v (V.int y_.2.2))])) r181), (none : (Option (List D))), ((ys50 ++ (List.flatten (List.replicate (Int.toNat ((25 : Int) - (ys50.length : Int))) ([((0 : Int), (0 : Int), (1 : Int))] : List (Int × Int × Int))))).length : Int)) _ _ hM hW.out h187
          · skip
            obtain ⟨KB190, hM, hKKB190⟩ := hM
            refine ⟨fun v H1 => ∃ r : (Bool × List (Int × Int × Int)), KB190 r ∧ Wd ms [(ap, none)] [] H_0 H1 ∧ Keep ms H57 H1 ∧ rep ms H1 (eSq (fun y_ : (Int × Int × Int) => (D.tup [(D.v (V.int y_.1)), (D.v (V.int y_.2.1)), (D.v (V.int y_.2.2))])) r) v, ?_, ?_⟩
            · skip
              have hj192 := Keep.refl (ms := ms) (H := H57)
              refine ⟨_, rfl, ?_⟩
              refine ⟨ms, ap, (2 : Int), _, rfl, hW.enterP, hM, fun r193 u196 H197 hM e195 h194 => ?_⟩
              replace h4 := rep_ret hW e195 h4
              replace h52 := rep_ret hW e195 h52
              replace hj192 := keep_ret hW e195 hj192
              replace hW := hW.retP e195
              obtain rfl := of_v h194
              refine ⟨rfl, ?_⟩
              refine ⟨_, rfl, ?_⟩
              refine ite3 hM (fun hM => ?_) (fun hM => ?_)
              · skip
                refine ⟨_, rfl, ?_⟩
                exact ⟨((false, ys50) : (Bool × List (Int × Int × Int))), hM, hW, hj192, (rep_sqL h52)⟩
              · skip
                refine ⟨_, rfl, ?_⟩
                apply rep_tupOf (ds := ys50.map (fun y_ : (Int × Int × Int) => (D.tup [(D.v (V.int y_.1)), (D.v (V.int y_.2.1)), (D.v (V.int y_.2.2))]))) h52
                intro ys198 hr199
                intro p200 np201
                have e202 := Rx.Ext.new (H := H197) (o := (HO.tup ys198)) np201
                have hp203 : upd H197 p200 (HO.tup ys198) p200 = some (HO.tup ys198) := upd_same
                generalize upd H197 p200 (HO.tup ys198) = H205 at e202 hp203 ⊢
                have h204 : rep ms H205 (D.tup (ys50.map (fun y_ : (Int × Int × Int) => (D.tup [(D.v (V.int y_.1)), (D.v (V.int y_.2.1)), (D.v (V.int y_.2.2))])))) (.ref p200) := rep_tup_mk hW np201 e202 hp203 hr199
                replace h4 := rep_ext e202 h4
                replace h52 := rep_ext e202 h52
                replace hj192 := keep_ext e202 hj192
                replace hW := hW.ret0 e202
                exact ⟨((true, ys50) : (Bool × List (Int × Int × Int))), hM, hW, hj192, (rep_sqT h204)⟩
            · skip
              rintro u208 Hj191 ⟨r206, hr, hW, hj192, h207⟩
              replace hM := hKKB190 r206 hr
              replace h4 := rep_keep hj192 h4
              replace h52 := rep_keep hj192 h52
              refine ⟨_, rfl, ?_⟩
              apply rep_lenL (e := (fun y_ : (Int × Int × Int) => (D.tup [(D.v (V.int y_.1)), (D.v (V.int y_.2.1)), (D.v (V.int y_.2.2))]))) (xs := ys50) h52
              refine ⟨(by show 3 ≤ sizeLine; decide), ?_⟩
              intro p209 n213
              have e210 := Rx.Ext.new (H := Hj191) (o := (HO.tup [u208, V.non, V.int (ys50.length : Int)])) n213
              have hp211 : upd Hj191 p209 (HO.tup [u208, V.non, V.int (ys50.length : Int)]) p209 = some (HO.tup [u208, V.non, V.int (ys50.length : Int)]) := upd_same
              generalize upd Hj191 p209 (HO.tup [u208, V.non, V.int (ys50.length : Int)]) = H214 at e210 hp211 ⊢
              have h212 : rep ms H214 (D.tup [(eSq (fun y_ : (Int × Int × Int) => (D.tup [(D.v (V.int y_.1)), (D.v (V.int y_.2.1)), (D.v (V.int y_.2.2))])) r206), (D.v V.non), (D.v (V.int (ys50.length : Int)))]) (.ref p209) := rep_tup_mk hW n213 e210 hp211 (repL_cons h207 (repL_cons rep_v (repL_cons rep_v repL_nil)))
              replace h4 := rep_ext e210 h4
              replace h52 := rep_ext e210 h52
              replace h207 := rep_ext e210 h207
              replace hW := hW.ret0 e210
              exact hQ ((eSq (fun y_ : (Int × Int × Int) => (D.tup [(D.v (V.int y_.1)), (D.v (V.int y_.2.1)), (D.v (V.int y_.2.2))])) r206), (none : (Option (List D))), (ys50.length : Int)) _ _ hM hW.out h212
def M_is_integer (x_value : D) (KM : Bool → Prop) : Prop :=
  (tyOk x_value = true ∧ (if (isT x_value "int") = true then (tyOk x_value = true ∧ (KM (!(isT x_value "bool")))) else (KM false)))
def sp_is_integer (A : Ad) : Sp := fun vs H Q _ => ∃ (ms : List Addr) (v_value : V) (x_value : D) (KM : Bool → Prop), vs = [v_value] ∧ Wd ms [] [] H H ∧ rep ms H x_value v_value ∧ M_is_integer x_value KM ∧ ∀ (r : Bool) (u : V) (H1 : Hp), KM r → Ret [] H H1 → rep ms H1 (D.v (V.bl r)) u → Q u H1
set_option maxHeartbeats 16000000 in
theorem ok_is_integer {P : Program} {w : World} {K : PySem.W.Frag} {mg : Str → Option Value} {base : Heap} {A : Ad} (T : Txt w K mg base A) : FnOk P w K mg base CX0 1 A.a_is_integer A.d_is_integer ["value"] (sp_is_integer A) := by
  refine T.F_is_integer.ok sc_is_integer (fun vs H Q E h => ?_) (fun cdv A_ outer s_ H_0 vs Q E hr h => ?_)
  · obtain ⟨ms, v_value, x_value, KM, rfl, _⟩ := h
    rfl
  · obtain ⟨ms, v_value, x_value, KM, rfl, hW, h_value, hM, hQ⟩ := h
    unfold M_is_integer at hM
    refine ⟨_, (pss_one (ps_ret (pe_and (pe_callB (call_isiK (K := K) rfl) (by rfl) T.z_isinstance (by decide +kernel) (pa_cons (pv 0) (pa_cons (pe_bltn (v := .ty "int") (by rfl) T.z_int (by decide +kernel) rfl) pa_nil))) (pe_one (pe_not (pe_callB (call_isiK (K := K) rfl) (by rfl) T.z_isinstance (by decide +kernel) (pa_cons (pv 0) (pa_cons (pe_bltn (v := .ty "bool") (by rfl) T.z_bool (by decide +kernel) rfl) pa_nil)))))))), ?_⟩
    refine ⟨_, rfl, ?_⟩
    obtain ⟨g1, hM⟩ := hM
    apply rep_isi1 (d := x_value) (a := tyN x_value) (b := "int") (r := isT x_value "int") h_value g1 rfl (kitB_isT g1 (by simp))
    refine ⟨_, rfl, ?_⟩
    refine ite3 hM (fun hM => ?_) (fun hM => ?_)
    · skip
      refine ⟨_, rfl, ?_⟩
      obtain ⟨g2, hM⟩ := hM
      apply rep_isi1 (d := x_value) (a := tyN x_value) (b := "bool") (r := isT x_value "bool") h_value g2 rfl (kitB_isT g2 (by simp))
      refine ⟨_, rfl, ?_⟩
      exact hQ (!(isT x_value "bool")) _ _ hM hW.out rep_v
    · skip
      exact hQ false _ _ hM hW.out rep_v
def M_is_count (x_value : D) (KM : Bool → Prop) : Prop :=
  (M_is_integer x_value fun r1 => (if r1 = true then (∃ y6 : Int, x_value = D.v (V.int y6) ∧ (KM (decide ((0 : Int) ≤ y6)))) else (KM false)))
def sp_is_count (A : Ad) : Sp := fun vs H Q _ => ∃ (ms : List Addr) (v_value : V) (x_value : D) (KM : Bool → Prop), vs = [v_value] ∧ Wd ms [] [] H H ∧ rep ms H x_value v_value ∧ M_is_count x_value KM ∧ ∀ (r : Bool) (u : V) (H1 : Hp), KM r → Ret [] H H1 → rep ms H1 (D.v (V.bl r)) u → Q u H1
set_option maxHeartbeats 16000000 in
theorem ok_is_count {P : Program} {w : World} {K : PySem.W.Frag} {mg : Str → Option Value} {base : Heap} {A : Ad} (T : Txt w K mg base A) : FnOk P w K mg base CX0 2 A.a_is_count A.d_is_count ["value"] (sp_is_count A) := by
  refine T.F_is_count.ok sc_is_count (fun vs H Q E h => ?_) (fun cdv A_ outer s_ H_0 vs Q E hr h => ?_)
  · obtain ⟨ms, v_value, x_value, KM, rfl, _⟩ := h
    rfl
  · obtain ⟨ms, v_value, x_value, KM, rfl, hW, h_value, hM, hQ⟩ := h
    unfold M_is_count at hM
    refine ⟨_, (pss_one (ps_ret (pe_and (pe_call (ok_is_integer T) (hr.mono (by decide)) (by rfl) T.g_is_integer T.F_is_integer.kp T.b_is_integer .nil pass0 (pa_cons (pv 0) pa_nil)) (pe_one (pe_cmpR op_ge (pv 0) pe_int (nomark _)))))), ?_⟩
    refine ⟨_, rfl, ?_⟩
    refine ⟨ms, _, x_value, _, rfl, hW.enter0, h_value, hM, fun r1 u4 H5 hM e3 h2 => ?_⟩
    replace h_value := rep_ext e3 h_value
    replace hW := hW.ret0 e3
    obtain rfl := of_v h2
    refine ⟨_, rfl, ?_⟩
    refine ite3 hM (fun hM => ?_) (fun hM => ?_)
    · skip
      refine ⟨_, rfl, ?_⟩
      obtain ⟨y6, hy7, hM⟩ := hM
      have hu8 : v_value = V.int y6 := of_v (rep_cast hy7 h_value)
      try rw [hu8]
      refine ⟨_, _, rfl, rfl, ?_⟩
      try rw [← hu8]
      exact hQ (decide ((0 : Int) ≤ y6)) _ _ hM hW.out rep_v
    · skip
      exact hQ false _ _ hM hW.out rep_v
def M_check_first (x_first : D) (KM : Unit → Prop) (KE_InvalidFirst : D → Prop) : Prop :=
  (M_is_count x_first fun r1 => (if (!r1) = true then (KE_InvalidFirst x_first) else (KM ())))
def sp_check_first (A : Ad) : Sp := fun vs H Q E => ∃ (ms : List Addr) (v_first : V) (x_first : D) (KM : Unit → Prop) (KE_InvalidFirst : D → Prop), vs = [v_first] ∧ Wd ms [] [] H H ∧ rep ms H x_first v_first ∧ M_check_first x_first KM KE_InvalidFirst ∧ (∀ (r : Unit) (u : V) (H1 : Hp), KM r → Ret [] H H1 → rep ms H1 (D.v V.non) u → Q u H1) ∧ (∀ (e0_ : D) (cls : Value) (d : Option Addr) (H1 : Hp), KE_InvalidFirst e0_ → Ret [] H H1 → excR ms H1 A.c_InvalidFirst [("value" : Str)] [e0_] cls d → E cls d H1)
set_option maxHeartbeats 16000000 in
theorem ok_check_first {P : Program} {w : World} {K : PySem.W.Frag} {mg : Str → Option Value} {base : Heap} {A : Ad} (T : Txt w K mg base A) : FnOk P w K mg base (L2.CX P w) 3 A.a_check_first A.d_check_first ["first"] (sp_check_first A) := by
  refine T.F_check_first.okX sc_check_first (fun vs H Q E h => ?_) (fun cdv A_ outer s_ H_0 vs Q E hr h => ?_)
  · obtain ⟨ms, v_first, x_first, KM, KE_InvalidFirst, rfl, _⟩ := h
    rfl
  · obtain ⟨ms, v_first, x_first, KM, KE_InvalidFirst, rfl, hW, h_first, hM, hQ, hE_InvalidFirst⟩ := h
    unfold M_check_first at hM
    refine ⟨_, (pss_one (ps_if (pt_not (pt_val (pe_call (ok_is_count T) (hr.mono (by decide)) (by rfl) T.g_is_count T.F_is_count.kp T.b_is_count .nil pass0 (pa_cons (pv 0) pa_nil)))) (pss_one (ps_raise rfl (tkE rfl rfl rfl rfl) (pmk_oex T.ox_InvalidFirst T.ii_InvalidFirst T.ti_InvalidFirst (ok_InvalidFirst_init T) (hr.mono (by decide)) T.b_InvalidFirst_init .nil pass0 (by rfl) T.g_InvalidFirst (pa_cons (pv 0) pa_nil)))) pss_nil)), ?_⟩
    refine ⟨_, rfl, ?_⟩
    refine ⟨ms, _, x_first, _, rfl, hW.enter0, h_first, hM, fun r1 u4 H5 hM e3 h2 => ?_⟩
    replace h_first := rep_ext e3 h_first
    replace hW := hW.ret0 e3
    obtain rfl := of_v h2
    refine ⟨_, rfl, ?_⟩
    refine ite3 hM (fun hM => ?_) (fun hM => ?_)
    · skip
      refine ⟨_, rfl, ?_⟩
      refine exc_mk1 fun dx6 nd7 => ?_
      obtain ⟨er8, ex9⟩ := exc_out (n := "value") (dv := x_first) (C := A.c_InvalidFirst) hW h_first nd7
      exact hE_InvalidFirst x_first _ _ _ hM er8 (excR_sub (by intro a_ h_; simp [h_]) ex9)
    · skip
      exact hQ () _ _ hM hW.out rep_v
def M_is_list (x_value : D) (KM : Bool → Prop) : Prop :=
  (tyOk x_value = true ∧ (KM (isT x_value "list" || isT x_value "tuple")))
def sp_is_list (A : Ad) : Sp := fun vs H Q _ => ∃ (ms : List Addr) (v_value : V) (x_value : D) (KM : Bool → Prop), vs = [v_value] ∧ Wd ms [] [] H H ∧ rep ms H x_value v_value ∧ M_is_list x_value KM ∧ ∀ (r : Bool) (u : V) (H1 : Hp), KM r → Ret [] H H1 → rep ms H1 (D.v (V.bl r)) u → Q u H1
set_option maxHeartbeats 16000000 in
theorem ok_is_list {P : Program} {w : World} {K : PySem.W.Frag} {mg : Str → Option Value} {base : Heap} {A : Ad} (T : Txt w K mg base A) : FnOk P w K mg base CX0 1 A.a_is_list A.d_is_list ["value"] (sp_is_list A) := by
  refine T.F_is_list.ok sc_is_list (fun vs H Q E h => ?_) (fun cdv A_ outer s_ H_0 vs Q E hr h => ?_)
  · obtain ⟨ms, v_value, x_value, KM, rfl, _⟩ := h
    rfl
  · obtain ⟨ms, v_value, x_value, KM, rfl, hW, h_value, hM, hQ⟩ := h
    unfold M_is_list at hM
    refine ⟨_, (pss_one (ps_ret (pe_callB (call_isiTK (K := K) rfl) (by rfl) T.z_isinstance (by decide +kernel) (pa_cons (pv 0) (pa_cons (pe_tup (pa_cons (pe_bltn (v := .ty "list") (by rfl) T.z_list (by decide +kernel) rfl) (pa_cons (pe_bltn (v := .ty "tuple") (by rfl) T.z_tuple (by decide +kernel) rfl) pa_nil))) pa_nil))))), ?_⟩
    refine ⟨_, rfl, ?_⟩
    refine ⟨(by show 2 ≤ sizeLine; decide), ?_⟩
    intro p1 n2
    have e3 := Rx.Ext.new (H := H_0) (o := (HO.tup [V.ty "list", V.ty "tuple"])) n2
    have hp4 : upd H_0 p1 (HO.tup [V.ty "list", V.ty "tuple"]) p1 = some (HO.tup [V.ty "list", V.ty "tuple"]) := upd_same
    generalize upd H_0 p1 (HO.tup [V.ty "list", V.ty "tuple"]) = H5 at e3 hp4 ⊢
    replace h_value := rep_ext e3 h_value
    replace hW := hW.ret0 e3
    obtain ⟨g6, hM⟩ := hM
    apply rep_isi2 (d := x_value) (a := tyN x_value) (b := "list") (c := "tuple") (r1 := isT x_value "list") (r2 := isT x_value "tuple") h_value g6 rfl hp4 (kitB_isT g6 (by simp)) (kitB_isT g6 (by simp))
    exact hQ (isT x_value "list" || isT x_value "tuple") _ _ hM hW.out rep_v
def M_check_values (x_early : D) (KM : Unit → Prop) (KE_InvalidValues : D → Prop) : Prop :=
  (M_is_list x_early fun r1 => (if (!r1) = true then (KE_InvalidValues (D.v V.non)) else (∃ y10 : (Bool × List D), x_early = (eSq (fun y_ : D => y_) y10) ∧ (forC (fun (x18 : (Int × D)) (s20 : Unit) (k21 : Unit → Prop) => (M_is_integer x18.2 fun r41 => (if (!r41) = true then (KE_InvalidValues (D.v (V.int x18.1))) else (k21 ())))) ((rangeI 0 (y10.2.length : Int)).zip y10.2) () fun s50 => (KM ())))))
def sp_check_values (A : Ad) : Sp := fun vs H Q E => ∃ (ms : List Addr) (v_early : V) (x_early : D) (KM : Unit → Prop) (KE_InvalidValues : D → Prop), vs = [v_early] ∧ Wd ms [] [] H H ∧ rep ms H x_early v_early ∧ M_check_values x_early KM KE_InvalidValues ∧ (∀ (r : Unit) (u : V) (H1 : Hp), KM r → Ret [] H H1 → rep ms H1 (D.v V.non) u → Q u H1) ∧ (∀ (e0_ : D) (cls : Value) (d : Option Addr) (H1 : Hp), KE_InvalidValues e0_ → Ret [] H H1 → excR ms H1 A.c_InvalidValues [("position" : Str)] [e0_] cls d → E cls d H1)
set_option maxHeartbeats 16000000 in
theorem ok_check_values {P : Program} {w : World} {K : PySem.W.Frag} {mg : Str → Option Value} {base : Heap} {A : Ad} (T : Txt w K mg base A) : FnOk P w K mg base (L2.CX P w) 3 A.a_check_values A.d_check_values ["early"] (sp_check_values A) := by
  refine T.F_check_values.okX sc_check_values (fun vs H Q E h => ?_) (fun cdv A_ outer s_ H_0 vs Q E hr h => ?_)
  · obtain ⟨ms, v_early, x_early, KM, KE_InvalidValues, rfl, _⟩ := h
    rfl
  · obtain ⟨ms, v_early, x_early, KM, KE_InvalidValues, rfl, hW, h_early, hM, hQ, hE_InvalidValues⟩ := h
    unfold M_check_values at hM
    refine ⟨_, (pss_cons (ps_if (pt_not (pt_val (pe_call (ok_is_list T) (hr.mono (by decide)) (by rfl) T.g_is_list T.F_is_list.kp T.b_is_list .nil pass0 (pa_cons (pv 0) pa_nil)))) (pss_one (ps_raise rfl (tkE rfl rfl rfl rfl) (pmk_oex T.ox_InvalidValues T.ii_InvalidValues T.ti_InvalidValues (ok_InvalidValues_init T) (hr.mono (by decide)) T.b_InvalidValues_init .nil pass0 (by rfl) T.g_InvalidValues (pa_cons pe_non pa_nil)))) pss_nil) (pss_one (ps_for (passes_of rfl) rfl (pi_enumS (K := K) rfl (by rfl) T.z_enumerate (pa_cons (pv 0) pa_nil)) (pg_tup rfl (pgs_cons (pg_name (i := 1) sc_check_values.nd rfl (by first | exact Or.inl rfl | exact Or.inr rfl)) (pgs_cons (pg_name (i := 2) sc_check_values.nd rfl (by first | exact Or.inl rfl | exact Or.inr rfl)) pgs_nil))) (pss_one (ps_if (pt_not (pt_val (pe_call (ok_is_integer T) (hr.mono (by decide)) (by rfl) T.g_is_integer T.F_is_integer.kp T.b_is_integer .nil pass0 (pa_cons (pv 2) pa_nil)))) (pss_one (ps_raise rfl (tkE rfl rfl rfl rfl) (pmk_oex T.ox_InvalidValues T.ii_InvalidValues T.ti_InvalidValues (ok_InvalidValues_init T) (hr.mono (by decide)) T.b_InvalidValues_init .nil pass0 (by rfl) T.g_InvalidValues (pa_cons (pv 1) pa_nil)))) pss_nil))))), ?_⟩
    refine ⟨_, rfl, ?_⟩
    refine ⟨ms, _, x_early, _, rfl, hW.enter0, h_early, hM, fun r1 u4 H5 hM e3 h2 => ?_⟩
    replace h_early := rep_ext e3 h_early
    replace hW := hW.ret0 e3
    obtain rfl := of_v h2
    refine ⟨_, rfl, ?_⟩
    refine ite3 hM (fun hM => ?_) (fun hM => ?_)
    · skip
      refine exc_mk1 fun dx6 nd7 => ?_
      obtain ⟨er8, ex9⟩ := exc_out (n := "position") (dv := (D.v V.non)) (C := A.c_InvalidValues) hW rep_v nd7
      exact hE_InvalidValues (D.v V.non) _ _ _ hM er8 (excR_sub (by intro a_ h_; simp [h_]) ex9)
    · skip
      obtain ⟨y10, hy11, hM⟩ := hM
      have h12 : rep ms H5 (eSq (fun y_ : D => y_) y10) v_early := rep_cast hy11 h_early
      refine ⟨_, rfl, ?_⟩
      apply rep_iterES (f := (fun y_ : D => y_)) (m := y10) h12
      intro a13 xs14 _ an15 hp16
      refine for_pairG (S := Unit) (e := fun i_ => .v (.int i_)) (e2 := (fun y_ : D => y_)) (ms := ms) (fun (s : Unit) σ_ h_ => ∃ (w_0 : Option V), ∃ (w_1 : Option V), σ_ = [some v_early, w_0, w_1] ∧ Wd ms [] [] H_0 h_ ∧ Keep ms H5 h_) () an15 (fun _ _ _ z_ => by obtain ⟨_, _, _, _, q_⟩ := z_; exact q_) (fun _ _ _ z_ => by obtain ⟨_, _, _, w_, _⟩ := z_; exact w_.tr) hM ⟨_, _, rfl, hW, Keep.refl⟩ ?_ ?_
      · skip
        rintro x18 u19 s20 k21 _ H30 H29 ⟨w26, w27, rfl, hW, hk22⟩ ex28 h23 hM Nx24 hN25
        replace h_early := rep_keep hk22 h_early
        replace h12 := rep_keep hk22 h12
        replace h_early := rep_ext ex28 h_early
        replace h12 := rep_ext ex28 h12
        replace hk22 := keep_ext ex28 hk22
        replace hW := hW.ret0 ex28
        apply rep_gtup h23 rfl
        intro vs31 hv32
        obtain ⟨u33, us34, rfl, h35, hv36⟩ := repL_uncons hv32
        obtain rfl := of_v h35
        obtain ⟨u37, us38, rfl, h39, hv40⟩ := repL_uncons hv36
        obtain rfl := repL_empty hv40
        refine ⟨_, _, rfl, ?_⟩
        refine ⟨_, _, rfl, ?_⟩
        refine ⟨rfl, ?_⟩
        refine ⟨_, rfl, ?_⟩
        refine ⟨ms, _, x18.2, _, rfl, hW.enter0, h39, hM, fun r41 u44 H45 hM e43 h42 => ?_⟩
        replace h_early := rep_ext e43 h_early
        replace h12 := rep_ext e43 h12
        replace hk22 := keep_ext e43 hk22
        replace h23 := rep_ext e43 h23
        replace h39 := rep_ext e43 h39
        replace hW := hW.ret0 e43
        obtain rfl := of_v h42
        refine ⟨_, rfl, ?_⟩
        refine ite3 hM (fun hM => ?_) (fun hM => ?_)
        · skip
          refine ⟨_, rfl, ?_⟩
          refine exc_mk1 fun dx46 nd47 => ?_
          obtain ⟨er48, ex49⟩ := exc_out (n := "position") (dv := (D.v (V.int x18.1))) (C := A.c_InvalidValues) hW rep_v nd47
          exact hE_InvalidValues (D.v (V.int x18.1)) _ _ _ hM er48 (excR_sub (by intro a_ h_; simp [h_]) ex49)
        · skip
          exact hN25 () _ _ hM ⟨_, _, rfl, hW, hk22⟩
      · skip
        rintro s50 _ H54 hM ⟨w52, w53, rfl, hW, hk51⟩
        replace h_early := rep_keep hk51 h_early
        replace h12 := rep_keep hk51 h12
        exact hQ () _ _ hM hW.out rep_v
def M_is_row (x_value : D) (KM : Bool → Prop) : Prop :=
  (tyOk x_value = true ∧ (if (isT x_value "tuple") = true then (∃ y2 : (List D), x_value = (D.tup (y2.map (fun y_ : D => y_))) ∧ (if (decide (V.int (y2.length : Int) = V.int (3 : Int))) = true then (y2.length < 100000 ∧ mapC (fun (x21 : D) (k14 : Bool → Prop) => (M_is_integer x21 fun r27 => (k14 r27))) y2 [] fun ys37 => (KM (List.all ys37 id))) else (KM false))) else (KM false)))
def sp_is_row (A : Ad) : Sp := fun vs H Q _ => ∃ (ms : List Addr) (v_value : V) (x_value : D) (KM : Bool → Prop), vs = [v_value] ∧ Wd ms [] [] H H ∧ rep ms H x_value v_value ∧ M_is_row x_value KM ∧ ∀ (r : Bool) (u : V) (H1 : Hp), KM r → Ret [] H H1 → rep ms H1 (D.v (V.bl r)) u → Q u H1
set_option maxHeartbeats 16000000 in
theorem ok_is_row {P : Program} {w : World} {K : PySem.W.Frag} {mg : Str → Option Value} {base : Heap} {A : Ad} (T : Txt w K mg base A) : FnOk P w K mg base CX0 2 A.a_is_row A.d_is_row ["value"] (sp_is_row A) := by
  refine T.F_is_row.ok sc_is_row (fun vs H Q E h => ?_) (fun cdv A_ outer s_ H_0 vs Q E hr h => ?_)
  · obtain ⟨ms, v_value, x_value, KM, rfl, _⟩ := h
    rfl
  · obtain ⟨ms, v_value, x_value, KM, rfl, hW, h_value, hM, hQ⟩ := h
    unfold M_is_row at hM
    refine ⟨_, (pss_one (ps_ret (pe_and (pe_callB (call_isiK (K := K) rfl) (by rfl) T.z_isinstance (by decide +kernel) (pa_cons (pv 0) (pa_cons (pe_bltn (v := .ty "tuple") (by rfl) T.z_tuple (by decide +kernel) rfl) pa_nil))) (pe_and (pe_cmpR op_eq (pe_callB (call_lenK (K := K) rfl) (by rfl) T.z_len PySem.boot_len (pa_cons (pv 0) pa_nil)) pe_int (nomark _)) (pe_one (pe_callB (cr_allK (K := K) rfl rfl) (by rfl) T.z_all (by decide +kernel) (pa_cons (pe_lc (own := [("part", 1)]) (g := gName 1) rfl sc_is_row.nd (pi_tup (pv 0)) (blkOk_by (N := ["value", "part"]) (sc := defScope s_is_row) (by decide +kernel)) (fun _ _ _ _ _ => pg_name (i := 1) sc_is_row.nd rfl (by first | exact Or.inl rfl | exact Or.inr rfl)) (fun _ _ _ _ _ => pts_nil) (fun _ _ _ _ _ => (pe_call (ok_is_integer T) (hr.mono (by decide)) (by rfl) T.g_is_integer T.F_is_integer.kp T.b_is_integer .nil pass0 (pa_cons (pv 1) pa_nil)))) pa_nil))))))), ?_⟩
    refine ⟨_, rfl, ?_⟩
    obtain ⟨g1, hM⟩ := hM
    apply rep_isi1 (d := x_value) (a := tyN x_value) (b := "tuple") (r := isT x_value "tuple") h_value g1 rfl (kitB_isT g1 (by simp))
    refine ⟨_, rfl, ?_⟩
    refine ite3 hM (fun hM => ?_) (fun hM => ?_)
    · skip
      obtain ⟨y2, hy3, hM⟩ := hM
      have h4 : rep ms H_0 (D.tup (y2.map (fun y_ : D => y_))) v_value := rep_cast hy3 h_value
      refine ⟨_, rfl, ?_⟩
      apply rep_lenT (n := y2.length) h4 (by rw [List.length_map])
      refine ⟨rfl, ?_⟩
      refine ⟨_, rfl, ?_⟩
      refine ite3 hM (fun hM => ?_) (fun hM => ?_)
      · skip
        refine ⟨_, rfl, ?_⟩
        apply rep_iterT h4
        intro a5 xs6 _ an7 hp8 hl9
        refine fun L10 nl11 => ?_
        have nm25 := nm_new hW nl11
        refine lc_tupG (L := L10) (fun n_ ys_ h_ => Wd (L10 :: ms) [] [] H_0 h_ ∧ Keep (L10 :: ms) H_0 h_ ∧ MutO (L10 :: ms) [] H_0 h_ L10 (D.lst (ys_.map (fun y_ : Bool => (D.v (V.bl y_))))) ∧ ys_.length ≤ n_) (items := y2) (e := (fun y_ : D => y_)) an7 hp8 hl9 nl11 (fun _ _ _ q_ => q_.2.1) hM ⟨wd_cell hW nl11, keep_cell nl11 Keep.refl, mo_newL (ds := []) hW nl11 repL_nil, Nat.le_refl _⟩ ?_ ?_
        · skip
          rintro x21 u22 n12 ys13 k14 H26 hn ⟨hW, hk15, mu16, ln17⟩ h23 hM Nx20 hN18
          replace h_value := rep_keep hk15 (rep_new nl11 h_value)
          replace h4 := rep_keep hk15 (rep_new nl11 h4)
          refine ⟨rfl, ?_⟩
          refine tyes_of ?_
          refine ⟨_, rfl, ?_⟩
          refine ⟨(L10 :: ms), _, x21, _, rfl, hW.enter0, h23, hM, fun r27 u30 H31 hM e29 h28 => ?_⟩
          replace h_value := rep_ext e29 h_value
          replace h4 := rep_ext e29 h4
          replace hk15 := keep_ext e29 hk15
          replace h23 := rep_ext e29 h23
          replace mu16 := mo_ext e29 mu16
          replace hW := hW.ret0 e29
          obtain rfl := of_v h28
          refine mo_end mu16 hn (by rw [List.length_map]; exact ln17) fun vs32 hr33 => ?_
          have mk35 := mo_setL mu16 (repL_snoc (e := (fun y_ : Bool => (D.v (V.bl y_)))) (xs := ys13) (y := r27) hr33 rep_v)
          replace h_value := rep_put (o := .lst (vs32 ++ [V.bl r27])) mu16.im h_value
          replace h4 := rep_put (o := .lst (vs32 ++ [V.bl r27])) mu16.im h4
          replace hk15 := keep_put (o := .lst (vs32 ++ [V.bl r27])) mu16.im hk15
          replace h23 := rep_put (o := .lst (vs32 ++ [V.bl r27])) mu16.im h23
          replace hW := wd_put (o := .lst (vs32 ++ [V.bl r27])) hW mu16
          replace mu16 := mk35
          generalize upd H31 L10 (.lst (vs32 ++ [V.bl r27])) = H36 at *
          replace mu16 : MutO (L10 :: ms) [] H_0 H36 L10 (D.lst ((ys13 ++ [r27]).map (fun y_ : Bool => (D.v (V.bl y_))))) := mu16
          clear mk35
          exact hN18 r27 _ hM ⟨hW, hk15, mu16, by rw [List.length_append]; exact Nat.add_le_add_right ln17 1⟩
        · skip
          rintro n12 ys37 H38 hM ⟨hW, hk15, mu16, ln17⟩
          replace h_value := rep_keep hk15 (rep_new nl11 h_value)
          replace h4 := rep_keep hk15 (rep_new nl11 h4)
          clear hk15 ln17
          have h39 := mo_rep_dr dr_here nm25 mu16
          replace hW := wd_dr dr_here mu16.hp hW
          replace h_value := rep_dr dr_here h_value
          replace h4 := rep_dr dr_here h4
          clear mu16
          apply rep_all h39
          exact hQ (List.all ys37 id) _ _ hM hW.out rep_v
      · skip
        exact hQ false _ _ hM hW.out rep_v
    · skip
      exact hQ false _ _ hM hW.out rep_v
def M_check_rows (x_rows : D) (KM : Unit → Prop) (KE_InvalidRows : D → Prop) : Prop :=
  (M_is_list x_rows fun r1 => (if (!r1) = true then (KE_InvalidRows (D.v V.non)) else (∃ y10 : (Bool × List D), x_rows = (eSq (fun y_ : D => y_) y10) ∧ (if (decide (V.int (y10.2.length : Int) = V.int (0 : Int))) = true then (KE_InvalidRows (D.v V.non)) else (∃ y17 : (Bool × List D), x_rows = (eSq (fun y_ : D => y_) y17) ∧ (forC (fun (x25 : (Int × D)) (s27 : Unit) (k28 : Unit → Prop) => (M_is_row x25.2 fun r48 => (if (!r48) = true then (KE_InvalidRows (D.v (V.int x25.1))) else (k28 ())))) ((rangeI 0 (y17.2.length : Int)).zip y17.2) () fun s57 => (KM ())))))))
def sp_check_rows (A : Ad) : Sp := fun vs H Q E => ∃ (ms : List Addr) (v_rows : V) (x_rows : D) (KM : Unit → Prop) (KE_InvalidRows : D → Prop), vs = [v_rows] ∧ Wd ms [] [] H H ∧ rep ms H x_rows v_rows ∧ M_check_rows x_rows KM KE_InvalidRows ∧ (∀ (r : Unit) (u : V) (H1 : Hp), KM r → Ret [] H H1 → rep ms H1 (D.v V.non) u → Q u H1) ∧ (∀ (e0_ : D) (cls : Value) (d : Option Addr) (H1 : Hp), KE_InvalidRows e0_ → Ret [] H H1 → excR ms H1 A.c_InvalidRows [("position" : Str)] [e0_] cls d → E cls d H1)
set_option maxHeartbeats 16000000 in
theorem ok_check_rows {P : Program} {w : World} {K : PySem.W.Frag} {mg : Str → Option Value} {base : Heap} {A : Ad} (T : Txt w K mg base A) : FnOk P w K mg base (L2.CX P w) 3 A.a_check_rows A.d_check_rows ["rows"] (sp_check_rows A) := by
  refine T.F_check_rows.okX sc_check_rows (fun vs H Q E h => ?_) (fun cdv A_ outer s_ H_0 vs Q E hr h => ?_)
  · obtain ⟨ms, v_rows, x_rows, KM, KE_InvalidRows, rfl, _⟩ := h
    rfl
  · obtain ⟨ms, v_rows, x_rows, KM, KE_InvalidRows, rfl, hW, h_rows, hM, hQ, hE_InvalidRows⟩ := h
    unfold M_check_rows at hM
    refine ⟨_, (pss_cons (ps_if (PW.pt (pw_or (pt_not (pt_val (pe_call (ok_is_list T) (hr.mono (by decide)) (by rfl) T.g_is_list T.F_is_list.kp T.b_is_list .nil pass0 (pa_cons (pv 0) pa_nil)))) (pw_or1 (pt_cmpR op_eq (pe_callB (call_lenK (K := K) rfl) (by rfl) T.z_len PySem.boot_len (pa_cons (pv 0) pa_nil)) pe_int (nomark _))))) (pss_one (ps_raise rfl (tkE rfl rfl rfl rfl) (pmk_oex T.ox_InvalidRows T.ii_InvalidRows T.ti_InvalidRows (ok_InvalidRows_init T) (hr.mono (by decide)) T.b_InvalidRows_init .nil pass0 (by rfl) T.g_InvalidRows (pa_cons pe_non pa_nil)))) pss_nil) (pss_one (ps_for (passes_of rfl) rfl (pi_enumS (K := K) rfl (by rfl) T.z_enumerate (pa_cons (pv 0) pa_nil)) (pg_tup rfl (pgs_cons (pg_name (i := 1) sc_check_rows.nd rfl (by first | exact Or.inl rfl | exact Or.inr rfl)) (pgs_cons (pg_name (i := 2) sc_check_rows.nd rfl (by first | exact Or.inl rfl | exact Or.inr rfl)) pgs_nil))) (pss_one (ps_if (pt_not (pt_val (pe_call (ok_is_row T) (hr.mono (by decide)) (by rfl) T.g_is_row T.F_is_row.kp T.b_is_row .nil pass0 (pa_cons (pv 2) pa_nil)))) (pss_one (ps_raise rfl (tkE rfl rfl rfl rfl) (pmk_oex T.ox_InvalidRows T.ii_InvalidRows T.ti_InvalidRows (ok_InvalidRows_init T) (hr.mono (by decide)) T.b_InvalidRows_init .nil pass0 (by rfl) T.g_InvalidRows (pa_cons (pv 1) pa_nil)))) pss_nil))))), ?_⟩
    refine ⟨_, rfl, ?_⟩
    refine ⟨ms, _, x_rows, _, rfl, hW.enter0, h_rows, hM, fun r1 u4 H5 hM e3 h2 => ?_⟩
    replace h_rows := rep_ext e3 h_rows
    replace hW := hW.ret0 e3
    obtain rfl := of_v h2
    refine ⟨_, rfl, ?_⟩
    refine ite3 hM (fun hM => ?_) (fun hM => ?_)
    · skip
      refine iteT ?_
      refine exc_mk1 fun dx6 nd7 => ?_
      obtain ⟨er8, ex9⟩ := exc_out (n := "position") (dv := (D.v V.non)) (C := A.c_InvalidRows) hW rep_v nd7
      exact hE_InvalidRows (D.v V.non) _ _ _ hM er8 (excR_sub (by intro a_ h_; simp [h_]) ex9)
    · skip
      obtain ⟨y10, hy11, hM⟩ := hM
      have h12 : rep ms H5 (eSq (fun y_ : D => y_) y10) v_rows := rep_cast hy11 h_rows
      refine ⟨_, rfl, ?_⟩
      apply rep_lenSq (f := (fun y_ : D => y_)) (m := y10) h12
      refine ⟨rfl, ?_⟩
      refine ⟨_, rfl, ?_⟩
      refine ite3 hM (fun hM => ?_) (fun hM => ?_)
      · skip
        refine exc_mk1 fun dx13 nd14 => ?_
        obtain ⟨er15, ex16⟩ := exc_out (n := "position") (dv := (D.v V.non)) (C := A.c_InvalidRows) hW rep_v nd14
        exact hE_InvalidRows (D.v V.non) _ _ _ hM er15 (excR_sub (by intro a_ h_; simp [h_]) ex16)
      · skip
        obtain ⟨y17, hy18, hM⟩ := hM
        have h19 : rep ms H5 (eSq (fun y_ : D => y_) y17) v_rows := rep_cast hy18 h_rows
        refine ⟨_, rfl, ?_⟩
        apply rep_iterES (f := (fun y_ : D => y_)) (m := y17) h19
        intro a20 xs21 _ an22 hp23
        refine for_pairG (S := Unit) (e := fun i_ => .v (.int i_)) (e2 := (fun y_ : D => y_)) (ms := ms) (fun (s : Unit) σ_ h_ => ∃ (w_0 : Option V), ∃ (w_1 : Option V), σ_ = [some v_rows, w_0, w_1] ∧ Wd ms [] [] H_0 h_ ∧ Keep ms H5 h_) () an22 (fun _ _ _ z_ => by obtain ⟨_, _, _, _, q_⟩ := z_; exact q_) (fun _ _ _ z_ => by obtain ⟨_, _, _, w_, _⟩ := z_; exact w_.tr) hM ⟨_, _, rfl, hW, Keep.refl⟩ ?_ ?_
        · skip
          rintro x25 u26 s27 k28 _ H37 H36 ⟨w33, w34, rfl, hW, hk29⟩ ex35 h30 hM Nx31 hN32
          replace h_rows := rep_keep hk29 h_rows
          replace h12 := rep_keep hk29 h12
          replace h19 := rep_keep hk29 h19
          replace h_rows := rep_ext ex35 h_rows
          replace h12 := rep_ext ex35 h12
          replace h19 := rep_ext ex35 h19
          replace hk29 := keep_ext ex35 hk29
          replace hW := hW.ret0 ex35
          apply rep_gtup h30 rfl
          intro vs38 hv39
          obtain ⟨u40, us41, rfl, h42, hv43⟩ := repL_uncons hv39
          obtain rfl := of_v h42
          obtain ⟨u44, us45, rfl, h46, hv47⟩ := repL_uncons hv43
          obtain rfl := repL_empty hv47
          refine ⟨_, _, rfl, ?_⟩
          refine ⟨_, _, rfl, ?_⟩
          refine ⟨rfl, ?_⟩
          refine ⟨_, rfl, ?_⟩
          refine ⟨ms, _, x25.2, _, rfl, hW.enter0, h46, hM, fun r48 u51 H52 hM e50 h49 => ?_⟩
          replace h_rows := rep_ext e50 h_rows
          replace h12 := rep_ext e50 h12
          replace h19 := rep_ext e50 h19
          replace hk29 := keep_ext e50 hk29
          replace h30 := rep_ext e50 h30
          replace h46 := rep_ext e50 h46
          replace hW := hW.ret0 e50
          obtain rfl := of_v h49
          refine ⟨_, rfl, ?_⟩
          refine ite3 hM (fun hM => ?_) (fun hM => ?_)
          · skip
            refine ⟨_, rfl, ?_⟩
            refine exc_mk1 fun dx53 nd54 => ?_
            obtain ⟨er55, ex56⟩ := exc_out (n := "position") (dv := (D.v (V.int x25.1))) (C := A.c_InvalidRows) hW rep_v nd54
            exact hE_InvalidRows (D.v (V.int x25.1)) _ _ _ hM er55 (excR_sub (by intro a_ h_; simp [h_]) ex56)
          · skip
            exact hN32 () _ _ hM ⟨_, _, rfl, hW, hk29⟩
        · skip
          rintro s57 _ H61 hM ⟨w59, w60, rfl, hW, hk58⟩
          replace h_rows := rep_keep hk58 h_rows
          replace h12 := rep_keep hk58 h12
          replace h19 := rep_keep hk58 h19
          exact hQ () _ _ hM hW.out rep_v
def M_check_parts (x_first : D) (x_early : D) (x_rows : D) (KM : Unit → Prop) (KE_InvalidFirst : D → Prop) (KE_InvalidValues : D → Prop) (KE_InvalidRows : D → Prop) (KE_TooMany : D → D → Prop) : Prop :=
  (M_check_first x_first (fun r6 => (M_check_values x_early (fun r22 => (∃ y33 : (Bool × List Int), x_early = (eSq (fun y_ : Int => (D.v (V.int y_))) y33) ∧ (M_check_rows x_rows (fun r41 => (∃ y52 : (Bool × List (Int × Int × Int)), x_rows = (eSq (fun y_ : (Int × Int × Int) => (D.tup [(D.v (V.int y_.1)), (D.v (V.int y_.2.1)), (D.v (V.int y_.2.2))])) y52) ∧ (if (decide ((200 : Int) < (y33.2.length : Int))) = true then (KE_TooMany (D.v (V.str ("values" : Str))) (D.v (V.int (200 : Int)))) else (if (decide ((24 : Int) < (y52.2.length : Int))) = true then (KE_TooMany (D.v (V.str ("rows" : Str))) (D.v (V.int (24 : Int)))) else (KM ()))))) (fun x46 => (KE_InvalidRows x46))))) (fun x27 => (KE_InvalidValues x27)))) (fun x11 => (KE_InvalidFirst x11)))
def sp_check_parts (A : Ad) : Sp := fun vs H Q E => ∃ (ms : List Addr) (v_first : V) (v_early : V) (v_rows : V) (x_first : D) (x_early : D) (x_rows : D) (KM : Unit → Prop) (KE_InvalidFirst : D → Prop) (KE_InvalidValues : D → Prop) (KE_InvalidRows : D → Prop) (KE_TooMany : D → D → Prop), vs = [v_first, v_early, v_rows] ∧ Wd ms [] [] H H ∧ rep ms H x_first v_first ∧ rep ms H x_early v_early ∧ rep ms H x_rows v_rows ∧ M_check_parts x_first x_early x_rows KM KE_InvalidFirst KE_InvalidValues KE_InvalidRows KE_TooMany ∧ (∀ (r : Unit) (u : V) (H1 : Hp), KM r → Ret [] H H1 → rep ms H1 (D.v V.non) u → Q u H1) ∧ (∀ (e0_ : D) (cls : Value) (d : Option Addr) (H1 : Hp), KE_InvalidFirst e0_ → Ret [] H H1 → excR ms H1 A.c_InvalidFirst [("value" : Str)] [e0_] cls d → E cls d H1) ∧ (∀ (e0_ : D) (cls : Value) (d : Option Addr) (H1 : Hp), KE_InvalidValues e0_ → Ret [] H H1 → excR ms H1 A.c_InvalidValues [("position" : Str)] [e0_] cls d → E cls d H1) ∧ (∀ (e0_ : D) (cls : Value) (d : Option Addr) (H1 : Hp), KE_InvalidRows e0_ → Ret [] H H1 → excR ms H1 A.c_InvalidRows [("position" : Str)] [e0_] cls d → E cls d H1) ∧ (∀ (e0_ : D) (e1_ : D) (cls : Value) (d : Option Addr) (H1 : Hp), KE_TooMany e0_ e1_ → Ret [] H H1 → excR ms H1 A.c_TooMany [("limit" : Str), ("what" : Str)] [e1_, e0_] cls d → E cls d H1)
set_option maxHeartbeats 16000000 in
theorem ok_check_parts {P : Program} {w : World} {K : PySem.W.Frag} {mg : Str → Option Value} {base : Heap} {A : Ad} (T : Txt w K mg base A) : FnOk P w K mg base (L2.CX P w) 4 A.a_check_parts A.d_check_parts ["first", "early", "rows"] (sp_check_parts A) := by
  refine T.F_check_parts.okX sc_check_parts (fun vs H Q E h => ?_) (fun cdv A_ outer s_ H_0 vs Q E hr h => ?_)
  · obtain ⟨ms, v_first, v_early, v_rows, x_first, x_early, x_rows, KM, KE_InvalidFirst, KE_InvalidValues, KE_InvalidRows, KE_TooMany, rfl, _⟩ := h
    rfl
  · obtain ⟨ms, v_first, v_early, v_rows, x_first, x_early, x_rows, KM, KE_InvalidFirst, KE_InvalidValues, KE_InvalidRows, KE_TooMany, rfl, hW, h_first, h_early, h_rows, hM, hQ, hE_InvalidFirst, hE_InvalidValues, hE_InvalidRows, hE_TooMany⟩ := h
    unfold M_check_parts at hM
    refine ⟨_, (pss_cons (ps_expr (pe_call (ok_check_first T) (hr.mono (by decide)) (by rfl) T.g_check_first T.F_check_first.kp T.b_check_first .nil (passE rfl rfl rfl rfl) (pa_cons (pv 0) pa_nil))) (pss_cons (ps_expr (pe_call (ok_check_values T) (hr.mono (by decide)) (by rfl) T.g_check_values T.F_check_values.kp T.b_check_values .nil (passE rfl rfl rfl rfl) (pa_cons (pv 1) pa_nil))) (pss_cons (ps_expr (pe_call (ok_check_rows T) (hr.mono (by decide)) (by rfl) T.g_check_rows T.F_check_rows.kp T.b_check_rows .nil (passE rfl rfl rfl rfl) (pa_cons (pv 2) pa_nil))) (pss_cons (ps_if (pt_cmpR op_gt (pe_callB (call_lenK (K := K) rfl) (by rfl) T.z_len PySem.boot_len (pa_cons (pv 1) pa_nil)) (C8.pe_gc (by rfl) T.c_MOST_VALUES) (nomark _)) (pss_one (ps_raise rfl (tkE rfl rfl rfl rfl) (pmk_oexG T.ox_TooMany T.ii_TooMany T.ti_TooMany (ok_TooMany_init T) (hr.mono (by decide)) T.b_TooMany_init .nil pass0 (by rfl) T.g_TooMany (pa_cons pe_str (pa_cons (C8.pe_gc (by rfl) T.c_MOST_VALUES) pa_nil))))) pss_nil) (pss_one (ps_if (pt_cmpR op_gt (pe_callB (call_lenK (K := K) rfl) (by rfl) T.z_len PySem.boot_len (pa_cons (pv 2) pa_nil)) (C8.pe_gc (by rfl) T.c_MOST_ROWS) (nomark _)) (pss_one (ps_raise rfl (tkE rfl rfl rfl rfl) (pmk_oexG T.ox_TooMany T.ii_TooMany T.ti_TooMany (ok_TooMany_init T) (hr.mono (by decide)) T.b_TooMany_init .nil pass0 (by rfl) T.g_TooMany (pa_cons pe_str (pa_cons (C8.pe_gc (by rfl) T.c_MOST_ROWS) pa_nil))))) pss_nil)))))), ?_⟩
    refine ⟨_, rfl, ?_⟩
    refine ⟨ms, _, x_first, _, _, rfl, hW.enter0, h_first, hM, fun r6 u9 H10 hM e8 h7 => ?_, fun x11 cl12 d13 H14 hM er15 ex16 => ?_⟩
    · skip
      replace h_first := rep_ext e8 h_first
      replace h_early := rep_ext e8 h_early
      replace h_rows := rep_ext e8 h_rows
      replace hW := hW.ret0 e8
      obtain rfl := of_v h7
      refine ⟨_, rfl, ?_⟩
      refine ⟨ms, _, x_early, _, _, rfl, hW.enter0, h_early, hM, fun r22 u25 H26 hM e24 h23 => ?_, fun x27 cl28 d29 H30 hM er31 ex32 => ?_⟩
      · skip
        replace h_first := rep_ext e24 h_first
        replace h_early := rep_ext e24 h_early
        replace h_rows := rep_ext e24 h_rows
        replace hW := hW.ret0 e24
        obtain rfl := of_v h23
        obtain ⟨y33, hy34, hM⟩ := hM
        have h35 : rep ms H26 (eSq (fun y_ : Int => (D.v (V.int y_))) y33) v_early := rep_cast hy34 h_early
        refine ⟨_, rfl, ?_⟩
        refine ⟨ms, _, x_rows, _, _, rfl, hW.enter0, h_rows, hM, fun r41 u44 H45 hM e43 h42 => ?_, fun x46 cl47 d48 H49 hM er50 ex51 => ?_⟩
        · skip
          replace h_first := rep_ext e43 h_first
          replace h_early := rep_ext e43 h_early
          replace h_rows := rep_ext e43 h_rows
          replace h35 := rep_ext e43 h35
          replace hW := hW.ret0 e43
          obtain rfl := of_v h42
          obtain ⟨y52, hy53, hM⟩ := hM
          have h54 : rep ms H45 (eSq (fun y_ : (Int × Int × Int) => (D.tup [(D.v (V.int y_.1)), (D.v (V.int y_.2.1)), (D.v (V.int y_.2.2))])) y52) v_rows := rep_cast hy53 h_rows
          refine ⟨_, rfl, ?_⟩
          apply rep_lenSq (f := (fun y_ : Int => (D.v (V.int y_)))) (m := y33) h35
          refine ⟨_, _, rfl, rfl, ?_⟩
          refine ⟨_, rfl, ?_⟩
          refine ite3 hM (fun hM => ?_) (fun hM => ?_)
          · skip
            refine exc_mk2 fun dx55 nd56 => ?_
            obtain ⟨er57, ex58⟩ := exc_out2 (n := "what") (m := "limit") (dv := (D.v (V.str ("values" : Str)))) (dz := (D.v (V.int (200 : Int)))) (C := A.c_TooMany) hW rep_v rep_v nd56
            exact hE_TooMany (D.v (V.str ("values" : Str))) (D.v (V.int (200 : Int))) _ _ _ hM er57 (excR_sub (by intro a_ h_; simp [h_]) ex58)
          · skip
            refine ⟨_, rfl, ?_⟩
            apply rep_lenSq (f := (fun y_ : (Int × Int × Int) => (D.tup [(D.v (V.int y_.1)), (D.v (V.int y_.2.1)), (D.v (V.int y_.2.2))]))) (m := y52) h54
            refine ⟨_, _, rfl, rfl, ?_⟩
            refine ⟨_, rfl, ?_⟩
            refine ite3 hM (fun hM => ?_) (fun hM => ?_)
            · skip
              refine exc_mk2 fun dx59 nd60 => ?_
              obtain ⟨er61, ex62⟩ := exc_out2 (n := "what") (m := "limit") (dv := (D.v (V.str ("rows" : Str)))) (dz := (D.v (V.int (24 : Int)))) (C := A.c_TooMany) hW rep_v rep_v nd60
              exact hE_TooMany (D.v (V.str ("rows" : Str))) (D.v (V.int (24 : Int))) _ _ _ hM er61 (excR_sub (by intro a_ h_; simp [h_]) ex62)
            · skip
              exact hQ () _ _ hM hW.out rep_v
        · skip
          replace h_first := rep_ext er50 h_first
          replace h_early := rep_ext er50 h_early
          replace h_rows := rep_ext er50 h_rows
          replace h35 := rep_ext er50 h35
          replace hW := hW.ret0 er50
          exact hE_InvalidRows x46 _ _ _ hM hW.out (excR_sub (by intro a_ h_; simp [h_]) ex51)
      · skip
        replace h_first := rep_ext er31 h_first
        replace h_early := rep_ext er31 h_early
        replace h_rows := rep_ext er31 h_rows
        replace hW := hW.ret0 er31
        exact hE_InvalidValues x27 _ _ _ hM hW.out (excR_sub (by intro a_ h_; simp [h_]) ex32)
    · skip
      replace h_first := rep_ext er15 h_first
      replace h_early := rep_ext er15 h_early
      replace h_rows := rep_ext er15 h_rows
      replace hW := hW.ret0 er15
      exact hE_InvalidFirst x11 _ _ _ hM hW.out (excR_sub (by intro a_ h_; simp [h_]) ex16)
def M_Form_init (x_first : D) (x_early : D) (x_rows : D) (KM : (Int × List Int × List (Int × Int × Int)) → Prop) (KE_InvalidFirst : D → Prop) (KE_InvalidValues : D → Prop) (KE_InvalidRows : D → Prop) (KE_TooMany : D → D → Prop) : Prop :=
  (noI x_early = true ∧ (M_check_parts x_first x_early x_rows (fun r7 => (∃ y37 : Int, x_first = (D.v (V.int y37)) ∧ (∃ y40 : (Bool × List Int), x_early = (eSq (fun y_ : Int => (D.v (V.int y_))) y40) ∧ (∃ y43 : (Bool × List (Int × Int × Int)), x_rows = (eSq (fun y_ : (Int × Int × Int) => (D.tup [(D.v (V.int y_.1)), (D.v (V.int y_.2.1)), (D.v (V.int y_.2.2))])) y43) ∧ (y43.2.length < 100000 ∧ mapC (fun (x78 : (Int × Int × Int)) (k71 : (Int × Int × Int) → Prop) => (k71 x78)) y43.2 [] fun ys92 => (KM (y37, y40.2, ys92))))))) (fun x12 => (KE_InvalidFirst x12)) (fun x18 => (KE_InvalidValues x18)) (fun x24 => (KE_InvalidRows x24)) (fun x30 x31 => (KE_TooMany x30 x31))))
def sp_Form_init (A : Ad) : Sp := fun vs H Q E => ∃ (ms : List Addr) (p_ dx_ : Addr) (v_first : V) (v_early : V) (v_rows : V) (x_first : D) (x_early : D) (x_rows : D) (KM : (Int × List Int × List (Int × Int × Int)) → Prop) (KE_InvalidFirst : D → Prop) (KE_InvalidValues : D → Prop) (KE_InvalidRows : D → Prop) (KE_TooMany : D → D → Prop), vs = [.ref p_, v_first, v_early, v_rows] ∧ Wd ms [] [] H H ∧ p_ ∈ ms ∧ H p_ = some (.ins A.c_Form dx_ []) ∧ rep ms H x_first v_first ∧ rep ms H x_early v_early ∧ rep ms H x_rows v_rows ∧ M_Form_init x_first x_early x_rows KM KE_InvalidFirst KE_InvalidValues KE_InvalidRows KE_TooMany ∧ (∀ (r : (Int × List Int × List (Int × Int × Int))) (us : List V) (H1 : Hp), KM r → KpI p_ H H1 → H1 p_ = some (.ins A.c_Form dx_ (List.zip ns_Form us)) → ns_Form.length = us.length → repL ms H1 [(D.v (V.int r.1)), (D.lst (r.2.1.map (fun y_ : Int => (D.v (V.int y_))))), (D.lst (r.2.2.map (fun y_ : (Int × Int × Int) => (D.tup [(D.v (V.int y_.1)), (D.v (V.int y_.2.1)), (D.v (V.int y_.2.2))]))))] us → Q .non H1) ∧ (∀ (e0_ : D) (cls : Value) (d : Option Addr) (H1 : Hp), KE_InvalidFirst e0_ → KpI p_ H H1 → excR ms H1 A.c_InvalidFirst [("value" : Str)] [e0_] cls d → E cls d H1) ∧ (∀ (e0_ : D) (cls : Value) (d : Option Addr) (H1 : Hp), KE_InvalidValues e0_ → KpI p_ H H1 → excR ms H1 A.c_InvalidValues [("position" : Str)] [e0_] cls d → E cls d H1) ∧ (∀ (e0_ : D) (cls : Value) (d : Option Addr) (H1 : Hp), KE_InvalidRows e0_ → KpI p_ H H1 → excR ms H1 A.c_InvalidRows [("position" : Str)] [e0_] cls d → E cls d H1) ∧ (∀ (e0_ : D) (e1_ : D) (cls : Value) (d : Option Addr) (H1 : Hp), KE_TooMany e0_ e1_ → KpI p_ H H1 → excR ms H1 A.c_TooMany [("limit" : Str), ("what" : Str)] [e1_, e0_] cls d → E cls d H1)
set_option maxHeartbeats 16000000 in
theorem ok_Form_init {P : Program} {w : World} {K : PySem.W.Frag} {mg : Str → Option Value} {base : Heap} {A : Ad} (T : Txt w K mg base A) : FnOk P w K mg base (L2.CX P w) 5 A.a_Form_init A.d_Form_init ["self", "first", "early", "rows"] (sp_Form_init A) := by
  refine T.F_Form_init.okX sc_Form_init (fun vs H Q E h => ?_) (fun cdv A_ outer s_ H_0 vs Q E hr h => ?_)
  · obtain ⟨ms, p_, dx_, v_first, v_early, v_rows, x_first, x_early, x_rows, KM, KE_InvalidFirst, KE_InvalidValues, KE_InvalidRows, KE_TooMany, rfl, _⟩ := h
    rfl
  · obtain ⟨ms, p_, dx_, v_first, v_early, v_rows, x_first, x_early, x_rows, KM, KE_InvalidFirst, KE_InvalidValues, KE_InvalidRows, KE_TooMany, rfl, hW, pm_, hp, h_first, h_early, h_rows, hM, hQ, hE_InvalidFirst, hE_InvalidValues, hE_InvalidRows, hE_TooMany⟩ := h
    unfold M_Form_init at hM
    have hK := ki_refl (p := p_) (H := H_0)
    replace hp : H_0 p_ = some (.ins A.c_Form dx_ (List.zip ([] : List Str) ([] : List V))) := hp
    refine ⟨_, (pss_one (ps_if (PW.pt (pw_and (pt_val (pe_callB (call_isiK (K := K) rfl) (by rfl) T.z_isinstance (by decide +kernel) (pa_cons (pv 2) (pa_cons (pe_glob (v := .ref A.c_Reckoned) (by rfl) T.g_Reckoned rfl) pa_nil)))) (pw_and1 (pt_val (pe_callB (call_isiK (K := K) rfl) (by rfl) T.z_isinstance (by decide +kernel) (pa_cons (pv 3) (pa_cons (pe_glob (v := .ref A.c_Reckoned) (by rfl) T.g_Reckoned rfl) pa_nil))))))) (pss_cons ps_never (pss_cons ps_never (pss_one ps_never))) (pss_cons (ps_expr (pe_call (ok_check_parts T) (hr.mono (by decide)) (by rfl) T.g_check_parts T.F_check_parts.kp T.b_check_parts .nil (passE rfl rfl rfl rfl) (pa_cons (pv 1) (pa_cons (pv 2) (pa_cons (pv 3) pa_nil))))) (pss_cons (ps_fld (pv 0) (pv 1) rfl) (pss_cons (ps_fld (pv 0) (pe_callTy (call_list_ofK (K := K) rfl) (by rfl) T.z_list (by decide +kernel) (pa_cons (pv 2) pa_nil)) rfl) (pss_one (ps_fld (pv 0) (pe_lc (own := [("row", 4)]) (g := gName 4) rfl sc_Form_init.nd (pi_seqK (K := K) rfl (pv 3)) (blkOk_by (N := ["self", "first", "early", "rows", "row"]) (sc := defScope s_Form_init) (by decide +kernel)) (fun _ _ _ _ _ => pg_name (i := 4) sc_Form_init.nd rfl (by first | exact Or.inl rfl | exact Or.inr rfl)) (fun _ _ _ _ _ => pts_nil) (fun _ _ _ _ _ => (pe_callTy (call_tuple_ofK (K := K) rfl) (by rfl) T.z_tuple (by decide +kernel) (pa_cons (pv 4) pa_nil)))) rfl))))))), ?_⟩
    refine ⟨_, rfl, ?_⟩
    obtain ⟨g1, hM⟩ := hM
    apply rep_isN2 (d := x_early) h_early g1 T.in_Reckoned
    refine ⟨_, rfl, ?_⟩
    refine iteF ?_
    refine iteF ?_
    refine ⟨_, rfl, ?_⟩
    refine ⟨_, rfl, ?_⟩
    refine ⟨_, rfl, ?_⟩
    refine ⟨ms, _, _, _, x_first, x_early, x_rows, _, _, _, _, _, rfl, hW.enter0, h_first, h_early, h_rows, hM, fun r7 u10 H11 hM e9 h8 => ?_, fun x12 cl13 d14 H15 hM er16 ex17 => ?_, fun x18 cl19 d20 H21 hM er22 ex23 => ?_, fun x24 cl25 d26 H27 hM er28 ex29 => ?_, fun x30 x31 cl32 d33 H34 hM er35 ex36 => ?_⟩
    · skip
      replace h_first := rep_ext e9 h_first
      replace h_early := rep_ext e9 h_early
      replace h_rows := rep_ext e9 h_rows
      replace hp := Rx.Ext.keep e9 hp
      replace hW := hW.ret0 e9
      obtain rfl := of_v h8
      obtain ⟨y37, hy38, hM⟩ := hM
      have hu39 : v_first = V.int y37 := of_v (rep_cast hy38 h_first)
      subst hu39
      obtain ⟨y40, hy41, hM⟩ := hM
      have h42 : rep ms H11 (eSq (fun y_ : Int => (D.v (V.int y_))) y40) v_early := rep_cast hy41 h_early
      obtain ⟨y43, hy44, hM⟩ := hM
      have h45 : rep ms H11 (eSq (fun y_ : (Int × Int × Int) => (D.tup [(D.v (V.int y_.1)), (D.v (V.int y_.2.1)), (D.v (V.int y_.2.2))])) y43) v_rows := rep_cast hy44 h_rows
      refine ⟨_, rfl, ?_⟩
      refine ⟨_, rfl, p_, A.c_Form, dx_, _, rfl, hp, T.cl_Form, T.na_Form__first, (by first | decide | simp), ?_⟩
      have z46 : putF ("_first" : Str) (V.int y37) (List.zip ([] : List Str) ([] : List V)) = List.zip [("_first" : Str)] [V.int y37] := putF_zip (ns := ([] : List Str)) (us := ([] : List V)) rfl (nin_of (by decide +kernel))
      replace h_first := rep_put (o := .ins A.c_Form dx_ (putF ("_first" : Str) (V.int y37) (List.zip ([] : List Str) ([] : List V)))) pm_ h_first
      replace h_early := rep_put (o := .ins A.c_Form dx_ (putF ("_first" : Str) (V.int y37) (List.zip ([] : List Str) ([] : List V)))) pm_ h_early
      replace h_rows := rep_put (o := .ins A.c_Form dx_ (putF ("_first" : Str) (V.int y37) (List.zip ([] : List Str) ([] : List V)))) pm_ h_rows
      replace h42 := rep_put (o := .ins A.c_Form dx_ (putF ("_first" : Str) (V.int y37) (List.zip ([] : List Str) ([] : List V)))) pm_ h42
      replace h45 := rep_put (o := .ins A.c_Form dx_ (putF ("_first" : Str) (V.int y37) (List.zip ([] : List Str) ([] : List V)))) pm_ h45
      replace hK := ki_put (o := .ins A.c_Form dx_ (putF ("_first" : Str) (V.int y37) (List.zip ([] : List Str) ([] : List V)))) hK hW
      replace hW := wd_at (p := p_) (o := .ins A.c_Form dx_ (putF ("_first" : Str) (V.int y37) (List.zip ([] : List Str) ([] : List V)))) hW
      replace hp : upd H11 p_ (.ins A.c_Form dx_ (putF ("_first" : Str) (V.int y37) (List.zip ([] : List Str) ([] : List V)))) p_ = some (.ins A.c_Form dx_ (putF ("_first" : Str) (V.int y37) (List.zip ([] : List Str) ([] : List V)))) := upd_same
      generalize upd H11 p_ (.ins A.c_Form dx_ (putF ("_first" : Str) (V.int y37) (List.zip ([] : List Str) ([] : List V)))) = H47 at *
      rw [z46] at hp
      refine ⟨_, rfl, ?_⟩
      apply rep_listSq h42
      intro ys48 hr49
      intro p50 n51
      have e52 := Rx.Ext.new (H := H47) (o := (HO.lst ys48)) n51
      have hp53 : upd H47 p50 (HO.lst ys48) p50 = some (HO.lst ys48) := upd_same
      generalize upd H47 p50 (HO.lst ys48) = H56 at e52 hp53 ⊢
      have h54 : rep ms H56 (D.lst (y40.2.map (fun y_ : Int => (D.v (V.int y_))))) (.ref p50) := rep_lst_mk hW n51 e52 hp53 hr49
      replace h_first := rep_ext e52 h_first
      replace h_early := rep_ext e52 h_early
      replace h_rows := rep_ext e52 h_rows
      replace h42 := rep_ext e52 h42
      replace h45 := rep_ext e52 h45
      replace hp := Rx.Ext.keep e52 hp
      replace hW := hW.ret0 e52
      refine ⟨_, rfl, p_, A.c_Form, dx_, _, rfl, hp, T.cl_Form, T.na_Form__early, (by first | decide | simp), ?_⟩
      have z57 : putF ("_early" : Str) ((V.ref p50)) (List.zip [("_first" : Str)] [V.int y37]) = List.zip [("_first" : Str), ("_early" : Str)] [V.int y37, (V.ref p50)] := putF_zip (ns := [("_first" : Str)]) (us := [V.int y37]) rfl (nin_of (by decide +kernel))
      replace h_first := rep_put (o := .ins A.c_Form dx_ (putF ("_early" : Str) ((V.ref p50)) (List.zip [("_first" : Str)] [V.int y37]))) pm_ h_first
      replace h_early := rep_put (o := .ins A.c_Form dx_ (putF ("_early" : Str) ((V.ref p50)) (List.zip [("_first" : Str)] [V.int y37]))) pm_ h_early
      replace h_rows := rep_put (o := .ins A.c_Form dx_ (putF ("_early" : Str) ((V.ref p50)) (List.zip [("_first" : Str)] [V.int y37]))) pm_ h_rows
      replace h42 := rep_put (o := .ins A.c_Form dx_ (putF ("_early" : Str) ((V.ref p50)) (List.zip [("_first" : Str)] [V.int y37]))) pm_ h42
      replace h45 := rep_put (o := .ins A.c_Form dx_ (putF ("_early" : Str) ((V.ref p50)) (List.zip [("_first" : Str)] [V.int y37]))) pm_ h45
      replace h54 := rep_put (o := .ins A.c_Form dx_ (putF ("_early" : Str) ((V.ref p50)) (List.zip [("_first" : Str)] [V.int y37]))) pm_ h54
      replace hK := ki_put (o := .ins A.c_Form dx_ (putF ("_early" : Str) ((V.ref p50)) (List.zip [("_first" : Str)] [V.int y37]))) hK hW
      replace hW := wd_at (p := p_) (o := .ins A.c_Form dx_ (putF ("_early" : Str) ((V.ref p50)) (List.zip [("_first" : Str)] [V.int y37]))) hW
      replace hp : upd H56 p_ (.ins A.c_Form dx_ (putF ("_early" : Str) ((V.ref p50)) (List.zip [("_first" : Str)] [V.int y37]))) p_ = some (.ins A.c_Form dx_ (putF ("_early" : Str) ((V.ref p50)) (List.zip [("_first" : Str)] [V.int y37]))) := upd_same
      generalize upd H56 p_ (.ins A.c_Form dx_ (putF ("_early" : Str) ((V.ref p50)) (List.zip [("_first" : Str)] [V.int y37]))) = H58 at *
      rw [z57] at hp
      refine ⟨_, rfl, ?_⟩
      apply rep_iterSq (f := (fun y_ : (Int × Int × Int) => (D.tup [(D.v (V.int y_.1)), (D.v (V.int y_.2.1)), (D.v (V.int y_.2.2))]))) (m := y43) h45
      intro a59 J64 _ P65 PL66
      refine fun L67 nl68 => ?_
      have nm82 := nm_new hW nl68
      refine lc_seqG (L := L67) (fun n_ ys_ h_ => Wd (L67 :: ms) [] [] H58 h_ ∧ Keep (L67 :: ms) H58 h_ ∧ MutO (L67 :: ms) [] H58 h_ L67 (D.lst (ys_.map (fun y_ : (Int × Int × Int) => (D.tup [(D.v (V.int y_.1)), (D.v (V.int y_.2.1)), (D.v (V.int y_.2.2))])))) ∧ ys_.length ≤ n_ ∧ h_ p_ = some (.ins A.c_Form dx_ (List.zip [("_first" : Str), ("_early" : Str)] [V.int y37, (V.ref p50)]))) (items := y43.2) (e := (fun y_ : (Int × Int × Int) => (D.tup [(D.v (V.int y_.1)), (D.v (V.int y_.2.1)), (D.v (V.int y_.2.2))]))) (PL66 _ nl68) (fun _ _ _ q_ => q_.2.1) hM ⟨wd_cell hW nl68, keep_cell nl68 Keep.refl, mo_newL (ds := []) hW nl68 repL_nil, Nat.le_refl _, Rx.Ext.keep (Rx.Ext.new nl68) hp⟩ ?_ ?_
      · skip
        rintro x78 u79 n69 ys70 k71 H83 hn ⟨hW, hk72, mu73, ln74, hp⟩ h80 hM Nx77 hN75
        replace h_first := rep_keep hk72 (rep_new nl68 h_first)
        replace h_early := rep_keep hk72 (rep_new nl68 h_early)
        replace h_rows := rep_keep hk72 (rep_new nl68 h_rows)
        replace h42 := rep_keep hk72 (rep_new nl68 h42)
        replace h45 := rep_keep hk72 (rep_new nl68 h45)
        replace h54 := rep_keep hk72 (rep_new nl68 h54)
        refine ⟨rfl, ?_⟩
        refine tyes_of ?_
        refine ⟨_, rfl, ?_⟩
        apply rep_tupSame h80
        intro p84 z85 h86
        refine mo_end mu73 hn (by rw [List.length_map]; exact ln74) fun vs87 hr88 => ?_
        have mk90 := mo_setL mu73 (repL_snoc (e := (fun y_ : (Int × Int × Int) => (D.tup [(D.v (V.int y_.1)), (D.v (V.int y_.2.1)), (D.v (V.int y_.2.2))]))) (xs := ys70) (y := x78) hr88 h86)
        replace h_first := rep_put (o := .lst (vs87 ++ [(V.ref p84)])) mu73.im h_first
        replace h_early := rep_put (o := .lst (vs87 ++ [(V.ref p84)])) mu73.im h_early
        replace h_rows := rep_put (o := .lst (vs87 ++ [(V.ref p84)])) mu73.im h_rows
        replace h42 := rep_put (o := .lst (vs87 ++ [(V.ref p84)])) mu73.im h42
        replace h45 := rep_put (o := .lst (vs87 ++ [(V.ref p84)])) mu73.im h45
        replace h54 := rep_put (o := .lst (vs87 ++ [(V.ref p84)])) mu73.im h54
        replace hk72 := keep_put (o := .lst (vs87 ++ [(V.ref p84)])) mu73.im hk72
        replace h80 := rep_put (o := .lst (vs87 ++ [(V.ref p84)])) mu73.im h80
        replace h86 := rep_put (o := .lst (vs87 ++ [(V.ref p84)])) mu73.im h86
        replace hp := at_put (o := .lst (vs87 ++ [(V.ref p84)])) hp mu73
        replace hW := wd_put (o := .lst (vs87 ++ [(V.ref p84)])) hW mu73
        replace mu73 := mk90
        generalize upd H83 L67 (.lst (vs87 ++ [(V.ref p84)])) = H91 at *
        replace mu73 : MutO (L67 :: ms) [] H58 H91 L67 (D.lst ((ys70 ++ [x78]).map (fun y_ : (Int × Int × Int) => (D.tup [(D.v (V.int y_.1)), (D.v (V.int y_.2.1)), (D.v (V.int y_.2.2))])))) := mu73
        clear mk90
        exact hN75 x78 _ hM ⟨hW, hk72, mu73, by rw [List.length_append]; exact Nat.add_le_add_right ln74 1, hp⟩
      · skip
        rintro n69 ys92 H93 hM ⟨hW, hk72, mu73, ln74, hp⟩
        replace h_first := rep_keep hk72 (rep_new nl68 h_first)
        replace h_early := rep_keep hk72 (rep_new nl68 h_early)
        replace h_rows := rep_keep hk72 (rep_new nl68 h_rows)
        replace h42 := rep_keep hk72 (rep_new nl68 h42)
        replace h45 := rep_keep hk72 (rep_new nl68 h45)
        replace h54 := rep_keep hk72 (rep_new nl68 h54)
        clear hk72 ln74
        have h94 := mo_rep_dr dr_here nm82 mu73
        replace hW := wd_dr dr_here mu73.hp hW
        replace h_first := rep_dr dr_here h_first
        replace h_early := rep_dr dr_here h_early
        replace h_rows := rep_dr dr_here h_rows
        replace h42 := rep_dr dr_here h42
        replace h45 := rep_dr dr_here h45
        replace h54 := rep_dr dr_here h54
        clear mu73
        refine ⟨_, rfl, p_, A.c_Form, dx_, _, rfl, hp, T.cl_Form, T.na_Form__rows, (by first | decide | simp), ?_⟩
        have z95 : putF ("_rows" : Str) ((V.ref L67)) (List.zip [("_first" : Str), ("_early" : Str)] [V.int y37, (V.ref p50)]) = List.zip [("_first" : Str), ("_early" : Str), ("_rows" : Str)] [V.int y37, (V.ref p50), (V.ref L67)] := putF_zip (ns := [("_first" : Str), ("_early" : Str)]) (us := [V.int y37, (V.ref p50)]) rfl (nin_of (by decide +kernel))
        replace h_first := rep_put (o := .ins A.c_Form dx_ (putF ("_rows" : Str) ((V.ref L67)) (List.zip [("_first" : Str), ("_early" : Str)] [V.int y37, (V.ref p50)]))) pm_ h_first
        replace h_early := rep_put (o := .ins A.c_Form dx_ (putF ("_rows" : Str) ((V.ref L67)) (List.zip [("_first" : Str), ("_early" : Str)] [V.int y37, (V.ref p50)]))) pm_ h_early
        replace h_rows := rep_put (o := .ins A.c_Form dx_ (putF ("_rows" : Str) ((V.ref L67)) (List.zip [("_first" : Str), ("_early" : Str)] [V.int y37, (V.ref p50)]))) pm_ h_rows
        replace h42 := rep_put (o := .ins A.c_Form dx_ (putF ("_rows" : Str) ((V.ref L67)) (List.zip [("_first" : Str), ("_early" : Str)] [V.int y37, (V.ref p50)]))) pm_ h42
        replace h45 := rep_put (o := .ins A.c_Form dx_ (putF ("_rows" : Str) ((V.ref L67)) (List.zip [("_first" : Str), ("_early" : Str)] [V.int y37, (V.ref p50)]))) pm_ h45
        replace h54 := rep_put (o := .ins A.c_Form dx_ (putF ("_rows" : Str) ((V.ref L67)) (List.zip [("_first" : Str), ("_early" : Str)] [V.int y37, (V.ref p50)]))) pm_ h54
        replace h94 := rep_put (o := .ins A.c_Form dx_ (putF ("_rows" : Str) ((V.ref L67)) (List.zip [("_first" : Str), ("_early" : Str)] [V.int y37, (V.ref p50)]))) pm_ h94
        replace hK := ki_put (o := .ins A.c_Form dx_ (putF ("_rows" : Str) ((V.ref L67)) (List.zip [("_first" : Str), ("_early" : Str)] [V.int y37, (V.ref p50)]))) hK hW
        replace hW := wd_at (p := p_) (o := .ins A.c_Form dx_ (putF ("_rows" : Str) ((V.ref L67)) (List.zip [("_first" : Str), ("_early" : Str)] [V.int y37, (V.ref p50)]))) hW
        replace hp : upd H93 p_ (.ins A.c_Form dx_ (putF ("_rows" : Str) ((V.ref L67)) (List.zip [("_first" : Str), ("_early" : Str)] [V.int y37, (V.ref p50)]))) p_ = some (.ins A.c_Form dx_ (putF ("_rows" : Str) ((V.ref L67)) (List.zip [("_first" : Str), ("_early" : Str)] [V.int y37, (V.ref p50)]))) := upd_same
        generalize upd H93 p_ (.ins A.c_Form dx_ (putF ("_rows" : Str) ((V.ref L67)) (List.zip [("_first" : Str), ("_early" : Str)] [V.int y37, (V.ref p50)]))) = H96 at *
        rw [z95] at hp
        exact hQ (y37, y40.2, ys92) [V.int y37, (V.ref p50), (V.ref L67)] _ hM (ki_wd hK hW) hp rfl (repL_cons rep_v (repL_cons h54 (repL_cons h94 repL_nil)))
    · skip
      replace h_first := rep_ext er16 h_first
      replace h_early := rep_ext er16 h_early
      replace h_rows := rep_ext er16 h_rows
      replace hp := Rx.Ext.keep er16 hp
      replace hW := hW.ret0 er16
      exact hE_InvalidFirst x12 _ _ _ hM (ki_wd hK hW) (excR_sub (by intro a_ h_; simp [h_]) ex17)
    · skip
      replace h_first := rep_ext er22 h_first
      replace h_early := rep_ext er22 h_early
      replace h_rows := rep_ext er22 h_rows
      replace hp := Rx.Ext.keep er22 hp
      replace hW := hW.ret0 er22
      exact hE_InvalidValues x18 _ _ _ hM (ki_wd hK hW) (excR_sub (by intro a_ h_; simp [h_]) ex23)
    · skip
      replace h_first := rep_ext er28 h_first
      replace h_early := rep_ext er28 h_early
      replace h_rows := rep_ext er28 h_rows
      replace hp := Rx.Ext.keep er28 hp
      replace hW := hW.ret0 er28
      exact hE_InvalidRows x24 _ _ _ hM (ki_wd hK hW) (excR_sub (by intro a_ h_; simp [h_]) ex29)
    · skip
      replace h_first := rep_ext er35 h_first
      replace h_early := rep_ext er35 h_early
      replace h_rows := rep_ext er35 h_rows
      replace hp := Rx.Ext.keep er35 hp
      replace hW := hW.ret0 er35
      exact hE_TooMany x30 x31 _ _ _ hM (ki_wd hK hW) (excR_sub (by intro a_ h_; simp [h_]) ex36)
theorem make_Form_init {ms : List Addr} {ps : List PEn} {cs : List (Addr × List V)} {H0 H : Hp} {A : Ad} {v_first : V} {v_early : V} {v_rows : V} {x_first : D} {x_early : D} {x_rows : D} {KM : (Int × List Int × List (Int × Int × Int)) → Prop} {KE_InvalidFirst : D → Prop} {KE_InvalidValues : D → Prop} {KE_InvalidRows : D → Prop} {KE_TooMany : D → D → Prop} {Q : Addr → Hp → Prop} {E : XK} (hW : Wd ms ps cs H0 H) (h_first : rep ms H x_first v_first) (h_early : rep ms H x_early v_early) (h_rows : rep ms H x_rows v_rows) (hM : M_Form_init x_first x_early x_rows KM KE_InvalidFirst KE_InvalidValues KE_InvalidRows KE_TooMany)
    (k : ∀ (x : Addr) (H1 : Hp) (r : (Int × List Int × List (Int × Int × Int))), KM r → Rx.Ext H H1 → rep ms H1 (eForm A r) (.ref x) → Q x H1)
    (k0 : ∀ (e0_ : D) (cls : Value) (d : Option Addr) (H1 : Hp), KE_InvalidFirst e0_ → Rx.Ext H H1 → excR ms H1 A.c_InvalidFirst [("value" : Str)] [e0_] cls d → E cls d H1)
    (k1 : ∀ (e0_ : D) (cls : Value) (d : Option Addr) (H1 : Hp), KE_InvalidValues e0_ → Rx.Ext H H1 → excR ms H1 A.c_InvalidValues [("position" : Str)] [e0_] cls d → E cls d H1)
    (k2 : ∀ (e0_ : D) (cls : Value) (d : Option Addr) (H1 : Hp), KE_InvalidRows e0_ → Rx.Ext H H1 → excR ms H1 A.c_InvalidRows [("position" : Str)] [e0_] cls d → E cls d H1)
    (k3 : ∀ (e0_ : D) (e1_ : D) (cls : Value) (d : Option Addr) (H1 : Hp), KE_TooMany e0_ e1_ → Rx.Ext H H1 → excR ms H1 A.c_TooMany [("limit" : Str), ("what" : Str)] [e1_, e0_] cls d → E cls d H1) :
    ∀ x dx, H x = none → H dx = none → dx ≠ x → sp_Form_init A (.ref x :: ([v_first, v_early, v_rows] ++ [])) (upd (upd H dx (.own x)) x (.ins A.c_Form dx [])) (fun v H2 => v = .non ∧ Q x H2) E := by
  intro x dx nx ndx ne
  exact ⟨x :: ms, x, dx, v_first, v_early, v_rows, x_first, x_early, x_rows, KM, KE_InvalidFirst, KE_InvalidValues, KE_InvalidRows, KE_TooMany, rfl, wd_new hW nx ndx, List.mem_cons_self, upd_same, mem_new nx h_first ndx, mem_new nx h_early ndx, mem_new nx h_rows ndx, hM, fun r us H1 hr hK hp hl hu => ⟨rfl, k x H1 r hr (ext_new hK nx ndx) (rep_insW hW nx hp hl hu)⟩, fun e0_ cls d H1 h_ hK hx_ => k0 e0_ cls d H1 h_ (ext_new hK nx ndx) (excR_sub (fun a_ ha_ => List.mem_cons_of_mem _ ha_) hx_), fun e0_ cls d H1 h_ hK hx_ => k1 e0_ cls d H1 h_ (ext_new hK nx ndx) (excR_sub (fun a_ ha_ => List.mem_cons_of_mem _ ha_) hx_), fun e0_ cls d H1 h_ hK hx_ => k2 e0_ cls d H1 h_ (ext_new hK nx ndx) (excR_sub (fun a_ ha_ => List.mem_cons_of_mem _ ha_) hx_), fun e0_ e1_ cls d H1 h_ hK hx_ => k3 e0_ e1_ cls d H1 h_ (ext_new hK nx ndx) (excR_sub (fun a_ ha_ => List.mem_cons_of_mem _ ha_) hx_)⟩
def M_is_value (KM : Bool → Prop) : Prop :=
  (KM true)
def sp_is_value (A : Ad) : Addr → Value → Option Addr → Sp := fun a_x cls_ d_ vs H Q _ => ∃ (ms : List Addr) (dd_ : Addr) (fs_ : List (Str × V)) (KM : Bool → Prop), vs = [.ref a_x] ∧ Wd ms [] [] H H ∧ cls_ = .ref A.c_InvalidFirst ∧ d_ = some dd_ ∧ H dd_ = some (.xd fs_) ∧ M_is_value KM ∧ ∀ (r : Bool) (u : V) (H1 : Hp), KM r → Ret [] H H1 → rep ms H1 (D.v (V.bl r)) u → Q u H1
set_option maxHeartbeats 16000000 in
theorem ok_is_value {P : Program} {w : World} {K : PySem.W.Frag} {mg : Str → Option Value} {base : Heap} {A : Ad} (T : Txt w K mg base A) : FnE P w K mg base 1 A.a_is_value A.d_is_value ["_law_e"] (sp_is_value A) := by
  refine okE T.F_is_value sc_is_value (fun a_x cls_ d_ vs H Q h => ?_) (fun cdv A_ outer s_ H_0 vs Q a_x oe_ cls_ d_ hr hz_ hf_ h => ?_)
  · obtain ⟨ms, dd_, fs_, KM, rfl, _⟩ := h
    rfl
  · obtain ⟨ms, dd_, fs_, KM, rfl, hW, rfl, rfl, hx_, hM, hQ⟩ := h
    unfold M_is_value at hM
    refine ⟨_, (pss_one (ps_ret (pe_and (pe_callB (call_isXg List.mem_cons_self hz_ hf_) (by rfl) T.z_isinstance (by decide +kernel) (pa_cons (pv 0) (pa_cons (pe_glob (v := .ref A.c_LeagueError) (by rfl) T.g_LeagueError rfl) pa_nil))) (pe_one (pe_callB (call_isXg List.mem_cons_self hz_ hf_) (by rfl) T.z_isinstance (by decide +kernel) (pa_cons (pv 0) (pa_cons (pe_bltn (v := .ty "ValueError") (by rfl) T.z_ValueError (by decide +kernel) rfl) pa_nil))))))), ?_⟩
    refine ⟨_, rfl, ?_⟩
    refine ⟨_, _, _, _, _, _, rfl, rfl, T.xc_InvalidFirst, (fun _ r_ => r_), T.xk_InvalidFirst_LeagueError, rfl, hx_, ?_⟩
    refine ⟨_, rfl, ?_⟩
    refine iteT ?_
    refine ⟨_, rfl, ?_⟩
    refine ⟨_, _, _, _, _, _, rfl, rfl, T.xc_InvalidFirst, (fun _ r_ => r_), T.xk_InvalidFirst_ValueError, rfl, hx_, ?_⟩
    exact hQ true _ _ hM hW.out rep_v
def M_is_value_oInvalidValues (KM : Bool → Prop) : Prop :=
  (KM true)
def sp_is_value_oInvalidValues (A : Ad) : Addr → Value → Option Addr → Sp := fun a_x cls_ d_ vs H Q _ => ∃ (ms : List Addr) (dd_ : Addr) (fs_ : List (Str × V)) (KM : Bool → Prop), vs = [.ref a_x] ∧ Wd ms [] [] H H ∧ cls_ = .ref A.c_InvalidValues ∧ d_ = some dd_ ∧ H dd_ = some (.xd fs_) ∧ M_is_value_oInvalidValues KM ∧ ∀ (r : Bool) (u : V) (H1 : Hp), KM r → Ret [] H H1 → rep ms H1 (D.v (V.bl r)) u → Q u H1
set_option maxHeartbeats 16000000 in
theorem ok_is_value_oInvalidValues {P : Program} {w : World} {K : PySem.W.Frag} {mg : Str → Option Value} {base : Heap} {A : Ad} (T : Txt w K mg base A) : FnE P w K mg base 1 A.a_is_value A.d_is_value ["_law_e"] (sp_is_value_oInvalidValues A) := by
  refine okE T.F_is_value sc_is_value (fun a_x cls_ d_ vs H Q h => ?_) (fun cdv A_ outer s_ H_0 vs Q a_x oe_ cls_ d_ hr hz_ hf_ h => ?_)
  · obtain ⟨ms, dd_, fs_, KM, rfl, _⟩ := h
    rfl
  · obtain ⟨ms, dd_, fs_, KM, rfl, hW, rfl, rfl, hx_, hM, hQ⟩ := h
    unfold M_is_value_oInvalidValues at hM
    refine ⟨_, (pss_one (ps_ret (pe_and (pe_callB (call_isXg List.mem_cons_self hz_ hf_) (by rfl) T.z_isinstance (by decide +kernel) (pa_cons (pv 0) (pa_cons (pe_glob (v := .ref A.c_LeagueError) (by rfl) T.g_LeagueError rfl) pa_nil))) (pe_one (pe_callB (call_isXg List.mem_cons_self hz_ hf_) (by rfl) T.z_isinstance (by decide +kernel) (pa_cons (pv 0) (pa_cons (pe_bltn (v := .ty "ValueError") (by rfl) T.z_ValueError (by decide +kernel) rfl) pa_nil))))))), ?_⟩
    refine ⟨_, rfl, ?_⟩
    refine ⟨_, _, _, _, _, _, rfl, rfl, T.xc_InvalidValues, (fun _ r_ => r_), T.xk_InvalidValues_LeagueError, rfl, hx_, ?_⟩
    refine ⟨_, rfl, ?_⟩
    refine iteT ?_
    refine ⟨_, rfl, ?_⟩
    refine ⟨_, _, _, _, _, _, rfl, rfl, T.xc_InvalidValues, (fun _ r_ => r_), T.xk_InvalidValues_ValueError, rfl, hx_, ?_⟩
    exact hQ true _ _ hM hW.out rep_v
def M_is_value_oInvalidRows (KM : Bool → Prop) : Prop :=
  (KM true)
def sp_is_value_oInvalidRows (A : Ad) : Addr → Value → Option Addr → Sp := fun a_x cls_ d_ vs H Q _ => ∃ (ms : List Addr) (dd_ : Addr) (fs_ : List (Str × V)) (KM : Bool → Prop), vs = [.ref a_x] ∧ Wd ms [] [] H H ∧ cls_ = .ref A.c_InvalidRows ∧ d_ = some dd_ ∧ H dd_ = some (.xd fs_) ∧ M_is_value_oInvalidRows KM ∧ ∀ (r : Bool) (u : V) (H1 : Hp), KM r → Ret [] H H1 → rep ms H1 (D.v (V.bl r)) u → Q u H1
set_option maxHeartbeats 16000000 in
theorem ok_is_value_oInvalidRows {P : Program} {w : World} {K : PySem.W.Frag} {mg : Str → Option Value} {base : Heap} {A : Ad} (T : Txt w K mg base A) : FnE P w K mg base 1 A.a_is_value A.d_is_value ["_law_e"] (sp_is_value_oInvalidRows A) := by
  refine okE T.F_is_value sc_is_value (fun a_x cls_ d_ vs H Q h => ?_) (fun cdv A_ outer s_ H_0 vs Q a_x oe_ cls_ d_ hr hz_ hf_ h => ?_)
  · obtain ⟨ms, dd_, fs_, KM, rfl, _⟩ := h
    rfl
  · obtain ⟨ms, dd_, fs_, KM, rfl, hW, rfl, rfl, hx_, hM, hQ⟩ := h
    unfold M_is_value_oInvalidRows at hM
    refine ⟨_, (pss_one (ps_ret (pe_and (pe_callB (call_isXg List.mem_cons_self hz_ hf_) (by rfl) T.z_isinstance (by decide +kernel) (pa_cons (pv 0) (pa_cons (pe_glob (v := .ref A.c_LeagueError) (by rfl) T.g_LeagueError rfl) pa_nil))) (pe_one (pe_callB (call_isXg List.mem_cons_self hz_ hf_) (by rfl) T.z_isinstance (by decide +kernel) (pa_cons (pv 0) (pa_cons (pe_bltn (v := .ty "ValueError") (by rfl) T.z_ValueError (by decide +kernel) rfl) pa_nil))))))), ?_⟩
    refine ⟨_, rfl, ?_⟩
    refine ⟨_, _, _, _, _, _, rfl, rfl, T.xc_InvalidRows, (fun _ r_ => r_), T.xk_InvalidRows_LeagueError, rfl, hx_, ?_⟩
    refine ⟨_, rfl, ?_⟩
    refine iteT ?_
    refine ⟨_, rfl, ?_⟩
    refine ⟨_, _, _, _, _, _, rfl, rfl, T.xc_InvalidRows, (fun _ r_ => r_), T.xk_InvalidRows_ValueError, rfl, hx_, ?_⟩
    exact hQ true _ _ hM hW.out rep_v
def M_heard (ML : ((Int × List Int × List (Int × Int × Int)) → Prop) → (D → Prop) → (D → Prop) → (D → Prop) → (D → D → Prop) → Prop) (KM : (List D) → Prop) : Prop :=
  (ML (fun r7 => (KM ([(D.v (V.str ("taken" : Str)))] : List D))) (fun x12 => (M_is_value fun r46 => (KM ([(D.v (V.str ("first" : Str))), x12, (D.v (V.bl r46))] : List D)))) (fun x18 => (M_is_value_oInvalidValues fun r66 => (KM ([(D.v (V.str ("values" : Str))), x18, (D.v (V.bl r66))] : List D)))) (fun x24 => (M_is_value_oInvalidRows fun r86 => (KM ([(D.v (V.str ("rows" : Str))), x24, (D.v (V.bl r86))] : List D)))) (fun x30 x31 => (KM ([(D.v (V.str ("many" : Str))), x30, x31, (D.v (V.bl true))] : List D))))
def TT_heard (A : Ad) : (XK → Hp → VK → Prop) → Hp → VK → Prop := fun tl H Q => ∃ (ms : List Addr) (ML : ((Int × List Int × List (Int × Int × Int)) → Prop) → (D → Prop) → (D → Prop) → (D → Prop) → (D → D → Prop) → Prop) (KM : (List D) → Prop), Wd ms [] [] H H ∧ (∀ (ms_ : List Addr) (H1 : Hp) (E : XK) (Q1 : VK) (KN : (Int × List Int × List (Int × Int × Int)) → Prop) (KE_InvalidFirst : (D → Prop)) (KE_InvalidValues : (D → Prop)) (KE_InvalidRows : (D → Prop)) (KE_TooMany : (D → D → Prop)), (∀ a ∈ ms_, a ∈ ms ∨ H a = none) → Ret [] H H1 → Wd ms_ [] [] H1 H1 → ML KN KE_InvalidFirst KE_InvalidValues KE_InvalidRows KE_TooMany → (∀ (r : (Int × List Int × List (Int × Int × Int))) (u : V) (H2 : Hp), KN r → Ret [] H1 H2 → rep ms_ H2 (eForm A r) u → Q1 u H2) → (∀ (e0_ : D) (cls : Value) (d : Option Addr) (H2 : Hp), KE_InvalidFirst e0_ → Ret [] H1 H2 → excR ms_ H2 A.c_InvalidFirst [("value" : Str)] [e0_] cls d → E cls d H2) → (∀ (e0_ : D) (cls : Value) (d : Option Addr) (H2 : Hp), KE_InvalidValues e0_ → Ret [] H1 H2 → excR ms_ H2 A.c_InvalidValues [("position" : Str)] [e0_] cls d → E cls d H2) → (∀ (e0_ : D) (cls : Value) (d : Option Addr) (H2 : Hp), KE_InvalidRows e0_ → Ret [] H1 H2 → excR ms_ H2 A.c_InvalidRows [("position" : Str)] [e0_] cls d → E cls d H2) → (∀ (e0_ : D) (e1_ : D) (cls : Value) (d : Option Addr) (H2 : Hp), KE_TooMany e0_ e1_ → Ret [] H1 H2 → excR ms_ H2 A.c_TooMany [("limit" : Str), ("what" : Str)] [e1_, e0_] cls d → E cls d H2) → tl E H1 Q1) ∧ M_heard ML KM ∧ ∀ (r : (List D)) (u : V) (H1 : Hp), KM r → Ret [] H H1 → rep ms H1 (D.lst (r.map (fun y_ : D => y_))) u → Q u H1
set_option maxHeartbeats 16000000 in
theorem gives_heard {X : Cx} {A : Ad} (T : Txt X.w X.K X.mg X.base A) (gu : X.A.guards = some []) (q : Str) : ∀ cdv, Gives X ["_law_call", "_law_told", "_law_e"] "_law_heard" (defScope s_heard) A.a_heard cdv (defBody s_heard) "_law_call" q (TT_heard A) := by
  intro cdv f_ c_ s_ H_0 Q tl hr act hco_ h
  obtain ⟨ms, ML, KM, hW, hlam, hM, hQ⟩ := h
  unfold M_heard at hM
  refine ⟨_, (pss_cons (ps_set (i := 1) sc_heard.nd rfl (by first | exact Or.inl rfl | exact Or.inr rfl) (pe_lst (pa_cons pe_str pa_nil))) (pss_cons (ps_try_all (i := 2) rfl rfl sc_heard.nd rfl rfl takes0 (fun W_ pn_ xe_ tk_ _ => (pss_one (ps_expr (act W_ pn_ xe_ _ _ tk_)))) (.cons ⟨(by rfl), (by rfl), .inl T.g_InvalidFirst⟩ (fun a_x oe_ cls_ d_ pn_ hz_ hf_ => (pss_one (ps_set (i := 1) sc_heard.nd rfl (by first | exact Or.inl rfl | exact Or.inr rfl) (pe_lst (pa_cons pe_str (pa_cons (pe_xf T.xf_InvalidFirst T.no_InvalidFirst_value hz_ hf_ (pv 2)) (pa_cons (pe_callE hz_ hf_ (ok_is_value T) (hr.mono (by decide)) (by rfl) T.g_is_value T.F_is_value.kp T.b_is_value (pa_cons (pv 2) pa_nil)) pa_nil))))))) (.cons ⟨(by rfl), (by rfl), .inl T.g_InvalidValues⟩ (fun a_x oe_ cls_ d_ pn_ hz_ hf_ => (pss_one (ps_set (i := 1) sc_heard.nd rfl (by first | exact Or.inl rfl | exact Or.inr rfl) (pe_lst (pa_cons pe_str (pa_cons (pe_xf T.xf_InvalidValues T.no_InvalidValues_position hz_ hf_ (pv 2)) (pa_cons (pe_callE hz_ hf_ (ok_is_value_oInvalidValues T) (hr.mono (by decide)) (by rfl) T.g_is_value T.F_is_value.kp T.b_is_value (pa_cons (pv 2) pa_nil)) pa_nil))))))) (.cons ⟨(by rfl), (by rfl), .inl T.g_InvalidRows⟩ (fun a_x oe_ cls_ d_ pn_ hz_ hf_ => (pss_one (ps_set (i := 1) sc_heard.nd rfl (by first | exact Or.inl rfl | exact Or.inr rfl) (pe_lst (pa_cons pe_str (pa_cons (pe_xf T.xf_InvalidRows T.no_InvalidRows_position hz_ hf_ (pv 2)) (pa_cons (pe_callE hz_ hf_ (ok_is_value_oInvalidRows T) (hr.mono (by decide)) (by rfl) T.g_is_value T.F_is_value.kp T.b_is_value (pa_cons (pv 2) pa_nil)) pa_nil))))))) (.cons ⟨(by rfl), (by rfl), .inl T.g_InvalidNumber⟩ (fun a_x oe_ cls_ d_ pn_ hz_ hf_ => (pss_one ps_never)) (.cons ⟨(by rfl), (by rfl), .inl T.g_TooMany⟩ (fun a_x oe_ cls_ d_ pn_ hz_ hf_ => (pss_one (ps_set (i := 1) sc_heard.nd rfl (by first | exact Or.inl rfl | exact Or.inr rfl) (pe_lst (pa_cons pe_str (pa_cons (pe_xf T.xf_TooMany T.no_TooMany_what hz_ hf_ (pv 2)) (pa_cons (pe_xf T.xf_TooMany T.no_TooMany_limit hz_ hf_ (pv 2)) (pa_cons (pe_and (pe_callB (call_isX hz_ hf_) (by rfl) T.z_isinstance (by decide +kernel) (pa_cons (pv 2) (pa_cons (pe_glob (v := .ref A.c_LimitError) (by rfl) T.g_LimitError rfl) pa_nil))) (pe_one (pe_callB (call_isX hz_ hf_) (by rfl) T.z_isinstance (by decide +kernel) (pa_cons (pv 2) (pa_cons (pe_bltn (v := .ty "ArithmeticError") (by rfl) T.z_ArithmeticError (by decide +kernel) rfl) pa_nil))))) pa_nil)))))))) .nil)))))) (pss_one (ps_ret (pv 1))))), ?_⟩
  refine ⟨(by show 1 ≤ sizeLine; decide), ?_⟩
  intro p1 n5
  have e2 := Rx.Ext.new (H := H_0) (o := (HO.lst [V.str ("taken" : Str)])) n5
  have hp3 : upd H_0 p1 (HO.lst [V.str ("taken" : Str)]) p1 = some (HO.lst [V.str ("taken" : Str)]) := upd_same
  generalize upd H_0 p1 (HO.lst [V.str ("taken" : Str)]) = H6 at e2 hp3 ⊢
  have h4 : rep ms H6 (D.lst (([(D.v (V.str ("taken" : Str)))] : List D).map (fun y_ : D => y_))) (.ref p1) := rep_lst_mk hW n5 e2 hp3 (repL_cons rep_v repL_nil)
  replace hco_ := Rx.Ext.keep e2 hco_
  replace hW := hW.ret0 e2
  refine ⟨rfl, hco_, _, fun _ _ _ h_ => h_, hlam _ _ _ _ _ _ _ _ _ (fun _ h_ => .inl h_) hW.out hW.enter0 hM (fun r7 u10 H11 hM e9 h8 => ?_) (fun x12 cl13 d14 H15 hM er16 ex17 => ?_) (fun x18 cl19 d20 H21 hM er22 ex23 => ?_) (fun x24 cl25 d26 H27 hM er28 ex29 => ?_) (fun x30 x31 cl32 d33 H34 hM er35 ex36 => ?_)⟩
  · skip
    replace h4 := rep_ext e9 h4
    replace hco_ := Rx.Ext.keep e9 hco_
    replace hW := hW.ret0 e9
    refine ⟨_, rfl, ?_⟩
    exact hQ ([(D.v (V.str ("taken" : Str)))] : List D) _ _ hM hW.out h4
  · skip
    replace h4 := rep_ext er16 h4
    replace hco_ := Rx.Ext.keep er16 hco_
    replace hW := hW.ret0 er16
    obtain ⟨rfl, dd41, vs37, rfl, hx38, hn39, hr40⟩ := ex17
    obtain ⟨u42, us43, rfl, h44, hr45⟩ := repL_uncons hr40
    obtain rfl := repL_empty hr45
    refine ⟨true, T.xm_InvalidFirst_InvalidFirst, fun _ a_x na_x => ?_, (fun z_ => by cases z_)⟩
    refine ⟨_, rfl, ?_⟩
    refine ⟨rfl, rfl, _, _, u42, rfl, hx38, rfl, ?_⟩
    refine ⟨_, rfl, ?_⟩
    refine ⟨ms, _, _, _, rfl, hW.enter0, rfl, rfl, hx38, hM, fun r46 u49 H50 hM e48 h47 => ?_⟩
    replace h4 := rep_ext e48 h4
    replace h44 := rep_ext e48 h44
    replace hx38 := Rx.Ext.keep e48 hx38
    replace hW := hW.ret0 e48
    obtain rfl := of_v h47
    refine ⟨(by show 3 ≤ sizeLine; decide), ?_⟩
    intro p51 n55
    have e52 := Rx.Ext.new (H := H50) (o := (HO.lst [V.str ("first" : Str), u42, V.bl r46])) n55
    have hp53 : upd H50 p51 (HO.lst [V.str ("first" : Str), u42, V.bl r46]) p51 = some (HO.lst [V.str ("first" : Str), u42, V.bl r46]) := upd_same
    generalize upd H50 p51 (HO.lst [V.str ("first" : Str), u42, V.bl r46]) = H56 at e52 hp53 ⊢
    have h54 : rep ms H56 (D.lst (([(D.v (V.str ("first" : Str))), x12, (D.v (V.bl r46))] : List D).map (fun y_ : D => y_))) (.ref p51) := rep_lst_mk hW n55 e52 hp53 (repL_cons rep_v (repL_cons h44 (repL_cons rep_v repL_nil)))
    replace h4 := rep_ext e52 h4
    replace h44 := rep_ext e52 h44
    replace hx38 := Rx.Ext.keep e52 hx38
    replace hW := hW.ret0 e52
    refine ⟨_, rfl, ?_⟩
    exact hQ ([(D.v (V.str ("first" : Str))), x12, (D.v (V.bl r46))] : List D) _ _ hM hW.out h54
  · skip
    replace h4 := rep_ext er22 h4
    replace hco_ := Rx.Ext.keep er22 hco_
    replace hW := hW.ret0 er22
    obtain ⟨rfl, dd61, vs57, rfl, hx58, hn59, hr60⟩ := ex23
    obtain ⟨u62, us63, rfl, h64, hr65⟩ := repL_uncons hr60
    obtain rfl := repL_empty hr65
    refine ⟨false, T.xm_InvalidValues_InvalidFirst, (fun z_ => by cases z_), fun _ => ?_⟩
    refine ⟨true, T.xm_InvalidValues_InvalidValues, fun _ a_x na_x => ?_, (fun z_ => by cases z_)⟩
    refine ⟨_, rfl, ?_⟩
    refine ⟨rfl, rfl, _, _, u62, rfl, hx58, rfl, ?_⟩
    refine ⟨_, rfl, ?_⟩
    refine ⟨ms, _, _, _, rfl, hW.enter0, rfl, rfl, hx58, hM, fun r66 u69 H70 hM e68 h67 => ?_⟩
    replace h4 := rep_ext e68 h4
    replace h64 := rep_ext e68 h64
    replace hx58 := Rx.Ext.keep e68 hx58
    replace hW := hW.ret0 e68
    obtain rfl := of_v h67
    refine ⟨(by show 3 ≤ sizeLine; decide), ?_⟩
    intro p71 n75
    have e72 := Rx.Ext.new (H := H70) (o := (HO.lst [V.str ("values" : Str), u62, V.bl r66])) n75
    have hp73 : upd H70 p71 (HO.lst [V.str ("values" : Str), u62, V.bl r66]) p71 = some (HO.lst [V.str ("values" : Str), u62, V.bl r66]) := upd_same
    generalize upd H70 p71 (HO.lst [V.str ("values" : Str), u62, V.bl r66]) = H76 at e72 hp73 ⊢
    have h74 : rep ms H76 (D.lst (([(D.v (V.str ("values" : Str))), x18, (D.v (V.bl r66))] : List D).map (fun y_ : D => y_))) (.ref p71) := rep_lst_mk hW n75 e72 hp73 (repL_cons rep_v (repL_cons h64 (repL_cons rep_v repL_nil)))
    replace h4 := rep_ext e72 h4
    replace h64 := rep_ext e72 h64
    replace hx58 := Rx.Ext.keep e72 hx58
    replace hW := hW.ret0 e72
    refine ⟨_, rfl, ?_⟩
    exact hQ ([(D.v (V.str ("values" : Str))), x18, (D.v (V.bl r66))] : List D) _ _ hM hW.out h74
  · skip
    replace h4 := rep_ext er28 h4
    replace hco_ := Rx.Ext.keep er28 hco_
    replace hW := hW.ret0 er28
    obtain ⟨rfl, dd81, vs77, rfl, hx78, hn79, hr80⟩ := ex29
    obtain ⟨u82, us83, rfl, h84, hr85⟩ := repL_uncons hr80
    obtain rfl := repL_empty hr85
    refine ⟨false, T.xm_InvalidRows_InvalidFirst, (fun z_ => by cases z_), fun _ => ?_⟩
    refine ⟨false, T.xm_InvalidRows_InvalidValues, (fun z_ => by cases z_), fun _ => ?_⟩
    refine ⟨true, T.xm_InvalidRows_InvalidRows, fun _ a_x na_x => ?_, (fun z_ => by cases z_)⟩
    refine ⟨_, rfl, ?_⟩
    refine ⟨rfl, rfl, _, _, u82, rfl, hx78, rfl, ?_⟩
    refine ⟨_, rfl, ?_⟩
    refine ⟨ms, _, _, _, rfl, hW.enter0, rfl, rfl, hx78, hM, fun r86 u89 H90 hM e88 h87 => ?_⟩
    replace h4 := rep_ext e88 h4
    replace h84 := rep_ext e88 h84
    replace hx78 := Rx.Ext.keep e88 hx78
    replace hW := hW.ret0 e88
    obtain rfl := of_v h87
    refine ⟨(by show 3 ≤ sizeLine; decide), ?_⟩
    intro p91 n95
    have e92 := Rx.Ext.new (H := H90) (o := (HO.lst [V.str ("rows" : Str), u82, V.bl r86])) n95
    have hp93 : upd H90 p91 (HO.lst [V.str ("rows" : Str), u82, V.bl r86]) p91 = some (HO.lst [V.str ("rows" : Str), u82, V.bl r86]) := upd_same
    generalize upd H90 p91 (HO.lst [V.str ("rows" : Str), u82, V.bl r86]) = H96 at e92 hp93 ⊢
    have h94 : rep ms H96 (D.lst (([(D.v (V.str ("rows" : Str))), x24, (D.v (V.bl r86))] : List D).map (fun y_ : D => y_))) (.ref p91) := rep_lst_mk hW n95 e92 hp93 (repL_cons rep_v (repL_cons h84 (repL_cons rep_v repL_nil)))
    replace h4 := rep_ext e92 h4
    replace h84 := rep_ext e92 h84
    replace hx78 := Rx.Ext.keep e92 hx78
    replace hW := hW.ret0 e92
    refine ⟨_, rfl, ?_⟩
    exact hQ ([(D.v (V.str ("rows" : Str))), x24, (D.v (V.bl r86))] : List D) _ _ hM hW.out h94
  · skip
    replace h4 := rep_ext er35 h4
    replace hco_ := Rx.Ext.keep er35 hco_
    replace hW := hW.ret0 er35
    obtain ⟨rfl, dd101, vs97, rfl, hx98, hn99, hr100⟩ := ex36
    obtain ⟨u102, us103, rfl, h104, hr105⟩ := repL_uncons hr100
    obtain ⟨u106, us107, rfl, h108, hr109⟩ := repL_uncons hr105
    obtain rfl := repL_empty hr109
    refine ⟨false, T.xm_TooMany_InvalidFirst, (fun z_ => by cases z_), fun _ => ?_⟩
    refine ⟨false, T.xm_TooMany_InvalidValues, (fun z_ => by cases z_), fun _ => ?_⟩
    refine ⟨false, T.xm_TooMany_InvalidRows, (fun z_ => by cases z_), fun _ => ?_⟩
    refine ⟨false, T.xm_TooMany_InvalidNumber, (fun z_ => by cases z_), fun _ => ?_⟩
    refine ⟨true, T.xm_TooMany_TooMany, fun _ a_x na_x => ?_, (fun z_ => by cases z_)⟩
    refine ⟨_, rfl, ?_⟩
    refine ⟨rfl, rfl, _, _, u106, rfl, hx98, rfl, ?_⟩
    refine ⟨_, rfl, ?_⟩
    refine ⟨rfl, rfl, _, _, u102, rfl, hx98, rfl, ?_⟩
    refine ⟨_, rfl, ?_⟩
    refine ⟨_, _, _, _, _, _, rfl, rfl, T.xc_TooMany, (fun _ r_ => r_), T.xk_TooMany_LimitError, rfl, hx98, ?_⟩
    refine ⟨_, rfl, ?_⟩
    refine iteT ?_
    refine ⟨_, rfl, ?_⟩
    refine ⟨_, _, _, _, _, _, rfl, rfl, T.xc_TooMany, (fun _ r_ => r_), T.xk_TooMany_ArithmeticError, rfl, hx98, ?_⟩
    refine ⟨(by show 4 ≤ sizeLine; decide), ?_⟩
    intro p110 n114
    have e111 := Rx.Ext.new (H := H34) (o := (HO.lst [V.str ("many" : Str), u106, u102, V.bl true])) n114
    have hp112 : upd H34 p110 (HO.lst [V.str ("many" : Str), u106, u102, V.bl true]) p110 = some (HO.lst [V.str ("many" : Str), u106, u102, V.bl true]) := upd_same
    generalize upd H34 p110 (HO.lst [V.str ("many" : Str), u106, u102, V.bl true]) = H115 at e111 hp112 ⊢
    have h113 : rep ms H115 (D.lst (([(D.v (V.str ("many" : Str))), x30, x31, (D.v (V.bl true))] : List D).map (fun y_ : D => y_))) (.ref p110) := rep_lst_mk hW n114 e111 hp112 (repL_cons rep_v (repL_cons h108 (repL_cons h104 (repL_cons rep_v repL_nil))))
    replace h4 := rep_ext e111 h4
    replace h104 := rep_ext e111 h104
    replace h108 := rep_ext e111 h108
    replace hx98 := Rx.Ext.keep e111 hx98
    replace hW := hW.ret0 e111
    refine ⟨_, rfl, ?_⟩
    exact hQ ([(D.v (V.str ("many" : Str))), x30, x31, (D.v (V.bl true))] : List D) _ _ hM hW.out h113
def M_is_due (ML : ((Int × List Int × List (Int × Int × Int)) → Prop) → (D → Prop) → (D → Prop) → (D → Prop) → (D → D → Prop) → Prop) (x_due : (List D)) (KM : Bool → Prop) : Prop :=
  (M_heard ML fun r1 => ((plainX (D.lst (r1.map (fun y_ : D => y_))) = true ∧ (pyX (D.lst (r1.map (fun y_ : D => y_)))).showable = true ∧ (pyX (D.lst (r1.map (fun y_ : D => y_)))).depth ≤ 60 ∧ (pyX (D.lst (r1.map (fun y_ : D => y_)))).shown.length ≤ sizeLine) ∧ (∃ KB7 : (List D) → Prop, (((x_due.map (fun y_ : D => y_)).length = (([("taken" : Str)] : List Str).map (fun y_ : Str => (D.v (V.str y_)))).length → plainD (D.lst (x_due.map (fun y_ : D => y_))) = true ∧ plainD (D.lst (([("taken" : Str)] : List Str).map (fun y_ : Str => (D.v (V.str y_))))) = true ∧ SeqAt.shaped (pyOf (D.lst (x_due.map (fun y_ : D => y_)))) = true ∧ SeqAt.shaped (pyOf (D.lst (([("taken" : Str)] : List Str).map (fun y_ : Str => (D.v (V.str y_)))))) = true) ∧ (if (decide ((x_due.map (fun y_ : D => y_)).length = (([("taken" : Str)] : List Str).map (fun y_ : Str => (D.v (V.str y_)))).length) && PyData.eqv (pyOf (D.lst (x_due.map (fun y_ : D => y_)))) (pyOf (D.lst (([("taken" : Str)] : List Str).map (fun y_ : Str => (D.v (V.str y_))))))) = true then (KB7 x_due) else (x_due.length + ([(D.v (V.bl true))] : List D).length ≤ sizeLine ∧ (KB7 (x_due ++ ([(D.v (V.bl true))] : List D)))))) ∧ ∀ r28 : (List D), KB7 r28 → ((plainX (D.lst (r28.map (fun y_ : D => y_))) = true ∧ (pyX (D.lst (r28.map (fun y_ : D => y_)))).showable = true ∧ (pyX (D.lst (r28.map (fun y_ : D => y_)))).depth ≤ 60 ∧ (pyX (D.lst (r28.map (fun y_ : D => y_)))).shown.length ≤ sizeLine) ∧ (KM (decide (V.str (pyX (D.lst (r1.map (fun y_ : D => y_)))).shown = V.str (pyX (D.lst (r28.map (fun y_ : D => y_)))).shown)))))))
def TT_is_due (A : Ad) : (XK → Hp → VK → Prop) → V → Hp → VK → Prop := fun tl v_due H Q => ∃ (ms : List Addr) (ML : ((Int × List Int × List (Int × Int × Int)) → Prop) → (D → Prop) → (D → Prop) → (D → Prop) → (D → D → Prop) → Prop) (x_due : (List D)) (KM : Bool → Prop), Wd ms [] [] H H ∧ rep ms H (D.lst (x_due.map (fun y_ : D => y_))) v_due ∧ (∀ (ms_ : List Addr) (H1 : Hp) (E : XK) (Q1 : VK) (KN : (Int × List Int × List (Int × Int × Int)) → Prop) (KE_InvalidFirst : (D → Prop)) (KE_InvalidValues : (D → Prop)) (KE_InvalidRows : (D → Prop)) (KE_TooMany : (D → D → Prop)), (∀ a ∈ ms_, a ∈ ms ∨ H a = none) → Ret [] H H1 → Wd ms_ [] [] H1 H1 → ML KN KE_InvalidFirst KE_InvalidValues KE_InvalidRows KE_TooMany → (∀ (r : (Int × List Int × List (Int × Int × Int))) (u : V) (H2 : Hp), KN r → Ret [] H1 H2 → rep ms_ H2 (eForm A r) u → Q1 u H2) → (∀ (e0_ : D) (cls : Value) (d : Option Addr) (H2 : Hp), KE_InvalidFirst e0_ → Ret [] H1 H2 → excR ms_ H2 A.c_InvalidFirst [("value" : Str)] [e0_] cls d → E cls d H2) → (∀ (e0_ : D) (cls : Value) (d : Option Addr) (H2 : Hp), KE_InvalidValues e0_ → Ret [] H1 H2 → excR ms_ H2 A.c_InvalidValues [("position" : Str)] [e0_] cls d → E cls d H2) → (∀ (e0_ : D) (cls : Value) (d : Option Addr) (H2 : Hp), KE_InvalidRows e0_ → Ret [] H1 H2 → excR ms_ H2 A.c_InvalidRows [("position" : Str)] [e0_] cls d → E cls d H2) → (∀ (e0_ : D) (e1_ : D) (cls : Value) (d : Option Addr) (H2 : Hp), KE_TooMany e0_ e1_ → Ret [] H1 H2 → excR ms_ H2 A.c_TooMany [("limit" : Str), ("what" : Str)] [e1_, e0_] cls d → E cls d H2) → tl E H1 Q1) ∧ M_is_due ML x_due KM ∧ ∀ (r : Bool) (u : V) (H1 : Hp), KM r → Ret [] H H1 → rep ms H1 (D.v (V.bl r)) u → Q u H1
set_option maxHeartbeats 16000000 in
theorem gives_is_due {X : Cx} {A : Ad} (T : Txt X.w X.K X.mg X.base A) (gu : X.A.guards = some []) (q : Str) : ∀ cdv, Gives2 X ["_law_call", "_law_due"] "_law_is_due" (defScope s_is_due) A.a_is_due cdv (defBody s_is_due) q (TT_is_due A) := by
  intro cdv f_ c_ v_due s_ H_0 Q tl hr act hco_ h
  obtain ⟨ms, ML, x_due, KM, hW, h_due, hlam, hM, hQ⟩ := h
  unfold M_is_due at hM
  refine ⟨_, (pss_one (ps_ret (pe_cmpR op_eq (pe_callB (call_reprY (by exact gu) (by have h_ := units65 hr; exact h_)) (by rfl) T.z_repr (by decide +kernel) (pa_cons (pe_passF (k := 1) (i := 0) (by rfl) T.g_heard T.F_heard T.b_heard sc_heard (.inl rfl) rfl (by first | exact Or.inl rfl | exact Or.inr (Or.inl rfl)) (gives_heard (X := (cxOf C8.CX0 X.prog X.w X.K X.mg X.base ["_law_call", "_law_due"] "_law_is_due" (defScope s_is_due) A.a_is_due cdv X.A X.stack s_ H_0 C8.E0).nox) T gu _) hr act) pa_nil)) (pe_callB (call_reprY (by exact gu) (by have h_ := units65 hr; exact h_)) (by rfl) T.z_repr (by decide +kernel) (pa_cons (pe_up (pe_ifExp (pt_cmpR (op_eqL (K := X.K) rfl hr.units) (pv 1) (pe_lst (pa_cons pe_str pa_nil)) (nomark _)) (pv 1) (pe_op op_cat (pv 1) (pe_lst (pa_cons pe_bl pa_nil))))) pa_nil)) (nomark _)))), ?_⟩
  refine ⟨rfl, hco_, ms, _, _, hW.enter0, fun ms_l Hl_ E_ Q1_ KN_ KE_InvalidFirst KE_InvalidValues KE_InvalidRows KE_TooMany hs_ el_ hWl_ hMl_ hQl_ hE_InvalidFirst hE_InvalidValues hE_InvalidRows hE_TooMany => hlam ms_l Hl_ E_ Q1_ KN_ KE_InvalidFirst KE_InvalidValues KE_InvalidRows KE_TooMany (fun a_ h_ => (hs_ a_ h_).imp id (fun z_ => wd_none hW z_)) (hW.ret0 el_).out hWl_ hMl_ hQl_ hE_InvalidFirst hE_InvalidValues hE_InvalidRows hE_TooMany, hM, fun r1 u4 H5 hM e3 h2 => ?_⟩
  replace h_due := rep_ext e3 h_due
  replace hco_ := Rx.Ext.keep e3 hco_
  replace hW := hW.ret0 e3
  obtain ⟨g6, hM⟩ := hM
  refine rep_reprY (d := (D.lst (r1.map (fun y_ : D => y_)))) h2 g6 ?_
  obtain ⟨KB7, hM, hKKB7⟩ := hM
  refine ⟨fun v H1 => ∃ r : (List D), KB7 r ∧ Wd ms [] [] H_0 H1 ∧ Keep ms H5 H1 ∧ rep ms H1 (D.lst (r.map (fun y_ : D => y_))) v, ?_, ?_⟩
  · skip
    have hj9 := Keep.refl (ms := ms) (H := H5)
    refine ⟨_, rfl, ?_⟩
    refine ⟨(by show 1 ≤ sizeLine; decide), ?_⟩
    intro p10 n14
    have e11 := Rx.Ext.new (H := H5) (o := (HO.lst [V.str ("taken" : Str)])) n14
    have hp12 : upd H5 p10 (HO.lst [V.str ("taken" : Str)]) p10 = some (HO.lst [V.str ("taken" : Str)]) := upd_same
    generalize upd H5 p10 (HO.lst [V.str ("taken" : Str)]) = H15 at e11 hp12 ⊢
    have h13 : rep ms H15 (D.lst (([("taken" : Str)] : List Str).map (fun y_ : Str => (D.v (V.str y_))))) (.ref p10) := rep_lst_mk hW n14 e11 hp12 (repL_cons rep_v repL_nil)
    replace h_due := rep_ext e11 h_due
    replace h2 := rep_ext e11 h2
    replace hj9 := keep_ext e11 hj9
    replace hco_ := Rx.Ext.keep e11 hco_
    replace hW := hW.ret0 e11
    obtain ⟨g16, hM⟩ := hM
    apply rep_eqL (ds := (x_due.map (fun y_ : D => y_))) (es := (([("taken" : Str)] : List Str).map (fun y_ : Str => (D.v (V.str y_))))) h_due h13 g16
    refine ⟨_, rfl, ?_⟩
    refine ite3 hM (fun hM => ?_) (fun hM => ?_)
    · skip
      refine ⟨_, rfl, ?_⟩
      exact ⟨x_due, hM, hW, hj9, h_due⟩
    · skip
      refine ⟨_, rfl, ?_⟩
      refine ⟨(by show 1 ≤ sizeLine; decide), ?_⟩
      intro p17 n21
      have e18 := Rx.Ext.new (H := H15) (o := (HO.lst [V.bl true])) n21
      have hp19 : upd H15 p17 (HO.lst [V.bl true]) p17 = some (HO.lst [V.bl true]) := upd_same
      generalize upd H15 p17 (HO.lst [V.bl true]) = H22 at e18 hp19 ⊢
      have h20 : rep ms H22 (D.lst (([(D.v (V.bl true))] : List D).map (fun y_ : D => y_))) (.ref p17) := rep_lst_mk hW n21 e18 hp19 (repL_cons rep_v repL_nil)
      replace h_due := rep_ext e18 h_due
      replace h2 := rep_ext e18 h2
      replace hj9 := keep_ext e18 hj9
      replace h13 := rep_ext e18 h13
      replace hco_ := Rx.Ext.keep e18 hco_
      replace hW := hW.ret0 e18
      obtain ⟨g23, hM⟩ := hM
      apply rep_cat (xs := x_due) (ys := ([(D.v (V.bl true))] : List D)) (e := (fun y_ : D => y_)) hW h_due h20 g23
      intro p24 H27 e26 h25
      replace h_due := rep_ext e26 h_due
      replace h2 := rep_ext e26 h2
      replace hj9 := keep_ext e26 hj9
      replace h13 := rep_ext e26 h13
      replace h20 := rep_ext e26 h20
      replace hco_ := Rx.Ext.keep e26 hco_
      replace hW := hW.ret0 e26
      exact ⟨(x_due ++ ([(D.v (V.bl true))] : List D)), hM, hW, hj9, h25⟩
  · skip
    rintro u30 Hj8 ⟨r28, hr, hW, hj9, h29⟩
    replace hM := hKKB7 r28 hr
    replace h_due := rep_keep hj9 h_due
    replace h2 := rep_keep hj9 h2
    obtain ⟨g31, hM⟩ := hM
    refine rep_reprY (d := (D.lst (r28.map (fun y_ : D => y_)))) h29 g31 ?_
    refine ⟨rfl, ?_⟩
    exact hQ (decide (V.str (pyX (D.lst (r1.map (fun y_ : D => y_)))).shown = V.str (pyX (D.lst (r28.map (fun y_ : D => y_)))).shown)) _ _ hM hW.out rep_v
def M_is_form_right (KM : Bool → Prop) : Prop :=
  (M_first  fun r1 => (M_early  fun r17 => (M_rows  fun r37 => (([r1.2, r17.2.1, r37.2.1] : List (Option (List D))).length < 100000 ∧ filC (fun (x79 : (Option (List D))) (k72 : Option (List D) → Prop) => (if (Option.isSome x79) = true then (∃ y85, x79 = some y85 ∧ (k72 (some y85))) else (k72 none))) ([r1.2, r17.2.1, r37.2.1] : List (Option (List D))) [] fun ys93 => (if (decide ((200 : Int) < r17.2.2)) = true then (ys93.length + ([([(D.v (V.str ("many" : Str))), (D.v (V.str ("values" : Str))), (D.v (V.int (200 : Int)))] : List D)] : List (List D)).length ≤ sizeLine ∧ (if (decide ((24 : Int) < r37.2.2)) = true then ((ys93 ++ ([([(D.v (V.str ("many" : Str))), (D.v (V.str ("values" : Str))), (D.v (V.int (200 : Int)))] : List D)] : List (List D))).length + ([([(D.v (V.str ("many" : Str))), (D.v (V.str ("rows" : Str))), (D.v (V.int (24 : Int)))] : List D)] : List (List D)).length ≤ sizeLine ∧ (((ys93 ++ ([([(D.v (V.str ("many" : Str))), (D.v (V.str ("values" : Str))), (D.v (V.int (200 : Int)))] : List D)] : List (List D))) ++ ([([(D.v (V.str ("many" : Str))), (D.v (V.str ("rows" : Str))), (D.v (V.int (24 : Int)))] : List D)] : List (List D))).length + ([([(D.v (V.str ("taken" : Str)))] : List D)] : List (List D)).length ≤ sizeLine ∧ (0 ≤ (0 : Int) ∧ ∃ g151 : Int.toNat (0 : Int) < (((ys93 ++ ([([(D.v (V.str ("many" : Str))), (D.v (V.str ("values" : Str))), (D.v (V.int (200 : Int)))] : List D)] : List (List D))) ++ ([([(D.v (V.str ("many" : Str))), (D.v (V.str ("rows" : Str))), (D.v (V.int (24 : Int)))] : List D)] : List (List D))) ++ ([([(D.v (V.str ("taken" : Str)))] : List D)] : List (List D))).length, ∀ x153, x153 = (((ys93 ++ ([([(D.v (V.str ("many" : Str))), (D.v (V.str ("values" : Str))), (D.v (V.int (200 : Int)))] : List D)] : List (List D))) ++ ([([(D.v (V.str ("many" : Str))), (D.v (V.str ("rows" : Str))), (D.v (V.int (24 : Int)))] : List D)] : List (List D))) ++ ([([(D.v (V.str ("taken" : Str)))] : List D)] : List (List D)))[Int.toNat (0 : Int)]'g151 → ((plainX (D.lst (([r1.1, r17.1, r37.1] : List D).map (fun y_ : D => y_))) = true ∧ (pyX (D.lst (([r1.1, r17.1, r37.1] : List D).map (fun y_ : D => y_)))).showable = true ∧ (pyX (D.lst (([r1.1, r17.1, r37.1] : List D).map (fun y_ : D => y_)))).depth ≤ 60 ∧ (pyX (D.lst (([r1.1, r17.1, r37.1] : List D).map (fun y_ : D => y_)))).shown.length ≤ sizeLine) ∧ (M_is_due (fun KN_ KE_InvalidFirst KE_InvalidValues KE_InvalidRows KE_TooMany => (M_Form_init r1.1 r17.1 r37.1 (fun r175 => (KN_ r175)) (fun x176 => (KE_InvalidFirst x176)) (fun x182 => (KE_InvalidValues x182)) (fun x188 => (KE_InvalidRows x188)) (fun x194 x195 => (KE_TooMany x194 x195)))) x153 fun r166 => (if (!r166) = true then (KM false) else (M_is_due (fun KN_ KE_InvalidFirst KE_InvalidValues KE_InvalidRows KE_TooMany => (M_Form_init r1.1 r17.1 r37.1 (fun r214 => (KN_ r214)) (fun x215 => (KE_InvalidFirst x215)) (fun x221 => (KE_InvalidValues x221)) (fun x227 => (KE_InvalidRows x227)) (fun x233 x234 => (KE_TooMany x233 x234)))) x153 fun r205 => (if r205 = true then ((plainX (D.lst (([r1.1, r17.1, r37.1] : List D).map (fun y_ : D => y_))) = true ∧ (pyX (D.lst (([r1.1, r17.1, r37.1] : List D).map (fun y_ : D => y_)))).showable = true ∧ (pyX (D.lst (([r1.1, r17.1, r37.1] : List D).map (fun y_ : D => y_)))).depth ≤ 60 ∧ (pyX (D.lst (([r1.1, r17.1, r37.1] : List D).map (fun y_ : D => y_)))).shown.length ≤ sizeLine) ∧ (KM (decide (V.str (pyX (D.lst (([r1.1, r17.1, r37.1] : List D).map (fun y_ : D => y_)))).shown = V.str (pyX (D.lst (([r1.1, r17.1, r37.1] : List D).map (fun y_ : D => y_)))).shown)))) else (KM false))))))))) else ((ys93 ++ ([([(D.v (V.str ("many" : Str))), (D.v (V.str ("values" : Str))), (D.v (V.int (200 : Int)))] : List D)] : List (List D))).length + ([([(D.v (V.str ("taken" : Str)))] : List D)] : List (List D)).length ≤ sizeLine ∧ (0 ≤ (0 : Int) ∧ ∃ g266 : Int.toNat (0 : Int) < ((ys93 ++ ([([(D.v (V.str ("many" : Str))), (D.v (V.str ("values" : Str))), (D.v (V.int (200 : Int)))] : List D)] : List (List D))) ++ ([([(D.v (V.str ("taken" : Str)))] : List D)] : List (List D))).length, ∀ x268, x268 = ((ys93 ++ ([([(D.v (V.str ("many" : Str))), (D.v (V.str ("values" : Str))), (D.v (V.int (200 : Int)))] : List D)] : List (List D))) ++ ([([(D.v (V.str ("taken" : Str)))] : List D)] : List (List D)))[Int.toNat (0 : Int)]'g266 → ((plainX (D.lst (([r1.1, r17.1, r37.1] : List D).map (fun y_ : D => y_))) = true ∧ (pyX (D.lst (([r1.1, r17.1, r37.1] : List D).map (fun y_ : D => y_)))).showable = true ∧ (pyX (D.lst (([r1.1, r17.1, r37.1] : List D).map (fun y_ : D => y_)))).depth ≤ 60 ∧ (pyX (D.lst (([r1.1, r17.1, r37.1] : List D).map (fun y_ : D => y_)))).shown.length ≤ sizeLine) ∧ (M_is_due (fun KN_ KE_InvalidFirst KE_InvalidValues KE_InvalidRows KE_TooMany => (M_Form_init r1.1 r17.1 r37.1 (fun r290 => (KN_ r290)) (fun x291 => (KE_InvalidFirst x291)) (fun x297 => (KE_InvalidValues x297)) (fun x303 => (KE_InvalidRows x303)) (fun x309 x310 => (KE_TooMany x309 x310)))) x268 fun r281 => (if (!r281) = true then (KM false) else (M_is_due (fun KN_ KE_InvalidFirst KE_InvalidValues KE_InvalidRows KE_TooMany => (M_Form_init r1.1 r17.1 r37.1 (fun r329 => (KN_ r329)) (fun x330 => (KE_InvalidFirst x330)) (fun x336 => (KE_InvalidValues x336)) (fun x342 => (KE_InvalidRows x342)) (fun x348 x349 => (KE_TooMany x348 x349)))) x268 fun r320 => (if r320 = true then ((plainX (D.lst (([r1.1, r17.1, r37.1] : List D).map (fun y_ : D => y_))) = true ∧ (pyX (D.lst (([r1.1, r17.1, r37.1] : List D).map (fun y_ : D => y_)))).showable = true ∧ (pyX (D.lst (([r1.1, r17.1, r37.1] : List D).map (fun y_ : D => y_)))).depth ≤ 60 ∧ (pyX (D.lst (([r1.1, r17.1, r37.1] : List D).map (fun y_ : D => y_)))).shown.length ≤ sizeLine) ∧ (KM (decide (V.str (pyX (D.lst (([r1.1, r17.1, r37.1] : List D).map (fun y_ : D => y_)))).shown = V.str (pyX (D.lst (([r1.1, r17.1, r37.1] : List D).map (fun y_ : D => y_)))).shown)))) else (KM false)))))))))) else (if (decide ((24 : Int) < r37.2.2)) = true then (ys93.length + ([([(D.v (V.str ("many" : Str))), (D.v (V.str ("rows" : Str))), (D.v (V.int (24 : Int)))] : List D)] : List (List D)).length ≤ sizeLine ∧ ((ys93 ++ ([([(D.v (V.str ("many" : Str))), (D.v (V.str ("rows" : Str))), (D.v (V.int (24 : Int)))] : List D)] : List (List D))).length + ([([(D.v (V.str ("taken" : Str)))] : List D)] : List (List D)).length ≤ sizeLine ∧ (0 ≤ (0 : Int) ∧ ∃ g399 : Int.toNat (0 : Int) < ((ys93 ++ ([([(D.v (V.str ("many" : Str))), (D.v (V.str ("rows" : Str))), (D.v (V.int (24 : Int)))] : List D)] : List (List D))) ++ ([([(D.v (V.str ("taken" : Str)))] : List D)] : List (List D))).length, ∀ x401, x401 = ((ys93 ++ ([([(D.v (V.str ("many" : Str))), (D.v (V.str ("rows" : Str))), (D.v (V.int (24 : Int)))] : List D)] : List (List D))) ++ ([([(D.v (V.str ("taken" : Str)))] : List D)] : List (List D)))[Int.toNat (0 : Int)]'g399 → ((plainX (D.lst (([r1.1, r17.1, r37.1] : List D).map (fun y_ : D => y_))) = true ∧ (pyX (D.lst (([r1.1, r17.1, r37.1] : List D).map (fun y_ : D => y_)))).showable = true ∧ (pyX (D.lst (([r1.1, r17.1, r37.1] : List D).map (fun y_ : D => y_)))).depth ≤ 60 ∧ (pyX (D.lst (([r1.1, r17.1, r37.1] : List D).map (fun y_ : D => y_)))).shown.length ≤ sizeLine) ∧ (M_is_due (fun KN_ KE_InvalidFirst KE_InvalidValues KE_InvalidRows KE_TooMany => (M_Form_init r1.1 r17.1 r37.1 (fun r423 => (KN_ r423)) (fun x424 => (KE_InvalidFirst x424)) (fun x430 => (KE_InvalidValues x430)) (fun x436 => (KE_InvalidRows x436)) (fun x442 x443 => (KE_TooMany x442 x443)))) x401 fun r414 => (if (!r414) = true then (KM false) else (M_is_due (fun KN_ KE_InvalidFirst KE_InvalidValues KE_InvalidRows KE_TooMany => (M_Form_init r1.1 r17.1 r37.1 (fun r462 => (KN_ r462)) (fun x463 => (KE_InvalidFirst x463)) (fun x469 => (KE_InvalidValues x469)) (fun x475 => (KE_InvalidRows x475)) (fun x481 x482 => (KE_TooMany x481 x482)))) x401 fun r453 => (if r453 = true then ((plainX (D.lst (([r1.1, r17.1, r37.1] : List D).map (fun y_ : D => y_))) = true ∧ (pyX (D.lst (([r1.1, r17.1, r37.1] : List D).map (fun y_ : D => y_)))).showable = true ∧ (pyX (D.lst (([r1.1, r17.1, r37.1] : List D).map (fun y_ : D => y_)))).depth ≤ 60 ∧ (pyX (D.lst (([r1.1, r17.1, r37.1] : List D).map (fun y_ : D => y_)))).shown.length ≤ sizeLine) ∧ (KM (decide (V.str (pyX (D.lst (([r1.1, r17.1, r37.1] : List D).map (fun y_ : D => y_)))).shown = V.str (pyX (D.lst (([r1.1, r17.1, r37.1] : List D).map (fun y_ : D => y_)))).shown)))) else (KM false))))))))) else (ys93.length + ([([(D.v (V.str ("taken" : Str)))] : List D)] : List (List D)).length ≤ sizeLine ∧ (0 ≤ (0 : Int) ∧ ∃ g514 : Int.toNat (0 : Int) < (ys93 ++ ([([(D.v (V.str ("taken" : Str)))] : List D)] : List (List D))).length, ∀ x516, x516 = (ys93 ++ ([([(D.v (V.str ("taken" : Str)))] : List D)] : List (List D)))[Int.toNat (0 : Int)]'g514 → ((plainX (D.lst (([r1.1, r17.1, r37.1] : List D).map (fun y_ : D => y_))) = true ∧ (pyX (D.lst (([r1.1, r17.1, r37.1] : List D).map (fun y_ : D => y_)))).showable = true ∧ (pyX (D.lst (([r1.1, r17.1, r37.1] : List D).map (fun y_ : D => y_)))).depth ≤ 60 ∧ (pyX (D.lst (([r1.1, r17.1, r37.1] : List D).map (fun y_ : D => y_)))).shown.length ≤ sizeLine) ∧ (M_is_due (fun KN_ KE_InvalidFirst KE_InvalidValues KE_InvalidRows KE_TooMany => (M_Form_init r1.1 r17.1 r37.1 (fun r538 => (KN_ r538)) (fun x539 => (KE_InvalidFirst x539)) (fun x545 => (KE_InvalidValues x545)) (fun x551 => (KE_InvalidRows x551)) (fun x557 x558 => (KE_TooMany x557 x558)))) x516 fun r529 => (if (!r529) = true then (KM false) else (M_is_due (fun KN_ KE_InvalidFirst KE_InvalidValues KE_InvalidRows KE_TooMany => (M_Form_init r1.1 r17.1 r37.1 (fun r577 => (KN_ r577)) (fun x578 => (KE_InvalidFirst x578)) (fun x584 => (KE_InvalidValues x584)) (fun x590 => (KE_InvalidRows x590)) (fun x596 x597 => (KE_TooMany x596 x597)))) x516 fun r568 => (if r568 = true then ((plainX (D.lst (([r1.1, r17.1, r37.1] : List D).map (fun y_ : D => y_))) = true ∧ (pyX (D.lst (([r1.1, r17.1, r37.1] : List D).map (fun y_ : D => y_)))).showable = true ∧ (pyX (D.lst (([r1.1, r17.1, r37.1] : List D).map (fun y_ : D => y_)))).depth ≤ 60 ∧ (pyX (D.lst (([r1.1, r17.1, r37.1] : List D).map (fun y_ : D => y_)))).shown.length ≤ sizeLine) ∧ (KM (decide (V.str (pyX (D.lst (([r1.1, r17.1, r37.1] : List D).map (fun y_ : D => y_)))).shown = V.str (pyX (D.lst (([r1.1, r17.1, r37.1] : List D).map (fun y_ : D => y_)))).shown)))) else (KM false))))))))))))))
def sp_is_form_right (A : Ad) : Sp := fun vs H Q _ => ∃ (ms : List Addr) (ap : Addr) (KM : Bool → Prop), vs = [.ref ap] ∧ Wd ms ((ap, none) :: A.tbs) [] H H ∧ M_is_form_right  KM ∧ ∀ (r : Bool) (u : V) (H1 : Hp), KM r → Ret ((ap, none) :: A.tbs) H H1 → rep ms H1 (D.v (V.bl r)) u → Q u H1
set_option maxHeartbeats 16000000 in
theorem ok_is_form_right {P : Program} {w : World} {K : PySem.W.Frag} {mg : Str → Option Value} {base : Heap} {A : Ad} (T : Txt w K mg base A) : FnG P w K mg base 13 A.a_is_form_right A.d_is_form_right ["_law_pot_here"] (sp_is_form_right A) := by
  refine okGT T.F_is_form_right sc_is_form_right (fun vs H Q E h => ?_) (fun cdv A_ outer s_ H_0 vs Q E hcd_ gu hr h => ?_)
  · obtain ⟨ms, ap, KM, rfl, _⟩ := h
    rfl
  · obtain ⟨ms, ap, KM, rfl, hW, hM, hQ⟩ := h
    unfold M_is_form_right at hM
    refine ⟨_, (pss_cons (ps_asg (pe_call (ok_first T) (hr.mono (by decide)) (by rfl) T.g_first T.F_first.kp T.b_first .nil pass0 (pa_cons (pv 0) pa_nil)) (pg_tup rfl (pgs_cons (pg_name (i := 1) sc_is_form_right.nd rfl (by first | exact Or.inl rfl | exact Or.inr rfl)) (pgs_cons (pg_name (i := 2) sc_is_form_right.nd rfl (by first | exact Or.inl rfl | exact Or.inr rfl)) pgs_nil)))) (pss_cons (ps_asg (pe_call (ok_early T) (hr.mono (by decide)) (by rfl) T.g_early T.F_early.kp T.b_early .nil pass0 (pa_cons (pv 0) pa_nil)) (pg_tup rfl (pgs_cons (pg_name (i := 3) sc_is_form_right.nd rfl (by first | exact Or.inl rfl | exact Or.inr rfl)) (pgs_cons (pg_name (i := 4) sc_is_form_right.nd rfl (by first | exact Or.inl rfl | exact Or.inr rfl)) (pgs_cons (pg_name (i := 5) sc_is_form_right.nd rfl (by first | exact Or.inl rfl | exact Or.inr rfl)) pgs_nil))))) (pss_cons (ps_asg (pe_call (ok_rows T) (hr.mono (by decide)) (by rfl) T.g_rows T.F_rows.kp T.b_rows .nil pass0 (pa_cons (pv 0) pa_nil)) (pg_tup rfl (pgs_cons (pg_name (i := 6) sc_is_form_right.nd rfl (by first | exact Or.inl rfl | exact Or.inr rfl)) (pgs_cons (pg_name (i := 7) sc_is_form_right.nd rfl (by first | exact Or.inl rfl | exact Or.inr rfl)) (pgs_cons (pg_name (i := 8) sc_is_form_right.nd rfl (by first | exact Or.inl rfl | exact Or.inr rfl)) pgs_nil))))) (pss_cons (ps_setLc (i := 9) (own := [("_law_wrong", 12)]) (g := gName 12) rfl sc_is_form_right.nd rfl rfl (sw_true rfl rfl rfl (by decide +kernel)) (pi_list (pe_lst (pa_cons (pv 2) (pa_cons (pv 4) (pa_cons (pv 7) pa_nil))))) (blkOk_by (N := ["_law_pot_here", "_law_start", "_law_wrong_first", "_law_ahead", "_law_wrong_early", "_law_many", "_law_lines", "_law_wrong_rows", "_law_size", "_law_due", "_law_told", "_law_kept", "_law_wrong"]) (sc := defScope s_is_form_right) (by decide +kernel)) (fun _ _ _ _ _ => pg_name (i := 12) sc_is_form_right.nd rfl (by first | exact Or.inl rfl | exact Or.inr rfl)) (fun _ _ _ _ _ => (pts_one (pt_cmpR op_notN (pv 12) pe_non (nomark _)))) (fun _ _ _ _ _ => (pv 12))) (pss_cons (ps_if (pt_cmpR op_gt (pv 5) pe_int (nomark _)) (pss_one (ps_set (i := 9) sc_is_form_right.nd rfl (by first | exact Or.inl rfl | exact Or.inr rfl) (pe_op op_cat (pv 9) (pe_lst (pa_cons (pe_lst (pa_cons pe_str (pa_cons pe_str (pa_cons pe_int pa_nil)))) pa_nil))))) pss_nil) (pss_cons (ps_if (pt_cmpR op_gt (pv 8) pe_int (nomark _)) (pss_one (ps_set (i := 9) sc_is_form_right.nd rfl (by first | exact Or.inl rfl | exact Or.inr rfl) (pe_op op_cat (pv 9) (pe_lst (pa_cons (pe_lst (pa_cons pe_str (pa_cons pe_str (pa_cons pe_int pa_nil)))) pa_nil))))) pss_nil) (pss_cons (ps_par (i := 10) (j := 11) (by rfl) sc_is_form_right.nd rfl rfl (by decide) rfl rfl (pa_cons (pe_ix (ix_listK (K := K) rfl) (pe_op op_cat (pv 9) (pe_lst (pa_cons (pe_lst (pa_cons pe_str pa_nil)) pa_nil))) pe_int (fun _ _ => rfl)) (pa_cons (pe_callB (call_reprY (by exact gu) (by have h_ := units65 hr; exact h_)) (by rfl) T.z_repr (by decide +kernel) (pa_cons (pe_lst (pa_cons (pv 1) (pa_cons (pv 3) (pa_cons (pv 6) pa_nil)))) pa_nil)) pa_nil)) (by rfl)) (pss_cons (ps_if (pt_not (pt_val (pe_lamcallW (k := 6) (j := 10) (("_law_is_form_right" : Str) ++ (".<locals>." : Str)) qual_nox (by rfl) T.g_is_due T.F_is_due T.b_is_due sc_is_due rfl (by first | exact Or.inl rfl | exact Or.inr (Or.inl rfl)) (gives_is_due T gu _) T.tb_is_form_right (hcd_.symm.trans T.cd_is_form_right) (hr.mono (by decide)) (LamX.lamS_by (sc := defScope s_is_form_right) (by decide +kernel)) rfl (fun _ _ _ _ _ => rfl) (fun A_ outer_ s_ H_ E f_ c_ hr => (pe_make T.mk_Form (ok_Form_init T) (hr.mono (by decide)) (by rfl) T.g_Form T.b_Form_init .nil (passE rfl rfl rfl rfl) (pa_cons (pv 1) (pa_cons (pv 3) (pa_cons (pv 6) pa_nil)))))))) (pss_one (ps_ret pe_bl)) pss_nil) (pss_one (ps_ret (pe_and (pe_lamcallW (k := 6) (j := 10) (("_law_is_form_right" : Str) ++ (".<locals>." : Str)) qual_nox (by rfl) T.g_is_due T.F_is_due T.b_is_due sc_is_due rfl (by first | exact Or.inl rfl | exact Or.inr (Or.inl rfl)) (gives_is_due T gu _) T.tb_is_form_right (hcd_.symm.trans T.cd_is_form_right) (hr.mono (by decide)) (LamX.lamS_by (sc := defScope s_is_form_right) (by decide +kernel)) rfl (fun _ _ _ _ _ => rfl) (fun A_ outer_ s_ H_ E f_ c_ hr => (pe_makeK0 T.mk_Form (ok_Form_init T) (hr.mono (by decide)) (by rfl) T.g_Form T.k_Form_init_rows_first_early (passE rfl rfl rfl rfl) (pk_cons (pv 6) (pk_cons (pv 1) (pk_cons (pv 3) pk_nil)))))) (pe_one (pe_cmpR op_eq (pe_callB (call_reprY (by exact gu) (by have h_ := units65 hr; exact h_)) (by rfl) T.z_repr (by decide +kernel) (pa_cons (pe_lst (pa_cons (pv 1) (pa_cons (pv 3) (pa_cons (pv 6) pa_nil)))) pa_nil)) (pv 11) (nomark _)))))))))))))), ?_⟩
    refine ⟨_, rfl, ?_⟩
    refine ⟨ms, ap, _, rfl, (hW.enterS (by simp)), hM, fun r1 u4 H5 hM e3 h2 => ?_⟩
    replace e3 := Ret.upS (by simp) (by simp) hW e3
    replace hW := hW.retP e3
    apply rep_gtup h2 rfl
    intro vs6 hv7
    obtain ⟨u8, us9, rfl, h10, hv11⟩ := repL_uncons hv7
    obtain ⟨u12, us13, rfl, h14, hv15⟩ := repL_uncons hv11
    obtain rfl := repL_empty hv15
    refine ⟨_, _, rfl, ?_⟩
    refine ⟨_, _, rfl, ?_⟩
    refine ⟨rfl, ?_⟩
    have z16 : (List.set (List.set (L2.start [("_law_pot_here" : Str), ("_law_start" : Str), ("_law_wrong_first" : Str), ("_law_ahead" : Str), ("_law_wrong_early" : Str), ("_law_many" : Str), ("_law_lines" : Str), ("_law_wrong_rows" : Str), ("_law_size" : Str), ("_law_due" : Str), ("_law_told" : Str), ("_law_kept" : Str), ("_law_wrong" : Str)] [V.ref ap]) 1 (some (u8))) 2 (some (u12))) = [some (V.ref ap), some (u8), some (u12), none, none, none, none, none, none, none, none, none, none] := rfl
    try rw [z16]
    refine ⟨_, rfl, ?_⟩
    refine ⟨ms, ap, _, rfl, (hW.enterS (by simp)), hM, fun r17 u20 H21 hM e19 h18 => ?_⟩
    replace e19 := Ret.upS (by simp) (by simp) hW e19
    replace h2 := rep_ret hW e19 h2
    replace h10 := rep_ret hW e19 h10
    replace h14 := rep_ret hW e19 h14
    replace hW := hW.retP e19
    apply rep_gtup h18 rfl
    intro vs22 hv23
    obtain ⟨u24, us25, rfl, h26, hv27⟩ := repL_uncons hv23
    obtain ⟨u28, us29, rfl, h30, hv31⟩ := repL_uncons hv27
    obtain ⟨u32, us33, rfl, h34, hv35⟩ := repL_uncons hv31
    obtain rfl := of_v h34
    obtain rfl := repL_empty hv35
    refine ⟨_, _, rfl, ?_⟩
    refine ⟨_, _, rfl, ?_⟩
    refine ⟨_, _, rfl, ?_⟩
    refine ⟨rfl, ?_⟩
    have z36 : (List.set (List.set (List.set ([some (V.ref ap), some (u8), some (u12), none, none, none, none, none, none, none, none, none, none] : List (Option V)) 3 (some (u24))) 4 (some (u28))) 5 (some (V.int r17.2.2))) = [some (V.ref ap), some (u8), some (u12), some (u24), some (u28), some (V.int r17.2.2), none, none, none, none, none, none, none] := rfl
    try rw [z16]
    try rw [z36]
    refine ⟨_, rfl, ?_⟩
    refine ⟨ms, ap, _, rfl, (hW.enterS (by simp)), hM, fun r37 u40 H41 hM e39 h38 => ?_⟩
    replace e39 := Ret.upS (by simp) (by simp) hW e39
    replace h2 := rep_ret hW e39 h2
    replace h10 := rep_ret hW e39 h10
    replace h14 := rep_ret hW e39 h14
    replace h18 := rep_ret hW e39 h18
    replace h26 := rep_ret hW e39 h26
    replace h30 := rep_ret hW e39 h30
    replace hW := hW.retP e39
    apply rep_gtup h38 rfl
    intro vs42 hv43
    obtain ⟨u44, us45, rfl, h46, hv47⟩ := repL_uncons hv43
    obtain ⟨u48, us49, rfl, h50, hv51⟩ := repL_uncons hv47
    obtain ⟨u52, us53, rfl, h54, hv55⟩ := repL_uncons hv51
    obtain rfl := of_v h54
    obtain rfl := repL_empty hv55
    refine ⟨_, _, rfl, ?_⟩
    refine ⟨_, _, rfl, ?_⟩
    refine ⟨_, _, rfl, ?_⟩
    refine ⟨rfl, ?_⟩
    have z56 : (List.set (List.set (List.set ([some (V.ref ap), some (u8), some (u12), some (u24), some (u28), some (V.int r17.2.2), none, none, none, none, none, none, none] : List (Option V)) 6 (some (u44))) 7 (some (u48))) 8 (some (V.int r37.2.2))) = [some (V.ref ap), some (u8), some (u12), some (u24), some (u28), some (V.int r17.2.2), some (u44), some (u48), some (V.int r37.2.2), none, none, none, none] := rfl
    try rw [z16]
    try rw [z36]
    try rw [z56]
    refine ⟨_, rfl, ?_⟩
    refine ⟨_, rfl, ?_⟩
    refine ⟨_, rfl, ?_⟩
    refine ⟨(by show 3 ≤ sizeLine; decide), ?_⟩
    intro p57 n61
    have e58 := Rx.Ext.new (H := H41) (o := (HO.lst [u12, u28, u48])) n61
    have hp59 : upd H41 p57 (HO.lst [u12, u28, u48]) p57 = some (HO.lst [u12, u28, u48]) := upd_same
    generalize upd H41 p57 (HO.lst [u12, u28, u48]) = H62 at e58 hp59 ⊢
    have h60 : rep ms H62 (D.lst (([r1.2, r17.2.1, r37.2.1] : List (Option (List D))).map (fun y_ : (Option (List D)) => (encO (fun y_ : (List D) => (D.lst (y_.map (fun y_ : D => y_)))) y_)))) (.ref p57) := rep_lst_mk hW n61 e58 hp59 (repL_cons h14 (repL_cons h30 (repL_cons h50 repL_nil)))
    replace h2 := rep_ext e58 h2
    replace h10 := rep_ext e58 h10
    replace h14 := rep_ext e58 h14
    replace h18 := rep_ext e58 h18
    replace h26 := rep_ext e58 h26
    replace h30 := rep_ext e58 h30
    replace h38 := rep_ext e58 h38
    replace h46 := rep_ext e58 h46
    replace h50 := rep_ext e58 h50
    replace hW := hW.ret0 e58
    apply rep_iter h60
    intro a63 xs64 _ an65 hp66 hl67
    refine fun L68 nl69 => ?_
    have nm83 := nm_new hW nl69
    refine lf_listG (L := L68) (fun n_ ys_ h_ => Wd (L68 :: ms) ((ap, none) :: A.tbs) [] H_0 h_ ∧ Keep (L68 :: ms) H62 h_ ∧ MutO (L68 :: ms) ((ap, none) :: A.tbs) H_0 h_ L68 (D.lst (ys_.map (fun y_ : (List D) => (D.lst (y_.map (fun y_ : D => y_)))))) ∧ ys_.length ≤ n_) (items := ([r1.2, r17.2.1, r37.2.1] : List (Option (List D)))) (e := (fun y_ : (Option (List D)) => (encO (fun y_ : (List D) => (D.lst (y_.map (fun y_ : D => y_)))) y_))) an65 hp66 hl67 nl69 (fun _ _ _ q_ => q_.2.1) hM ⟨wd_cell hW nl69, keep_cell nl69 Keep.refl, mo_newL (ds := []) hW nl69 repL_nil, Nat.le_refl _⟩ ?_ ?_
    · skip
      rintro x79 u80 n70 ys71 k72 H84 hn ⟨hW, hk73, mu74, ln75⟩ h81 hM Nx78 hN76 hNn77
      replace h2 := rep_keep hk73 (rep_new nl69 h2)
      replace h10 := rep_keep hk73 (rep_new nl69 h10)
      replace h14 := rep_keep hk73 (rep_new nl69 h14)
      replace h18 := rep_keep hk73 (rep_new nl69 h18)
      replace h26 := rep_keep hk73 (rep_new nl69 h26)
      replace h30 := rep_keep hk73 (rep_new nl69 h30)
      replace h38 := rep_keep hk73 (rep_new nl69 h38)
      replace h46 := rep_keep hk73 (rep_new nl69 h46)
      replace h50 := rep_keep hk73 (rep_new nl69 h50)
      replace h60 := rep_keep hk73 (rep_new nl69 h60)
      refine ⟨rfl, ?_⟩
      refine ⟨_, rfl, ?_⟩
      refine ⟨rfl, ?_⟩
      rw [rep_isSomeL (fun _ => ⟨_, rfl⟩) h81]
      refine ⟨_, rfl, ?_⟩
      refine ite3 hM (fun hM => ?_) (fun hM => ?_)
      · skip
        obtain ⟨y85, hy86, hM⟩ := hM
        have h87 := rep_some hy86 h81
        refine ⟨_, rfl, ?_⟩
        refine mo_end mu74 hn (by rw [List.length_map]; exact ln75) fun vs88 hr89 => ?_
        have mk91 := mo_setL mu74 (repL_snoc (e := (fun y_ : (List D) => (D.lst (y_.map (fun y_ : D => y_))))) (xs := ys71) (y := y85) hr89 h87)
        replace h2 := rep_put (o := .lst (vs88 ++ [u80])) mu74.im h2
        replace h10 := rep_put (o := .lst (vs88 ++ [u80])) mu74.im h10
        replace h14 := rep_put (o := .lst (vs88 ++ [u80])) mu74.im h14
        replace h18 := rep_put (o := .lst (vs88 ++ [u80])) mu74.im h18
        replace h26 := rep_put (o := .lst (vs88 ++ [u80])) mu74.im h26
        replace h30 := rep_put (o := .lst (vs88 ++ [u80])) mu74.im h30
        replace h38 := rep_put (o := .lst (vs88 ++ [u80])) mu74.im h38
        replace h46 := rep_put (o := .lst (vs88 ++ [u80])) mu74.im h46
        replace h50 := rep_put (o := .lst (vs88 ++ [u80])) mu74.im h50
        replace h60 := rep_put (o := .lst (vs88 ++ [u80])) mu74.im h60
        replace hk73 := keep_put (o := .lst (vs88 ++ [u80])) mu74.im hk73
        replace h81 := rep_put (o := .lst (vs88 ++ [u80])) mu74.im h81
        replace h87 := rep_put (o := .lst (vs88 ++ [u80])) mu74.im h87
        replace hW := wd_put (o := .lst (vs88 ++ [u80])) hW mu74
        replace mu74 := mk91
        generalize upd H84 L68 (.lst (vs88 ++ [u80])) = H92 at *
        replace mu74 : MutO (L68 :: ms) ((ap, none) :: A.tbs) H_0 H92 L68 (D.lst ((ys71 ++ [y85]).map (fun y_ : (List D) => (D.lst (y_.map (fun y_ : D => y_)))))) := mu74
        clear mk91
        exact hN76 y85 _ hM ⟨hW, hk73, mu74, by rw [List.length_append]; exact Nat.add_le_add_right ln75 1⟩
      · skip
        exact hNn77 _ hM ⟨hW, hk73, mu74, Nat.le_succ_of_le ln75⟩
    · skip
      rintro n70 ys93 H94 hM ⟨hW, hk73, mu74, ln75⟩
      replace h2 := rep_keep hk73 (rep_new nl69 h2)
      replace h10 := rep_keep hk73 (rep_new nl69 h10)
      replace h14 := rep_keep hk73 (rep_new nl69 h14)
      replace h18 := rep_keep hk73 (rep_new nl69 h18)
      replace h26 := rep_keep hk73 (rep_new nl69 h26)
      replace h30 := rep_keep hk73 (rep_new nl69 h30)
      replace h38 := rep_keep hk73 (rep_new nl69 h38)
      replace h46 := rep_keep hk73 (rep_new nl69 h46)
      replace h50 := rep_keep hk73 (rep_new nl69 h50)
      replace h60 := rep_keep hk73 (rep_new nl69 h60)
      clear hk73 ln75
      have h95 := mo_rep_dr dr_here nm83 mu74
      replace hW := wd_dr dr_here mu74.hp hW
      replace h2 := rep_dr dr_here h2
      replace h10 := rep_dr dr_here h10
      replace h14 := rep_dr dr_here h14
      replace h18 := rep_dr dr_here h18
      replace h26 := rep_dr dr_here h26
      replace h30 := rep_dr dr_here h30
      replace h38 := rep_dr dr_here h38
      replace h46 := rep_dr dr_here h46
      replace h50 := rep_dr dr_here h50
      replace h60 := rep_dr dr_here h60
      clear mu74
      have z96 : (List.set ([some (V.ref ap), some (u8), some (u12), some (u24), some (u28), some (V.int r17.2.2), some (u44), some (u48), some (V.int r37.2.2), none, none, none, none] : List (Option V)) 9 (some ((V.ref L68)))) = [some (V.ref ap), some (u8), some (u12), some (u24), some (u28), some (V.int r17.2.2), some (u44), some (u48), some (V.int r37.2.2), some ((V.ref L68)), none, none, none] := rfl
      try rw [z16]
      try rw [z36]
      try rw [z56]
      try rw [z96]
      clear z16
      refine ⟨_, rfl, ?_⟩
      refine ⟨_, _, rfl, rfl, ?_⟩
      refine ⟨_, rfl, ?_⟩
      refine ite3 hM (fun hM => ?_) (fun hM => ?_)
      · skip
        try rw [z36]
        try rw [z56]
        try rw [z96]
        refine ⟨_, rfl, ?_⟩
        refine ⟨(by show 3 ≤ sizeLine; decide), ?_⟩
        intro p97 n101
        have e98 := Rx.Ext.new (H := H94) (o := (HO.lst [V.str ("many" : Str), V.str ("values" : Str), V.int (200 : Int)])) n101
        have hp99 : upd H94 p97 (HO.lst [V.str ("many" : Str), V.str ("values" : Str), V.int (200 : Int)]) p97 = some (HO.lst [V.str ("many" : Str), V.str ("values" : Str), V.int (200 : Int)]) := upd_same
        generalize upd H94 p97 (HO.lst [V.str ("many" : Str), V.str ("values" : Str), V.int (200 : Int)]) = H102 at e98 hp99 ⊢
        have h100 : rep ms H102 (D.lst (([(D.v (V.str ("many" : Str))), (D.v (V.str ("values" : Str))), (D.v (V.int (200 : Int)))] : List D).map (fun y_ : D => y_))) (.ref p97) := rep_lst_mk hW n101 e98 hp99 (repL_cons rep_v (repL_cons rep_v (repL_cons rep_v repL_nil)))
        replace h2 := rep_ext e98 h2
        replace h10 := rep_ext e98 h10
        replace h14 := rep_ext e98 h14
        replace h18 := rep_ext e98 h18
        replace h26 := rep_ext e98 h26
        replace h30 := rep_ext e98 h30
        replace h38 := rep_ext e98 h38
        replace h46 := rep_ext e98 h46
        replace h50 := rep_ext e98 h50
        replace h60 := rep_ext e98 h60
        replace h95 := rep_ext e98 h95
        replace hW := hW.ret0 e98
        refine ⟨(by show 1 ≤ sizeLine; decide), ?_⟩
        intro p103 n107
        have e104 := Rx.Ext.new (H := H102) (o := (HO.lst [(V.ref p97)])) n107
        have hp105 : upd H102 p103 (HO.lst [(V.ref p97)]) p103 = some (HO.lst [(V.ref p97)]) := upd_same
        generalize upd H102 p103 (HO.lst [(V.ref p97)]) = H108 at e104 hp105 ⊢
        have h106 : rep ms H108 (D.lst (([([(D.v (V.str ("many" : Str))), (D.v (V.str ("values" : Str))), (D.v (V.int (200 : Int)))] : List D)] : List (List D)).map (fun y_ : (List D) => (D.lst (y_.map (fun y_ : D => y_)))))) (.ref p103) := rep_lst_mk hW n107 e104 hp105 (repL_cons h100 repL_nil)
        replace h2 := rep_ext e104 h2
        replace h10 := rep_ext e104 h10
        replace h14 := rep_ext e104 h14
        replace h18 := rep_ext e104 h18
        replace h26 := rep_ext e104 h26
        replace h30 := rep_ext e104 h30
        replace h38 := rep_ext e104 h38
        replace h46 := rep_ext e104 h46
        replace h50 := rep_ext e104 h50
        replace h60 := rep_ext e104 h60
        replace h95 := rep_ext e104 h95
        replace h100 := rep_ext e104 h100
        replace hW := hW.ret0 e104
        obtain ⟨g109, hM⟩ := hM
        apply rep_cat (xs := ys93) (ys := ([([(D.v (V.str ("many" : Str))), (D.v (V.str ("values" : Str))), (D.v (V.int (200 : Int)))] : List D)] : List (List D))) (e := (fun y_ : (List D) => (D.lst (y_.map (fun y_ : D => y_))))) hW h95 h106 g109
        intro p110 H113 e112 h111
        replace h2 := rep_ext e112 h2
        replace h10 := rep_ext e112 h10
        replace h14 := rep_ext e112 h14
        replace h18 := rep_ext e112 h18
        replace h26 := rep_ext e112 h26
        replace h30 := rep_ext e112 h30
        replace h38 := rep_ext e112 h38
        replace h46 := rep_ext e112 h46
        replace h50 := rep_ext e112 h50
        replace h60 := rep_ext e112 h60
        replace h95 := rep_ext e112 h95
        replace h100 := rep_ext e112 h100
        replace h106 := rep_ext e112 h106
        replace hW := hW.ret0 e112
        have z114 : (List.set ([some (V.ref ap), some (u8), some (u12), some (u24), some (u28), some (V.int r17.2.2), some (u44), some (u48), some (V.int r37.2.2), some ((V.ref L68)), none, none, none] : List (Option V)) 9 (some ((V.ref p110)))) = [some (V.ref ap), some (u8), some (u12), some (u24), some (u28), some (V.int r17.2.2), some (u44), some (u48), some (V.int r37.2.2), some ((V.ref p110)), none, none, none] := rfl
        try rw [z36]
        try rw [z56]
        try rw [z96]
        try rw [z114]
        clear z36
        refine ⟨_, rfl, ?_⟩
        refine ⟨_, _, rfl, rfl, ?_⟩
        refine ⟨_, rfl, ?_⟩
        refine ite3 hM (fun hM => ?_) (fun hM => ?_)
        · skip
          try rw [z56]
          try rw [z96]
          try rw [z114]
          refine ⟨_, rfl, ?_⟩
          refine ⟨(by show 3 ≤ sizeLine; decide), ?_⟩
          intro p115 n119
          have e116 := Rx.Ext.new (H := H113) (o := (HO.lst [V.str ("many" : Str), V.str ("rows" : Str), V.int (24 : Int)])) n119
          have hp117 : upd H113 p115 (HO.lst [V.str ("many" : Str), V.str ("rows" : Str), V.int (24 : Int)]) p115 = some (HO.lst [V.str ("many" : Str), V.str ("rows" : Str), V.int (24 : Int)]) := upd_same
          generalize upd H113 p115 (HO.lst [V.str ("many" : Str), V.str ("rows" : Str), V.int (24 : Int)]) = H120 at e116 hp117 ⊢
          have h118 : rep ms H120 (D.lst (([(D.v (V.str ("many" : Str))), (D.v (V.str ("rows" : Str))), (D.v (V.int (24 : Int)))] : List D).map (fun y_ : D => y_))) (.ref p115) := rep_lst_mk hW n119 e116 hp117 (repL_cons rep_v (repL_cons rep_v (repL_cons rep_v repL_nil)))
          replace h2 := rep_ext e116 h2
          replace h10 := rep_ext e116 h10
          replace h14 := rep_ext e116 h14
          replace h18 := rep_ext e116 h18
          replace h26 := rep_ext e116 h26
          replace h30 := rep_ext e116 h30
          replace h38 := rep_ext e116 h38
          replace h46 := rep_ext e116 h46
          replace h50 := rep_ext e116 h50
          replace h60 := rep_ext e116 h60
          replace h95 := rep_ext e116 h95
          replace h100 := rep_ext e116 h100
          replace h106 := rep_ext e116 h106
          replace h111 := rep_ext e116 h111
          replace hW := hW.ret0 e116
          refine ⟨(by show 1 ≤ sizeLine; decide), ?_⟩
          intro p121 n125
          have e122 := Rx.Ext.new (H := H120) (o := (HO.lst [(V.ref p115)])) n125
          have hp123 : upd H120 p121 (HO.lst [(V.ref p115)]) p121 = some (HO.lst [(V.ref p115)]) := upd_same
          generalize upd H120 p121 (HO.lst [(V.ref p115)]) = H126 at e122 hp123 ⊢
          have h124 : rep ms H126 (D.lst (([([(D.v (V.str ("many" : Str))), (D.v (V.str ("rows" : Str))), (D.v (V.int (24 : Int)))] : List D)] : List (List D)).map (fun y_ : (List D) => (D.lst (y_.map (fun y_ : D => y_)))))) (.ref p121) := rep_lst_mk hW n125 e122 hp123 (repL_cons h118 repL_nil)
          replace h2 := rep_ext e122 h2
          replace h10 := rep_ext e122 h10
          replace h14 := rep_ext e122 h14
          replace h18 := rep_ext e122 h18
          replace h26 := rep_ext e122 h26
          replace h30 := rep_ext e122 h30
          replace h38 := rep_ext e122 h38
          replace h46 := rep_ext e122 h46
          replace h50 := rep_ext e122 h50
          replace h60 := rep_ext e122 h60
          replace h95 := rep_ext e122 h95
          replace h100 := rep_ext e122 h100
          replace h106 := rep_ext e122 h106
          replace h111 := rep_ext e122 h111
          replace h118 := rep_ext e122 h118
          replace hW := hW.ret0 e122
          obtain ⟨g127, hM⟩ := hM
          apply rep_cat (xs := (ys93 ++ ([([(D.v (V.str ("many" : Str))), (D.v (V.str ("values" : Str))), (D.v (V.int (200 : Int)))] : List D)] : List (List D)))) (ys := ([([(D.v (V.str ("many" : Str))), (D.v (V.str ("rows" : Str))), (D.v (V.int (24 : Int)))] : List D)] : List (List D))) (e := (fun y_ : (List D) => (D.lst (y_.map (fun y_ : D => y_))))) hW h111 h124 g127
          intro p128 H131 e130 h129
          replace h2 := rep_ext e130 h2
          replace h10 := rep_ext e130 h10
          replace h14 := rep_ext e130 h14
          replace h18 := rep_ext e130 h18
          replace h26 := rep_ext e130 h26
          replace h30 := rep_ext e130 h30
          replace h38 := rep_ext e130 h38
          replace h46 := rep_ext e130 h46
          replace h50 := rep_ext e130 h50
          replace h60 := rep_ext e130 h60
          replace h95 := rep_ext e130 h95
          replace h100 := rep_ext e130 h100
          replace h106 := rep_ext e130 h106
          replace h111 := rep_ext e130 h111
          replace h118 := rep_ext e130 h118
          replace h124 := rep_ext e130 h124
          replace hW := hW.ret0 e130
          have z132 : (List.set ([some (V.ref ap), some (u8), some (u12), some (u24), some (u28), some (V.int r17.2.2), some (u44), some (u48), some (V.int r37.2.2), some ((V.ref p110)), none, none, none] : List (Option V)) 9 (some ((V.ref p128)))) = [some (V.ref ap), some (u8), some (u12), some (u24), some (u28), some (V.int r17.2.2), some (u44), some (u48), some (V.int r37.2.2), some ((V.ref p128)), none, none, none] := rfl
          try rw [z56]
          try rw [z96]
          try rw [z114]
          try rw [z132]
          clear z56
          refine ⟨_, rfl, ?_⟩
          refine ⟨(by show 1 ≤ sizeLine; decide), ?_⟩
          intro p133 n137
          have e134 := Rx.Ext.new (H := H131) (o := (HO.lst [V.str ("taken" : Str)])) n137
          have hp135 : upd H131 p133 (HO.lst [V.str ("taken" : Str)]) p133 = some (HO.lst [V.str ("taken" : Str)]) := upd_same
          generalize upd H131 p133 (HO.lst [V.str ("taken" : Str)]) = H138 at e134 hp135 ⊢
          have h136 : rep ms H138 (D.lst (([(D.v (V.str ("taken" : Str)))] : List D).map (fun y_ : D => y_))) (.ref p133) := rep_lst_mk hW n137 e134 hp135 (repL_cons rep_v repL_nil)
          replace h2 := rep_ext e134 h2
          replace h10 := rep_ext e134 h10
          replace h14 := rep_ext e134 h14
          replace h18 := rep_ext e134 h18
          replace h26 := rep_ext e134 h26
          replace h30 := rep_ext e134 h30
          replace h38 := rep_ext e134 h38
          replace h46 := rep_ext e134 h46
          replace h50 := rep_ext e134 h50
          replace h60 := rep_ext e134 h60
          replace h95 := rep_ext e134 h95
          replace h100 := rep_ext e134 h100
          replace h106 := rep_ext e134 h106
          replace h111 := rep_ext e134 h111
          replace h118 := rep_ext e134 h118
          replace h124 := rep_ext e134 h124
          replace h129 := rep_ext e134 h129
          replace hW := hW.ret0 e134
          refine ⟨(by show 1 ≤ sizeLine; decide), ?_⟩
          intro p139 n143
          have e140 := Rx.Ext.new (H := H138) (o := (HO.lst [(V.ref p133)])) n143
          have hp141 : upd H138 p139 (HO.lst [(V.ref p133)]) p139 = some (HO.lst [(V.ref p133)]) := upd_same
          generalize upd H138 p139 (HO.lst [(V.ref p133)]) = H144 at e140 hp141 ⊢
          have h142 : rep ms H144 (D.lst (([([(D.v (V.str ("taken" : Str)))] : List D)] : List (List D)).map (fun y_ : (List D) => (D.lst (y_.map (fun y_ : D => y_)))))) (.ref p139) := rep_lst_mk hW n143 e140 hp141 (repL_cons h136 repL_nil)
          replace h2 := rep_ext e140 h2
          replace h10 := rep_ext e140 h10
          replace h14 := rep_ext e140 h14
          replace h18 := rep_ext e140 h18
          replace h26 := rep_ext e140 h26
          replace h30 := rep_ext e140 h30
          replace h38 := rep_ext e140 h38
          replace h46 := rep_ext e140 h46
          replace h50 := rep_ext e140 h50
          replace h60 := rep_ext e140 h60
          replace h95 := rep_ext e140 h95
          replace h100 := rep_ext e140 h100
          replace h106 := rep_ext e140 h106
          replace h111 := rep_ext e140 h111
          replace h118 := rep_ext e140 h118
          replace h124 := rep_ext e140 h124
          replace h129 := rep_ext e140 h129
          replace h136 := rep_ext e140 h136
          replace hW := hW.ret0 e140
          obtain ⟨g145, hM⟩ := hM
          apply rep_cat (xs := ((ys93 ++ ([([(D.v (V.str ("many" : Str))), (D.v (V.str ("values" : Str))), (D.v (V.int (200 : Int)))] : List D)] : List (List D))) ++ ([([(D.v (V.str ("many" : Str))), (D.v (V.str ("rows" : Str))), (D.v (V.int (24 : Int)))] : List D)] : List (List D)))) (ys := ([([(D.v (V.str ("taken" : Str)))] : List D)] : List (List D))) (e := (fun y_ : (List D) => (D.lst (y_.map (fun y_ : D => y_))))) hW h129 h142 g145
          intro p146 H149 e148 h147
          replace h2 := rep_ext e148 h2
          replace h10 := rep_ext e148 h10
          replace h14 := rep_ext e148 h14
          replace h18 := rep_ext e148 h18
          replace h26 := rep_ext e148 h26
          replace h30 := rep_ext e148 h30
          replace h38 := rep_ext e148 h38
          replace h46 := rep_ext e148 h46
          replace h50 := rep_ext e148 h50
          replace h60 := rep_ext e148 h60
          replace h95 := rep_ext e148 h95
          replace h100 := rep_ext e148 h100
          replace h106 := rep_ext e148 h106
          replace h111 := rep_ext e148 h111
          replace h118 := rep_ext e148 h118
          replace h124 := rep_ext e148 h124
          replace h129 := rep_ext e148 h129
          replace h136 := rep_ext e148 h136
          replace h142 := rep_ext e148 h142
          replace hW := hW.ret0 e148
          obtain ⟨g150, g151, hM⟩ := hM
          apply rep_ixL (e := (fun y_ : (List D) => (D.lst (y_.map (fun y_ : D => y_))))) (xs := (((ys93 ++ ([([(D.v (V.str ("many" : Str))), (D.v (V.str ("values" : Str))), (D.v (V.int (200 : Int)))] : List D)] : List (List D))) ++ ([([(D.v (V.str ("many" : Str))), (D.v (V.str ("rows" : Str))), (D.v (V.int (24 : Int)))] : List D)] : List (List D))) ++ ([([(D.v (V.str ("taken" : Str)))] : List D)] : List (List D)))) h147 g150 g151
          intro u154 h152
          obtain ⟨x153, x153e⟩ : ∃ x_, x_ = (((ys93 ++ ([([(D.v (V.str ("many" : Str))), (D.v (V.str ("values" : Str))), (D.v (V.int (200 : Int)))] : List D)] : List (List D))) ++ ([([(D.v (V.str ("many" : Str))), (D.v (V.str ("rows" : Str))), (D.v (V.int (24 : Int)))] : List D)] : List (List D))) ++ ([([(D.v (V.str ("taken" : Str)))] : List D)] : List (List D)))[Int.toNat (0 : Int)]'g151 := ⟨_, rfl⟩
          rw [← x153e] at h152
          replace hM := hM x153 x153e
          refine ⟨_, rfl, ?_⟩
          refine ⟨_, rfl, ?_⟩
          refine ⟨_, rfl, ?_⟩
          refine ⟨(by show 3 ≤ sizeLine; decide), ?_⟩
          intro p155 n159
          have e156 := Rx.Ext.new (H := H149) (o := (HO.lst [u8, u24, u44])) n159
          have hp157 : upd H149 p155 (HO.lst [u8, u24, u44]) p155 = some (HO.lst [u8, u24, u44]) := upd_same
          generalize upd H149 p155 (HO.lst [u8, u24, u44]) = H160 at e156 hp157 ⊢
          have h158 : rep ms H160 (D.lst (([r1.1, r17.1, r37.1] : List D).map (fun y_ : D => y_))) (.ref p155) := rep_lst_mk hW n159 e156 hp157 (repL_cons h10 (repL_cons h26 (repL_cons h46 repL_nil)))
          replace h2 := rep_ext e156 h2
          replace h10 := rep_ext e156 h10
          replace h14 := rep_ext e156 h14
          replace h18 := rep_ext e156 h18
          replace h26 := rep_ext e156 h26
          replace h30 := rep_ext e156 h30
          replace h38 := rep_ext e156 h38
          replace h46 := rep_ext e156 h46
          replace h50 := rep_ext e156 h50
          replace h60 := rep_ext e156 h60
          replace h95 := rep_ext e156 h95
          replace h100 := rep_ext e156 h100
          replace h106 := rep_ext e156 h106
          replace h111 := rep_ext e156 h111
          replace h118 := rep_ext e156 h118
          replace h124 := rep_ext e156 h124
          replace h129 := rep_ext e156 h129
          replace h136 := rep_ext e156 h136
          replace h142 := rep_ext e156 h142
          replace h147 := rep_ext e156 h147
          replace h152 := rep_ext e156 h152
          replace hW := hW.ret0 e156
          obtain ⟨g161, hM⟩ := hM
          refine rep_reprY (d := (D.lst (([r1.1, r17.1, r37.1] : List D).map (fun y_ : D => y_)))) h158 g161 ?_
          refine ⟨_, _, rfl, ?_⟩
          have z162 : (List.set (List.set ([some (V.ref ap), some (u8), some (u12), some (u24), some (u28), some (V.int r17.2.2), some (u44), some (u48), some (V.int r37.2.2), some ((V.ref p128)), none, none, none] : List (Option V)) 10 (some (u154))) 11 (some (V.str (pyX (D.lst (([r1.1, r17.1, r37.1] : List D).map (fun y_ : D => y_)))).shown))) = [some (V.ref ap), some (u8), some (u12), some (u24), some (u28), some (V.int r17.2.2), some (u44), some (u48), some (V.int r37.2.2), some ((V.ref p128)), some (u154), some (V.str (pyX (D.lst (([r1.1, r17.1, r37.1] : List D).map (fun y_ : D => y_)))).shown), none] := rfl
          try rw [z96]
          try rw [z114]
          try rw [z132]
          try rw [z162]
          clear z96
          refine ⟨hW.pot (A.t_is_form_right, some ((("_law_is_form_right" : Str) ++ (".<locals>." : Str)) ++ ("<lambda>" : Str))) (List.mem_cons_of_mem _ (tm_is_form_right A)), _, rfl, fun H163 e164_ t165 => ?_⟩
          have e164 : Ret ((ap, none) :: A.tbs) H160 H163 := Ret.upN (sub1 (List.mem_cons_of_mem _ (tm_is_form_right A))) (tabN T.nd_tb (tm_is_form_right A)) hW (ret_tab (q := ((("_law_is_form_right" : Str) ++ (".<locals>." : Str)) ++ ("<lambda>" : Str))) e164_ t165)
          clear e164_ t165
          replace h2 := rep_ret hW e164 h2
          replace h10 := rep_ret hW e164 h10
          replace h14 := rep_ret hW e164 h14
          replace h18 := rep_ret hW e164 h18
          replace h26 := rep_ret hW e164 h26
          replace h30 := rep_ret hW e164 h30
          replace h38 := rep_ret hW e164 h38
          replace h46 := rep_ret hW e164 h46
          replace h50 := rep_ret hW e164 h50
          replace h60 := rep_ret hW e164 h60
          replace h95 := rep_ret hW e164 h95
          replace h100 := rep_ret hW e164 h100
          replace h106 := rep_ret hW e164 h106
          replace h111 := rep_ret hW e164 h111
          replace h118 := rep_ret hW e164 h118
          replace h124 := rep_ret hW e164 h124
          replace h129 := rep_ret hW e164 h129
          replace h136 := rep_ret hW e164 h136
          replace h142 := rep_ret hW e164 h142
          replace h147 := rep_ret hW e164 h147
          replace h152 := rep_ret hW e164 h152
          replace h158 := rep_ret hW e164 h158
          replace hW := hW.retP e164
          refine ⟨ms, _, x153, _, hW.enter0, h152, fun ms_l H171 E Q KN_ KE_InvalidFirst KE_InvalidValues KE_InvalidRows KE_TooMany hs_ el_ hWl_ hMl_ hQl_ hE_InvalidFirst hE_InvalidValues hE_InvalidRows hE_TooMany => ?_, hM, fun r166 u169 H170 hM e168 h167 => ?_⟩
          · skip
            replace h2 := rep_lam hs_ el_ h2
            replace h10 := rep_lam hs_ el_ h10
            replace h14 := rep_lam hs_ el_ h14
            replace h18 := rep_lam hs_ el_ h18
            replace h26 := rep_lam hs_ el_ h26
            replace h30 := rep_lam hs_ el_ h30
            replace h38 := rep_lam hs_ el_ h38
            replace h46 := rep_lam hs_ el_ h46
            replace h50 := rep_lam hs_ el_ h50
            replace h60 := rep_lam hs_ el_ h60
            replace h95 := rep_lam hs_ el_ h95
            replace h100 := rep_lam hs_ el_ h100
            replace h106 := rep_lam hs_ el_ h106
            replace h111 := rep_lam hs_ el_ h111
            replace h118 := rep_lam hs_ el_ h118
            replace h124 := rep_lam hs_ el_ h124
            replace h129 := rep_lam hs_ el_ h129
            replace h136 := rep_lam hs_ el_ h136
            replace h142 := rep_lam hs_ el_ h142
            replace h147 := rep_lam hs_ el_ h147
            replace h152 := rep_lam hs_ el_ h152
            replace h158 := rep_lam hs_ el_ h158
            clear hW hM
            have hW := hWl_; have hM := hMl_; have hQ := hQl_; clear hWl_ hMl_ hQl_
            refine ⟨_, rfl, ?_⟩
            refine ⟨_, rfl, ?_⟩
            refine ⟨_, rfl, ?_⟩
            conv => whnf
            refine make_Form_init (ms := ms_l) hW h10 h26 h46 hM (fun p172 H201 r175 hM e174 h173 => ?_) ?_ ?_ ?_ ?_
            · skip
              replace h2 := rep_ext e174 h2
              replace h10 := rep_ext e174 h10
              replace h14 := rep_ext e174 h14
              replace h18 := rep_ext e174 h18
              replace h26 := rep_ext e174 h26
              replace h30 := rep_ext e174 h30
              replace h38 := rep_ext e174 h38
              replace h46 := rep_ext e174 h46
              replace h50 := rep_ext e174 h50
              replace h60 := rep_ext e174 h60
              replace h95 := rep_ext e174 h95
              replace h100 := rep_ext e174 h100
              replace h106 := rep_ext e174 h106
              replace h111 := rep_ext e174 h111
              replace h118 := rep_ext e174 h118
              replace h124 := rep_ext e174 h124
              replace h129 := rep_ext e174 h129
              replace h136 := rep_ext e174 h136
              replace h142 := rep_ext e174 h142
              replace h147 := rep_ext e174 h147
              replace h152 := rep_ext e174 h152
              replace h158 := rep_ext e174 h158
              replace hW := hW.ret0 e174
              exact hQ r175 _ _ hM hW.out h173
            · skip
              intro x176 cl177 d178 H179 hM er180 ex181
              replace h2 := rep_ext er180 h2
              replace h10 := rep_ext er180 h10
              replace h14 := rep_ext er180 h14
              replace h18 := rep_ext er180 h18
              replace h26 := rep_ext er180 h26
              replace h30 := rep_ext er180 h30
              replace h38 := rep_ext er180 h38
              replace h46 := rep_ext er180 h46
              replace h50 := rep_ext er180 h50
              replace h60 := rep_ext er180 h60
              replace h95 := rep_ext er180 h95
              replace h100 := rep_ext er180 h100
              replace h106 := rep_ext er180 h106
              replace h111 := rep_ext er180 h111
              replace h118 := rep_ext er180 h118
              replace h124 := rep_ext er180 h124
              replace h129 := rep_ext er180 h129
              replace h136 := rep_ext er180 h136
              replace h142 := rep_ext er180 h142
              replace h147 := rep_ext er180 h147
              replace h152 := rep_ext er180 h152
              replace h158 := rep_ext er180 h158
              replace hW := hW.ret0 er180
              exact hE_InvalidFirst x176 _ _ _ hM hW.out (excR_sub (by intro a_ h_; simp [h_]) ex181)
            · skip
              intro x182 cl183 d184 H185 hM er186 ex187
              replace h2 := rep_ext er186 h2
              replace h10 := rep_ext er186 h10
              replace h14 := rep_ext er186 h14
              replace h18 := rep_ext er186 h18
              replace h26 := rep_ext er186 h26
              replace h30 := rep_ext er186 h30
              replace h38 := rep_ext er186 h38
              replace h46 := rep_ext er186 h46
              replace h50 := rep_ext er186 h50
              replace h60 := rep_ext er186 h60
              replace h95 := rep_ext er186 h95
              replace h100 := rep_ext er186 h100
              replace h106 := rep_ext er186 h106
              replace h111 := rep_ext er186 h111
              replace h118 := rep_ext er186 h118
              replace h124 := rep_ext er186 h124
              replace h129 := rep_ext er186 h129
              replace h136 := rep_ext er186 h136
              replace h142 := rep_ext er186 h142
              replace h147 := rep_ext er186 h147
              replace h152 := rep_ext er186 h152
              replace h158 := rep_ext er186 h158
              replace hW := hW.ret0 er186
              exact hE_InvalidValues x182 _ _ _ hM hW.out (excR_sub (by intro a_ h_; simp [h_]) ex187)
            · skip
              intro x188 cl189 d190 H191 hM er192 ex193
              replace h2 := rep_ext er192 h2
              replace h10 := rep_ext er192 h10
              replace h14 := rep_ext er192 h14
              replace h18 := rep_ext er192 h18
              replace h26 := rep_ext er192 h26
              replace h30 := rep_ext er192 h30
              replace h38 := rep_ext er192 h38
              replace h46 := rep_ext er192 h46
              replace h50 := rep_ext er192 h50
              replace h60 := rep_ext er192 h60
              replace h95 := rep_ext er192 h95
              replace h100 := rep_ext er192 h100
              replace h106 := rep_ext er192 h106
              replace h111 := rep_ext er192 h111
              replace h118 := rep_ext er192 h118
              replace h124 := rep_ext er192 h124
              replace h129 := rep_ext er192 h129
              replace h136 := rep_ext er192 h136
              replace h142 := rep_ext er192 h142
              replace h147 := rep_ext er192 h147
              replace h152 := rep_ext er192 h152
              replace h158 := rep_ext er192 h158
              replace hW := hW.ret0 er192
              exact hE_InvalidRows x188 _ _ _ hM hW.out (excR_sub (by intro a_ h_; simp [h_]) ex193)
            · skip
              intro x194 x195 cl196 d197 H198 hM er199 ex200
              replace h2 := rep_ext er199 h2
              replace h10 := rep_ext er199 h10
              replace h14 := rep_ext er199 h14
              replace h18 := rep_ext er199 h18
              replace h26 := rep_ext er199 h26
              replace h30 := rep_ext er199 h30
              replace h38 := rep_ext er199 h38
              replace h46 := rep_ext er199 h46
              replace h50 := rep_ext er199 h50
              replace h60 := rep_ext er199 h60
              replace h95 := rep_ext er199 h95
              replace h100 := rep_ext er199 h100
              replace h106 := rep_ext er199 h106
              replace h111 := rep_ext er199 h111
              replace h118 := rep_ext er199 h118
              replace h124 := rep_ext er199 h124
              replace h129 := rep_ext er199 h129
              replace h136 := rep_ext er199 h136
              replace h142 := rep_ext er199 h142
              replace h147 := rep_ext er199 h147
              replace h152 := rep_ext er199 h152
              replace h158 := rep_ext er199 h158
              replace hW := hW.ret0 er199
              exact hE_TooMany x194 x195 _ _ _ hM hW.out (excR_sub (by intro a_ h_; simp [h_]) ex200)
          · skip
            replace h2 := rep_ext e168 h2
            replace h10 := rep_ext e168 h10
            replace h14 := rep_ext e168 h14
            replace h18 := rep_ext e168 h18
            replace h26 := rep_ext e168 h26
            replace h30 := rep_ext e168 h30
            replace h38 := rep_ext e168 h38
            replace h46 := rep_ext e168 h46
            replace h50 := rep_ext e168 h50
            replace h60 := rep_ext e168 h60
            replace h95 := rep_ext e168 h95
            replace h100 := rep_ext e168 h100
            replace h106 := rep_ext e168 h106
            replace h111 := rep_ext e168 h111
            replace h118 := rep_ext e168 h118
            replace h124 := rep_ext e168 h124
            replace h129 := rep_ext e168 h129
            replace h136 := rep_ext e168 h136
            replace h142 := rep_ext e168 h142
            replace h147 := rep_ext e168 h147
            replace h152 := rep_ext e168 h152
            replace h158 := rep_ext e168 h158
            replace hW := hW.ret0 e168
            obtain rfl := of_v h167
            refine ⟨_, rfl, ?_⟩
            refine ite3 hM (fun hM => ?_) (fun hM => ?_)
            · skip
              try rw [z114]
              try rw [z132]
              try rw [z162]
              exact hQ false _ _ hM hW.out rep_v
            · skip
              try rw [z114]
              try rw [z132]
              try rw [z162]
              refine ⟨hW.pot (A.t_is_form_right, some ((("_law_is_form_right" : Str) ++ (".<locals>." : Str)) ++ ("<lambda>" : Str))) (List.mem_cons_of_mem _ (tm_is_form_right A)), _, rfl, fun H202 e203_ t204 => ?_⟩
              have e203 : Ret ((ap, none) :: A.tbs) H170 H202 := Ret.upN (sub1 (List.mem_cons_of_mem _ (tm_is_form_right A))) (tabN T.nd_tb (tm_is_form_right A)) hW (ret_tab (q := ((("_law_is_form_right" : Str) ++ (".<locals>." : Str)) ++ ("<lambda>" : Str))) e203_ t204)
              clear e203_ t204
              replace h2 := rep_ret hW e203 h2
              replace h10 := rep_ret hW e203 h10
              replace h14 := rep_ret hW e203 h14
              replace h18 := rep_ret hW e203 h18
              replace h26 := rep_ret hW e203 h26
              replace h30 := rep_ret hW e203 h30
              replace h38 := rep_ret hW e203 h38
              replace h46 := rep_ret hW e203 h46
              replace h50 := rep_ret hW e203 h50
              replace h60 := rep_ret hW e203 h60
              replace h95 := rep_ret hW e203 h95
              replace h100 := rep_ret hW e203 h100
              replace h106 := rep_ret hW e203 h106
              replace h111 := rep_ret hW e203 h111
              replace h118 := rep_ret hW e203 h118
              replace h124 := rep_ret hW e203 h124
              replace h129 := rep_ret hW e203 h129
              replace h136 := rep_ret hW e203 h136
              replace h142 := rep_ret hW e203 h142
              replace h147 := rep_ret hW e203 h147
              replace h152 := rep_ret hW e203 h152
              replace h158 := rep_ret hW e203 h158
              replace hW := hW.retP e203
              refine ⟨ms, _, x153, _, hW.enter0, h152, fun ms_l H210 E Q KN_ KE_InvalidFirst KE_InvalidValues KE_InvalidRows KE_TooMany hs_ el_ hWl_ hMl_ hQl_ hE_InvalidFirst hE_InvalidValues hE_InvalidRows hE_TooMany => ?_, hM, fun r205 u208 H209 hM e207 h206 => ?_⟩
              · skip
                replace h2 := rep_lam hs_ el_ h2
                replace h10 := rep_lam hs_ el_ h10
                replace h14 := rep_lam hs_ el_ h14
                replace h18 := rep_lam hs_ el_ h18
                replace h26 := rep_lam hs_ el_ h26
                replace h30 := rep_lam hs_ el_ h30
                replace h38 := rep_lam hs_ el_ h38
                replace h46 := rep_lam hs_ el_ h46
                replace h50 := rep_lam hs_ el_ h50
                replace h60 := rep_lam hs_ el_ h60
                replace h95 := rep_lam hs_ el_ h95
                replace h100 := rep_lam hs_ el_ h100
                replace h106 := rep_lam hs_ el_ h106
                replace h111 := rep_lam hs_ el_ h111
                replace h118 := rep_lam hs_ el_ h118
                replace h124 := rep_lam hs_ el_ h124
                replace h129 := rep_lam hs_ el_ h129
                replace h136 := rep_lam hs_ el_ h136
                replace h142 := rep_lam hs_ el_ h142
                replace h147 := rep_lam hs_ el_ h147
                replace h152 := rep_lam hs_ el_ h152
                replace h158 := rep_lam hs_ el_ h158
                clear hW hM
                have hW := hWl_; have hM := hMl_; have hQ := hQl_; clear hWl_ hMl_ hQl_
                refine ⟨_, rfl, ?_⟩
                refine ⟨_, rfl, ?_⟩
                refine ⟨_, rfl, ?_⟩
                refine ⟨rfl, rfl, ?_⟩
                refine make_Form_init (ms := ms_l) hW h10 h26 h46 hM (fun p211 H240 r214 hM e213 h212 => ?_) ?_ ?_ ?_ ?_
                · skip
                  replace h2 := rep_ext e213 h2
                  replace h10 := rep_ext e213 h10
                  replace h14 := rep_ext e213 h14
                  replace h18 := rep_ext e213 h18
                  replace h26 := rep_ext e213 h26
                  replace h30 := rep_ext e213 h30
                  replace h38 := rep_ext e213 h38
                  replace h46 := rep_ext e213 h46
                  replace h50 := rep_ext e213 h50
                  replace h60 := rep_ext e213 h60
                  replace h95 := rep_ext e213 h95
                  replace h100 := rep_ext e213 h100
                  replace h106 := rep_ext e213 h106
                  replace h111 := rep_ext e213 h111
                  replace h118 := rep_ext e213 h118
                  replace h124 := rep_ext e213 h124
                  replace h129 := rep_ext e213 h129
                  replace h136 := rep_ext e213 h136
                  replace h142 := rep_ext e213 h142
                  replace h147 := rep_ext e213 h147
                  replace h152 := rep_ext e213 h152
                  replace h158 := rep_ext e213 h158
                  replace hW := hW.ret0 e213
                  exact hQ r214 _ _ hM hW.out h212
                · skip
                  intro x215 cl216 d217 H218 hM er219 ex220
                  replace h2 := rep_ext er219 h2
                  replace h10 := rep_ext er219 h10
                  replace h14 := rep_ext er219 h14
                  replace h18 := rep_ext er219 h18
                  replace h26 := rep_ext er219 h26
                  replace h30 := rep_ext er219 h30
                  replace h38 := rep_ext er219 h38
                  replace h46 := rep_ext er219 h46
                  replace h50 := rep_ext er219 h50
                  replace h60 := rep_ext er219 h60
                  replace h95 := rep_ext er219 h95
                  replace h100 := rep_ext er219 h100
                  replace h106 := rep_ext er219 h106
                  replace h111 := rep_ext er219 h111
                  replace h118 := rep_ext er219 h118
                  replace h124 := rep_ext er219 h124
                  replace h129 := rep_ext er219 h129
                  replace h136 := rep_ext er219 h136
                  replace h142 := rep_ext er219 h142
                  replace h147 := rep_ext er219 h147
                  replace h152 := rep_ext er219 h152
                  replace h158 := rep_ext er219 h158
                  replace hW := hW.ret0 er219
                  exact hE_InvalidFirst x215 _ _ _ hM hW.out (excR_sub (by intro a_ h_; simp [h_]) ex220)
                · skip
                  intro x221 cl222 d223 H224 hM er225 ex226
                  replace h2 := rep_ext er225 h2
                  replace h10 := rep_ext er225 h10
                  replace h14 := rep_ext er225 h14
                  replace h18 := rep_ext er225 h18
                  replace h26 := rep_ext er225 h26
                  replace h30 := rep_ext er225 h30
                  replace h38 := rep_ext er225 h38
                  replace h46 := rep_ext er225 h46
                  replace h50 := rep_ext er225 h50
                  replace h60 := rep_ext er225 h60
                  replace h95 := rep_ext er225 h95
                  replace h100 := rep_ext er225 h100
                  replace h106 := rep_ext er225 h106
                  replace h111 := rep_ext er225 h111
                  replace h118 := rep_ext er225 h118
                  replace h124 := rep_ext er225 h124
                  replace h129 := rep_ext er225 h129
                  replace h136 := rep_ext er225 h136
                  replace h142 := rep_ext er225 h142
                  replace h147 := rep_ext er225 h147
                  replace h152 := rep_ext er225 h152
                  replace h158 := rep_ext er225 h158
                  replace hW := hW.ret0 er225
                  exact hE_InvalidValues x221 _ _ _ hM hW.out (excR_sub (by intro a_ h_; simp [h_]) ex226)
                · skip
                  intro x227 cl228 d229 H230 hM er231 ex232
                  replace h2 := rep_ext er231 h2
                  replace h10 := rep_ext er231 h10
                  replace h14 := rep_ext er231 h14
                  replace h18 := rep_ext er231 h18
                  replace h26 := rep_ext er231 h26
                  replace h30 := rep_ext er231 h30
                  replace h38 := rep_ext er231 h38
                  replace h46 := rep_ext er231 h46
                  replace h50 := rep_ext er231 h50
                  replace h60 := rep_ext er231 h60
                  replace h95 := rep_ext er231 h95
                  replace h100 := rep_ext er231 h100
                  replace h106 := rep_ext er231 h106
                  replace h111 := rep_ext er231 h111
                  replace h118 := rep_ext er231 h118
                  replace h124 := rep_ext er231 h124
                  replace h129 := rep_ext er231 h129
                  replace h136 := rep_ext er231 h136
                  replace h142 := rep_ext er231 h142
                  replace h147 := rep_ext er231 h147
                  replace h152 := rep_ext er231 h152
                  replace h158 := rep_ext er231 h158
                  replace hW := hW.ret0 er231
                  exact hE_InvalidRows x227 _ _ _ hM hW.out (excR_sub (by intro a_ h_; simp [h_]) ex232)
                · skip
                  intro x233 x234 cl235 d236 H237 hM er238 ex239
                  replace h2 := rep_ext er238 h2
                  replace h10 := rep_ext er238 h10
                  replace h14 := rep_ext er238 h14
                  replace h18 := rep_ext er238 h18
                  replace h26 := rep_ext er238 h26
                  replace h30 := rep_ext er238 h30
                  replace h38 := rep_ext er238 h38
                  replace h46 := rep_ext er238 h46
                  replace h50 := rep_ext er238 h50
                  replace h60 := rep_ext er238 h60
                  replace h95 := rep_ext er238 h95
                  replace h100 := rep_ext er238 h100
                  replace h106 := rep_ext er238 h106
                  replace h111 := rep_ext er238 h111
                  replace h118 := rep_ext er238 h118
                  replace h124 := rep_ext er238 h124
                  replace h129 := rep_ext er238 h129
                  replace h136 := rep_ext er238 h136
                  replace h142 := rep_ext er238 h142
                  replace h147 := rep_ext er238 h147
                  replace h152 := rep_ext er238 h152
                  replace h158 := rep_ext er238 h158
                  replace hW := hW.ret0 er238
                  exact hE_TooMany x233 x234 _ _ _ hM hW.out (excR_sub (by intro a_ h_; simp [h_]) ex239)
              · skip
                replace h2 := rep_ext e207 h2
                replace h10 := rep_ext e207 h10
                replace h14 := rep_ext e207 h14
                replace h18 := rep_ext e207 h18
                replace h26 := rep_ext e207 h26
                replace h30 := rep_ext e207 h30
                replace h38 := rep_ext e207 h38
                replace h46 := rep_ext e207 h46
                replace h50 := rep_ext e207 h50
                replace h60 := rep_ext e207 h60
                replace h95 := rep_ext e207 h95
                replace h100 := rep_ext e207 h100
                replace h106 := rep_ext e207 h106
                replace h111 := rep_ext e207 h111
                replace h118 := rep_ext e207 h118
                replace h124 := rep_ext e207 h124
                replace h129 := rep_ext e207 h129
                replace h136 := rep_ext e207 h136
                replace h142 := rep_ext e207 h142
                replace h147 := rep_ext e207 h147
                replace h152 := rep_ext e207 h152
                replace h158 := rep_ext e207 h158
                replace hW := hW.ret0 e207
                obtain rfl := of_v h206
                refine ⟨_, rfl, ?_⟩
                refine ite3 hM (fun hM => ?_) (fun hM => ?_)
                · skip
                  refine ⟨_, rfl, ?_⟩
                  refine ⟨_, rfl, ?_⟩
                  refine ⟨_, rfl, ?_⟩
                  refine ⟨(by show 3 ≤ sizeLine; decide), ?_⟩
                  intro p241 n245
                  have e242 := Rx.Ext.new (H := H209) (o := (HO.lst [u8, u24, u44])) n245
                  have hp243 : upd H209 p241 (HO.lst [u8, u24, u44]) p241 = some (HO.lst [u8, u24, u44]) := upd_same
                  generalize upd H209 p241 (HO.lst [u8, u24, u44]) = H246 at e242 hp243 ⊢
                  have h244 : rep ms H246 (D.lst (([r1.1, r17.1, r37.1] : List D).map (fun y_ : D => y_))) (.ref p241) := rep_lst_mk hW n245 e242 hp243 (repL_cons h10 (repL_cons h26 (repL_cons h46 repL_nil)))
                  replace h2 := rep_ext e242 h2
                  replace h10 := rep_ext e242 h10
                  replace h14 := rep_ext e242 h14
                  replace h18 := rep_ext e242 h18
                  replace h26 := rep_ext e242 h26
                  replace h30 := rep_ext e242 h30
                  replace h38 := rep_ext e242 h38
                  replace h46 := rep_ext e242 h46
                  replace h50 := rep_ext e242 h50
                  replace h60 := rep_ext e242 h60
                  replace h95 := rep_ext e242 h95
                  replace h100 := rep_ext e242 h100
                  replace h106 := rep_ext e242 h106
                  replace h111 := rep_ext e242 h111
                  replace h118 := rep_ext e242 h118
                  replace h124 := rep_ext e242 h124
                  replace h129 := rep_ext e242 h129
                  replace h136 := rep_ext e242 h136
                  replace h142 := rep_ext e242 h142
                  replace h147 := rep_ext e242 h147
                  replace h152 := rep_ext e242 h152
                  replace h158 := rep_ext e242 h158
                  replace hW := hW.ret0 e242
                  obtain ⟨g247, hM⟩ := hM
                  refine rep_reprY (d := (D.lst (([r1.1, r17.1, r37.1] : List D).map (fun y_ : D => y_)))) h244 g247 ?_
                  refine ⟨_, rfl, ?_⟩
                  refine ⟨rfl, ?_⟩
                  exact hQ (decide (V.str (pyX (D.lst (([r1.1, r17.1, r37.1] : List D).map (fun y_ : D => y_)))).shown = V.str (pyX (D.lst (([r1.1, r17.1, r37.1] : List D).map (fun y_ : D => y_)))).shown)) _ _ hM hW.out rep_v
                · skip
                  exact hQ false _ _ hM hW.out rep_v
        · skip
          try rw [z56]
          try rw [z96]
          try rw [z114]
          refine ⟨_, rfl, ?_⟩
          refine ⟨(by show 1 ≤ sizeLine; decide), ?_⟩
          intro p248 n252
          have e249 := Rx.Ext.new (H := H113) (o := (HO.lst [V.str ("taken" : Str)])) n252
          have hp250 : upd H113 p248 (HO.lst [V.str ("taken" : Str)]) p248 = some (HO.lst [V.str ("taken" : Str)]) := upd_same
          generalize upd H113 p248 (HO.lst [V.str ("taken" : Str)]) = H253 at e249 hp250 ⊢
          have h251 : rep ms H253 (D.lst (([(D.v (V.str ("taken" : Str)))] : List D).map (fun y_ : D => y_))) (.ref p248) := rep_lst_mk hW n252 e249 hp250 (repL_cons rep_v repL_nil)
          replace h2 := rep_ext e249 h2
          replace h10 := rep_ext e249 h10
          replace h14 := rep_ext e249 h14
          replace h18 := rep_ext e249 h18
          replace h26 := rep_ext e249 h26
          replace h30 := rep_ext e249 h30
          replace h38 := rep_ext e249 h38
          replace h46 := rep_ext e249 h46
          replace h50 := rep_ext e249 h50
          replace h60 := rep_ext e249 h60
          replace h95 := rep_ext e249 h95
          replace h100 := rep_ext e249 h100
          replace h106 := rep_ext e249 h106
          replace h111 := rep_ext e249 h111
          replace hW := hW.ret0 e249
          refine ⟨(by show 1 ≤ sizeLine; decide), ?_⟩
          intro p254 n258
          have e255 := Rx.Ext.new (H := H253) (o := (HO.lst [(V.ref p248)])) n258
          have hp256 : upd H253 p254 (HO.lst [(V.ref p248)]) p254 = some (HO.lst [(V.ref p248)]) := upd_same
          generalize upd H253 p254 (HO.lst [(V.ref p248)]) = H259 at e255 hp256 ⊢
          have h257 : rep ms H259 (D.lst (([([(D.v (V.str ("taken" : Str)))] : List D)] : List (List D)).map (fun y_ : (List D) => (D.lst (y_.map (fun y_ : D => y_)))))) (.ref p254) := rep_lst_mk hW n258 e255 hp256 (repL_cons h251 repL_nil)
          replace h2 := rep_ext e255 h2
          replace h10 := rep_ext e255 h10
          replace h14 := rep_ext e255 h14
          replace h18 := rep_ext e255 h18
          replace h26 := rep_ext e255 h26
          replace h30 := rep_ext e255 h30
          replace h38 := rep_ext e255 h38
          replace h46 := rep_ext e255 h46
          replace h50 := rep_ext e255 h50
          replace h60 := rep_ext e255 h60
          replace h95 := rep_ext e255 h95
          replace h100 := rep_ext e255 h100
          replace h106 := rep_ext e255 h106
          replace h111 := rep_ext e255 h111
          replace h251 := rep_ext e255 h251
          replace hW := hW.ret0 e255
          obtain ⟨g260, hM⟩ := hM
          apply rep_cat (xs := (ys93 ++ ([([(D.v (V.str ("many" : Str))), (D.v (V.str ("values" : Str))), (D.v (V.int (200 : Int)))] : List D)] : List (List D)))) (ys := ([([(D.v (V.str ("taken" : Str)))] : List D)] : List (List D))) (e := (fun y_ : (List D) => (D.lst (y_.map (fun y_ : D => y_))))) hW h111 h257 g260
          intro p261 H264 e263 h262
          replace h2 := rep_ext e263 h2
          replace h10 := rep_ext e263 h10
          replace h14 := rep_ext e263 h14
          replace h18 := rep_ext e263 h18
          replace h26 := rep_ext e263 h26
          replace h30 := rep_ext e263 h30
          replace h38 := rep_ext e263 h38
          replace h46 := rep_ext e263 h46
          replace h50 := rep_ext e263 h50
          replace h60 := rep_ext e263 h60
          replace h95 := rep_ext e263 h95
          replace h100 := rep_ext e263 h100
          replace h106 := rep_ext e263 h106
          replace h111 := rep_ext e263 h111
          replace h251 := rep_ext e263 h251
          replace h257 := rep_ext e263 h257
          replace hW := hW.ret0 e263
          obtain ⟨g265, g266, hM⟩ := hM
          apply rep_ixL (e := (fun y_ : (List D) => (D.lst (y_.map (fun y_ : D => y_))))) (xs := ((ys93 ++ ([([(D.v (V.str ("many" : Str))), (D.v (V.str ("values" : Str))), (D.v (V.int (200 : Int)))] : List D)] : List (List D))) ++ ([([(D.v (V.str ("taken" : Str)))] : List D)] : List (List D)))) h262 g265 g266
          intro u269 h267
          obtain ⟨x268, x268e⟩ : ∃ x_, x_ = ((ys93 ++ ([([(D.v (V.str ("many" : Str))), (D.v (V.str ("values" : Str))), (D.v (V.int (200 : Int)))] : List D)] : List (List D))) ++ ([([(D.v (V.str ("taken" : Str)))] : List D)] : List (List D)))[Int.toNat (0 : Int)]'g266 := ⟨_, rfl⟩
          rw [← x268e] at h267
          replace hM := hM x268 x268e
          refine ⟨_, rfl, ?_⟩
          refine ⟨_, rfl, ?_⟩
          refine ⟨_, rfl, ?_⟩
          refine ⟨(by show 3 ≤ sizeLine; decide), ?_⟩
          intro p270 n274
          have e271 := Rx.Ext.new (H := H264) (o := (HO.lst [u8, u24, u44])) n274
          have hp272 : upd H264 p270 (HO.lst [u8, u24, u44]) p270 = some (HO.lst [u8, u24, u44]) := upd_same
          generalize upd H264 p270 (HO.lst [u8, u24, u44]) = H275 at e271 hp272 ⊢
          have h273 : rep ms H275 (D.lst (([r1.1, r17.1, r37.1] : List D).map (fun y_ : D => y_))) (.ref p270) := rep_lst_mk hW n274 e271 hp272 (repL_cons h10 (repL_cons h26 (repL_cons h46 repL_nil)))
          replace h2 := rep_ext e271 h2
          replace h10 := rep_ext e271 h10
          replace h14 := rep_ext e271 h14
          replace h18 := rep_ext e271 h18
          replace h26 := rep_ext e271 h26
          replace h30 := rep_ext e271 h30
          replace h38 := rep_ext e271 h38
          replace h46 := rep_ext e271 h46
          replace h50 := rep_ext e271 h50
          replace h60 := rep_ext e271 h60
          replace h95 := rep_ext e271 h95
          replace h100 := rep_ext e271 h100
          replace h106 := rep_ext e271 h106
          replace h111 := rep_ext e271 h111
          replace h251 := rep_ext e271 h251
          replace h257 := rep_ext e271 h257
          replace h262 := rep_ext e271 h262
          replace h267 := rep_ext e271 h267
          replace hW := hW.ret0 e271
          obtain ⟨g276, hM⟩ := hM
          refine rep_reprY (d := (D.lst (([r1.1, r17.1, r37.1] : List D).map (fun y_ : D => y_)))) h273 g276 ?_
          refine ⟨_, _, rfl, ?_⟩
          have z277 : (List.set (List.set ([some (V.ref ap), some (u8), some (u12), some (u24), some (u28), some (V.int r17.2.2), some (u44), some (u48), some (V.int r37.2.2), some ((V.ref p110)), none, none, none] : List (Option V)) 10 (some (u269))) 11 (some (V.str (pyX (D.lst (([r1.1, r17.1, r37.1] : List D).map (fun y_ : D => y_)))).shown))) = [some (V.ref ap), some (u8), some (u12), some (u24), some (u28), some (V.int r17.2.2), some (u44), some (u48), some (V.int r37.2.2), some ((V.ref p110)), some (u269), some (V.str (pyX (D.lst (([r1.1, r17.1, r37.1] : List D).map (fun y_ : D => y_)))).shown), none] := rfl
          try rw [z56]
          try rw [z96]
          try rw [z114]
          try rw [z277]
          clear z56
          refine ⟨hW.pot (A.t_is_form_right, some ((("_law_is_form_right" : Str) ++ (".<locals>." : Str)) ++ ("<lambda>" : Str))) (List.mem_cons_of_mem _ (tm_is_form_right A)), _, rfl, fun H278 e279_ t280 => ?_⟩
          have e279 : Ret ((ap, none) :: A.tbs) H275 H278 := Ret.upN (sub1 (List.mem_cons_of_mem _ (tm_is_form_right A))) (tabN T.nd_tb (tm_is_form_right A)) hW (ret_tab (q := ((("_law_is_form_right" : Str) ++ (".<locals>." : Str)) ++ ("<lambda>" : Str))) e279_ t280)
          clear e279_ t280
          replace h2 := rep_ret hW e279 h2
          replace h10 := rep_ret hW e279 h10
          replace h14 := rep_ret hW e279 h14
          replace h18 := rep_ret hW e279 h18
          replace h26 := rep_ret hW e279 h26
          replace h30 := rep_ret hW e279 h30
          replace h38 := rep_ret hW e279 h38
          replace h46 := rep_ret hW e279 h46
          replace h50 := rep_ret hW e279 h50
          replace h60 := rep_ret hW e279 h60
          replace h95 := rep_ret hW e279 h95
          replace h100 := rep_ret hW e279 h100
          replace h106 := rep_ret hW e279 h106
          replace h111 := rep_ret hW e279 h111
          replace h251 := rep_ret hW e279 h251
          replace h257 := rep_ret hW e279 h257
          replace h262 := rep_ret hW e279 h262
          replace h267 := rep_ret hW e279 h267
          replace h273 := rep_ret hW e279 h273
          replace hW := hW.retP e279
          refine ⟨ms, _, x268, _, hW.enter0, h267, fun ms_l H286 E Q KN_ KE_InvalidFirst KE_InvalidValues KE_InvalidRows KE_TooMany hs_ el_ hWl_ hMl_ hQl_ hE_InvalidFirst hE_InvalidValues hE_InvalidRows hE_TooMany => ?_, hM, fun r281 u284 H285 hM e283 h282 => ?_⟩
          · skip
            replace h2 := rep_lam hs_ el_ h2
            replace h10 := rep_lam hs_ el_ h10
            replace h14 := rep_lam hs_ el_ h14
            replace h18 := rep_lam hs_ el_ h18
            replace h26 := rep_lam hs_ el_ h26
            replace h30 := rep_lam hs_ el_ h30
            replace h38 := rep_lam hs_ el_ h38
            replace h46 := rep_lam hs_ el_ h46
            replace h50 := rep_lam hs_ el_ h50
            replace h60 := rep_lam hs_ el_ h60
            replace h95 := rep_lam hs_ el_ h95
            replace h100 := rep_lam hs_ el_ h100
            replace h106 := rep_lam hs_ el_ h106
            replace h111 := rep_lam hs_ el_ h111
            replace h251 := rep_lam hs_ el_ h251
            replace h257 := rep_lam hs_ el_ h257
            replace h262 := rep_lam hs_ el_ h262
            replace h267 := rep_lam hs_ el_ h267
            replace h273 := rep_lam hs_ el_ h273
            clear hW hM
            have hW := hWl_; have hM := hMl_; have hQ := hQl_; clear hWl_ hMl_ hQl_
            refine ⟨_, rfl, ?_⟩
            refine ⟨_, rfl, ?_⟩
            refine ⟨_, rfl, ?_⟩
            conv => whnf
            refine make_Form_init (ms := ms_l) hW h10 h26 h46 hM (fun p287 H316 r290 hM e289 h288 => ?_) ?_ ?_ ?_ ?_
            · skip
              replace h2 := rep_ext e289 h2
              replace h10 := rep_ext e289 h10
              replace h14 := rep_ext e289 h14
              replace h18 := rep_ext e289 h18
              replace h26 := rep_ext e289 h26
              replace h30 := rep_ext e289 h30
              replace h38 := rep_ext e289 h38
              replace h46 := rep_ext e289 h46
              replace h50 := rep_ext e289 h50
              replace h60 := rep_ext e289 h60
              replace h95 := rep_ext e289 h95
              replace h100 := rep_ext e289 h100
              replace h106 := rep_ext e289 h106
              replace h111 := rep_ext e289 h111
              replace h251 := rep_ext e289 h251
              replace h257 := rep_ext e289 h257
              replace h262 := rep_ext e289 h262
              replace h267 := rep_ext e289 h267
              replace h273 := rep_ext e289 h273
              replace hW := hW.ret0 e289
              exact hQ r290 _ _ hM hW.out h288
            · skip
              intro x291 cl292 d293 H294 hM er295 ex296
              replace h2 := rep_ext er295 h2
              replace h10 := rep_ext er295 h10
              replace h14 := rep_ext er295 h14
              replace h18 := rep_ext er295 h18
              replace h26 := rep_ext er295 h26
              replace h30 := rep_ext er295 h30
              replace h38 := rep_ext er295 h38
              replace h46 := rep_ext er295 h46
              replace h50 := rep_ext er295 h50
              replace h60 := rep_ext er295 h60
              replace h95 := rep_ext er295 h95
              replace h100 := rep_ext er295 h100
              replace h106 := rep_ext er295 h106
              replace h111 := rep_ext er295 h111
              replace h251 := rep_ext er295 h251
              replace h257 := rep_ext er295 h257
              replace h262 := rep_ext er295 h262
              replace h267 := rep_ext er295 h267
              replace h273 := rep_ext er295 h273
              replace hW := hW.ret0 er295
              exact hE_InvalidFirst x291 _ _ _ hM hW.out (excR_sub (by intro a_ h_; simp [h_]) ex296)
            · skip
              intro x297 cl298 d299 H300 hM er301 ex302
              replace h2 := rep_ext er301 h2
              replace h10 := rep_ext er301 h10
              replace h14 := rep_ext er301 h14
              replace h18 := rep_ext er301 h18
              replace h26 := rep_ext er301 h26
              replace h30 := rep_ext er301 h30
              replace h38 := rep_ext er301 h38
              replace h46 := rep_ext er301 h46
              replace h50 := rep_ext er301 h50
              replace h60 := rep_ext er301 h60
              replace h95 := rep_ext er301 h95
              replace h100 := rep_ext er301 h100
              replace h106 := rep_ext er301 h106
              replace h111 := rep_ext er301 h111
              replace h251 := rep_ext er301 h251
              replace h257 := rep_ext er301 h257
              replace h262 := rep_ext er301 h262
              replace h267 := rep_ext er301 h267
              replace h273 := rep_ext er301 h273
              replace hW := hW.ret0 er301
              exact hE_InvalidValues x297 _ _ _ hM hW.out (excR_sub (by intro a_ h_; simp [h_]) ex302)
            · skip
              intro x303 cl304 d305 H306 hM er307 ex308
              replace h2 := rep_ext er307 h2
              replace h10 := rep_ext er307 h10
              replace h14 := rep_ext er307 h14
              replace h18 := rep_ext er307 h18
              replace h26 := rep_ext er307 h26
              replace h30 := rep_ext er307 h30
              replace h38 := rep_ext er307 h38
              replace h46 := rep_ext er307 h46
              replace h50 := rep_ext er307 h50
              replace h60 := rep_ext er307 h60
              replace h95 := rep_ext er307 h95
              replace h100 := rep_ext er307 h100
              replace h106 := rep_ext er307 h106
              replace h111 := rep_ext er307 h111
              replace h251 := rep_ext er307 h251
              replace h257 := rep_ext er307 h257
              replace h262 := rep_ext er307 h262
              replace h267 := rep_ext er307 h267
              replace h273 := rep_ext er307 h273
              replace hW := hW.ret0 er307
              exact hE_InvalidRows x303 _ _ _ hM hW.out (excR_sub (by intro a_ h_; simp [h_]) ex308)
            · skip
              intro x309 x310 cl311 d312 H313 hM er314 ex315
              replace h2 := rep_ext er314 h2
              replace h10 := rep_ext er314 h10
              replace h14 := rep_ext er314 h14
              replace h18 := rep_ext er314 h18
              replace h26 := rep_ext er314 h26
              replace h30 := rep_ext er314 h30
              replace h38 := rep_ext er314 h38
              replace h46 := rep_ext er314 h46
              replace h50 := rep_ext er314 h50
              replace h60 := rep_ext er314 h60
              replace h95 := rep_ext er314 h95
              replace h100 := rep_ext er314 h100
              replace h106 := rep_ext er314 h106
              replace h111 := rep_ext er314 h111
              replace h251 := rep_ext er314 h251
              replace h257 := rep_ext er314 h257
              replace h262 := rep_ext er314 h262
              replace h267 := rep_ext er314 h267
              replace h273 := rep_ext er314 h273
              replace hW := hW.ret0 er314
              exact hE_TooMany x309 x310 _ _ _ hM hW.out (excR_sub (by intro a_ h_; simp [h_]) ex315)
          · skip
            replace h2 := rep_ext e283 h2
            replace h10 := rep_ext e283 h10
            replace h14 := rep_ext e283 h14
            replace h18 := rep_ext e283 h18
            replace h26 := rep_ext e283 h26
            replace h30 := rep_ext e283 h30
            replace h38 := rep_ext e283 h38
            replace h46 := rep_ext e283 h46
            replace h50 := rep_ext e283 h50
            replace h60 := rep_ext e283 h60
            replace h95 := rep_ext e283 h95
            replace h100 := rep_ext e283 h100
            replace h106 := rep_ext e283 h106
            replace h111 := rep_ext e283 h111
            replace h251 := rep_ext e283 h251
            replace h257 := rep_ext e283 h257
            replace h262 := rep_ext e283 h262
            replace h267 := rep_ext e283 h267
            replace h273 := rep_ext e283 h273
            replace hW := hW.ret0 e283
            obtain rfl := of_v h282
            refine ⟨_, rfl, ?_⟩
            refine ite3 hM (fun hM => ?_) (fun hM => ?_)
            · skip
              try rw [z96]
              try rw [z114]
              try rw [z277]
              exact hQ false _ _ hM hW.out rep_v
            · skip
              try rw [z96]
              try rw [z114]
              try rw [z277]
              refine ⟨hW.pot (A.t_is_form_right, some ((("_law_is_form_right" : Str) ++ (".<locals>." : Str)) ++ ("<lambda>" : Str))) (List.mem_cons_of_mem _ (tm_is_form_right A)), _, rfl, fun H317 e318_ t319 => ?_⟩
              have e318 : Ret ((ap, none) :: A.tbs) H285 H317 := Ret.upN (sub1 (List.mem_cons_of_mem _ (tm_is_form_right A))) (tabN T.nd_tb (tm_is_form_right A)) hW (ret_tab (q := ((("_law_is_form_right" : Str) ++ (".<locals>." : Str)) ++ ("<lambda>" : Str))) e318_ t319)
              clear e318_ t319
              replace h2 := rep_ret hW e318 h2
              replace h10 := rep_ret hW e318 h10
              replace h14 := rep_ret hW e318 h14
              replace h18 := rep_ret hW e318 h18
              replace h26 := rep_ret hW e318 h26
              replace h30 := rep_ret hW e318 h30
              replace h38 := rep_ret hW e318 h38
              replace h46 := rep_ret hW e318 h46
              replace h50 := rep_ret hW e318 h50
              replace h60 := rep_ret hW e318 h60
              replace h95 := rep_ret hW e318 h95
              replace h100 := rep_ret hW e318 h100
              replace h106 := rep_ret hW e318 h106
              replace h111 := rep_ret hW e318 h111
              replace h251 := rep_ret hW e318 h251
              replace h257 := rep_ret hW e318 h257
              replace h262 := rep_ret hW e318 h262
              replace h267 := rep_ret hW e318 h267
              replace h273 := rep_ret hW e318 h273
              replace hW := hW.retP e318
              refine ⟨ms, _, x268, _, hW.enter0, h267, fun ms_l H325 E Q KN_ KE_InvalidFirst KE_InvalidValues KE_InvalidRows KE_TooMany hs_ el_ hWl_ hMl_ hQl_ hE_InvalidFirst hE_InvalidValues hE_InvalidRows hE_TooMany => ?_, hM, fun r320 u323 H324 hM e322 h321 => ?_⟩
              · skip
                replace h2 := rep_lam hs_ el_ h2
                replace h10 := rep_lam hs_ el_ h10
                replace h14 := rep_lam hs_ el_ h14
                replace h18 := rep_lam hs_ el_ h18
                replace h26 := rep_lam hs_ el_ h26
                replace h30 := rep_lam hs_ el_ h30
                replace h38 := rep_lam hs_ el_ h38
                replace h46 := rep_lam hs_ el_ h46
                replace h50 := rep_lam hs_ el_ h50
                replace h60 := rep_lam hs_ el_ h60
                replace h95 := rep_lam hs_ el_ h95
                replace h100 := rep_lam hs_ el_ h100
                replace h106 := rep_lam hs_ el_ h106
                replace h111 := rep_lam hs_ el_ h111
                replace h251 := rep_lam hs_ el_ h251
                replace h257 := rep_lam hs_ el_ h257
                replace h262 := rep_lam hs_ el_ h262
                replace h267 := rep_lam hs_ el_ h267
                replace h273 := rep_lam hs_ el_ h273
                clear hW hM
                have hW := hWl_; have hM := hMl_; have hQ := hQl_; clear hWl_ hMl_ hQl_
                refine ⟨_, rfl, ?_⟩
                refine ⟨_, rfl, ?_⟩
                refine ⟨_, rfl, ?_⟩
                refine ⟨rfl, rfl, ?_⟩
                refine make_Form_init (ms := ms_l) hW h10 h26 h46 hM (fun p326 H355 r329 hM e328 h327 => ?_) ?_ ?_ ?_ ?_
                · skip
                  replace h2 := rep_ext e328 h2
                  replace h10 := rep_ext e328 h10
                  replace h14 := rep_ext e328 h14
                  replace h18 := rep_ext e328 h18
                  replace h26 := rep_ext e328 h26
                  replace h30 := rep_ext e328 h30
                  replace h38 := rep_ext e328 h38
                  replace h46 := rep_ext e328 h46
                  replace h50 := rep_ext e328 h50
                  replace h60 := rep_ext e328 h60
                  replace h95 := rep_ext e328 h95
                  replace h100 := rep_ext e328 h100
                  replace h106 := rep_ext e328 h106
                  replace h111 := rep_ext e328 h111
                  replace h251 := rep_ext e328 h251
                  replace h257 := rep_ext e328 h257
                  replace h262 := rep_ext e328 h262
                  replace h267 := rep_ext e328 h267
                  replace h273 := rep_ext e328 h273
                  replace hW := hW.ret0 e328
                  exact hQ r329 _ _ hM hW.out h327
                · skip
                  intro x330 cl331 d332 H333 hM er334 ex335
                  replace h2 := rep_ext er334 h2
                  replace h10 := rep_ext er334 h10
                  replace h14 := rep_ext er334 h14
                  replace h18 := rep_ext er334 h18
                  replace h26 := rep_ext er334 h26
                  replace h30 := rep_ext er334 h30
                  replace h38 := rep_ext er334 h38
                  replace h46 := rep_ext er334 h46
                  replace h50 := rep_ext er334 h50
                  replace h60 := rep_ext er334 h60
                  replace h95 := rep_ext er334 h95
                  replace h100 := rep_ext er334 h100
                  replace h106 := rep_ext er334 h106
                  replace h111 := rep_ext er334 h111
                  replace h251 := rep_ext er334 h251
                  replace h257 := rep_ext er334 h257
                  replace h262 := rep_ext er334 h262
                  replace h267 := rep_ext er334 h267
                  replace h273 := rep_ext er334 h273
                  replace hW := hW.ret0 er334
                  exact hE_InvalidFirst x330 _ _ _ hM hW.out (excR_sub (by intro a_ h_; simp [h_]) ex335)
                · skip
                  intro x336 cl337 d338 H339 hM er340 ex341
                  replace h2 := rep_ext er340 h2
                  replace h10 := rep_ext er340 h10
                  replace h14 := rep_ext er340 h14
                  replace h18 := rep_ext er340 h18
                  replace h26 := rep_ext er340 h26
                  replace h30 := rep_ext er340 h30
                  replace h38 := rep_ext er340 h38
                  replace h46 := rep_ext er340 h46
                  replace h50 := rep_ext er340 h50
                  replace h60 := rep_ext er340 h60
                  replace h95 := rep_ext er340 h95
                  replace h100 := rep_ext er340 h100
                  replace h106 := rep_ext er340 h106
                  replace h111 := rep_ext er340 h111
                  replace h251 := rep_ext er340 h251
                  replace h257 := rep_ext er340 h257
                  replace h262 := rep_ext er340 h262
                  replace h267 := rep_ext er340 h267
                  replace h273 := rep_ext er340 h273
                  replace hW := hW.ret0 er340
                  exact hE_InvalidValues x336 _ _ _ hM hW.out (excR_sub (by intro a_ h_; simp [h_]) ex341)
                · skip
                  intro x342 cl343 d344 H345 hM er346 ex347
                  replace h2 := rep_ext er346 h2
                  replace h10 := rep_ext er346 h10
                  replace h14 := rep_ext er346 h14
                  replace h18 := rep_ext er346 h18
                  replace h26 := rep_ext er346 h26
                  replace h30 := rep_ext er346 h30
                  replace h38 := rep_ext er346 h38
                  replace h46 := rep_ext er346 h46
                  replace h50 := rep_ext er346 h50
                  replace h60 := rep_ext er346 h60
                  replace h95 := rep_ext er346 h95
                  replace h100 := rep_ext er346 h100
                  replace h106 := rep_ext er346 h106
                  replace h111 := rep_ext er346 h111
                  replace h251 := rep_ext er346 h251
                  replace h257 := rep_ext er346 h257
                  replace h262 := rep_ext er346 h262
                  replace h267 := rep_ext er346 h267
                  replace h273 := rep_ext er346 h273
                  replace hW := hW.ret0 er346
                  exact hE_InvalidRows x342 _ _ _ hM hW.out (excR_sub (by intro a_ h_; simp [h_]) ex347)
                · skip
                  intro x348 x349 cl350 d351 H352 hM er353 ex354
                  replace h2 := rep_ext er353 h2
                  replace h10 := rep_ext er353 h10
                  replace h14 := rep_ext er353 h14
                  replace h18 := rep_ext er353 h18
                  replace h26 := rep_ext er353 h26
                  replace h30 := rep_ext er353 h30
                  replace h38 := rep_ext er353 h38
                  replace h46 := rep_ext er353 h46
                  replace h50 := rep_ext er353 h50
                  replace h60 := rep_ext er353 h60
                  replace h95 := rep_ext er353 h95
                  replace h100 := rep_ext er353 h100
                  replace h106 := rep_ext er353 h106
                  replace h111 := rep_ext er353 h111
                  replace h251 := rep_ext er353 h251
                  replace h257 := rep_ext er353 h257
                  replace h262 := rep_ext er353 h262
                  replace h267 := rep_ext er353 h267
                  replace h273 := rep_ext er353 h273
                  replace hW := hW.ret0 er353
                  exact hE_TooMany x348 x349 _ _ _ hM hW.out (excR_sub (by intro a_ h_; simp [h_]) ex354)
              · skip
                replace h2 := rep_ext e322 h2
                replace h10 := rep_ext e322 h10
                replace h14 := rep_ext e322 h14
                replace h18 := rep_ext e322 h18
                replace h26 := rep_ext e322 h26
                replace h30 := rep_ext e322 h30
                replace h38 := rep_ext e322 h38
                replace h46 := rep_ext e322 h46
                replace h50 := rep_ext e322 h50
                replace h60 := rep_ext e322 h60
                replace h95 := rep_ext e322 h95
                replace h100 := rep_ext e322 h100
                replace h106 := rep_ext e322 h106
                replace h111 := rep_ext e322 h111
                replace h251 := rep_ext e322 h251
                replace h257 := rep_ext e322 h257
                replace h262 := rep_ext e322 h262
                replace h267 := rep_ext e322 h267
                replace h273 := rep_ext e322 h273
                replace hW := hW.ret0 e322
                obtain rfl := of_v h321
                refine ⟨_, rfl, ?_⟩
                refine ite3 hM (fun hM => ?_) (fun hM => ?_)
                · skip
                  refine ⟨_, rfl, ?_⟩
                  refine ⟨_, rfl, ?_⟩
                  refine ⟨_, rfl, ?_⟩
                  refine ⟨(by show 3 ≤ sizeLine; decide), ?_⟩
                  intro p356 n360
                  have e357 := Rx.Ext.new (H := H324) (o := (HO.lst [u8, u24, u44])) n360
                  have hp358 : upd H324 p356 (HO.lst [u8, u24, u44]) p356 = some (HO.lst [u8, u24, u44]) := upd_same
                  generalize upd H324 p356 (HO.lst [u8, u24, u44]) = H361 at e357 hp358 ⊢
                  have h359 : rep ms H361 (D.lst (([r1.1, r17.1, r37.1] : List D).map (fun y_ : D => y_))) (.ref p356) := rep_lst_mk hW n360 e357 hp358 (repL_cons h10 (repL_cons h26 (repL_cons h46 repL_nil)))
                  replace h2 := rep_ext e357 h2
                  replace h10 := rep_ext e357 h10
                  replace h14 := rep_ext e357 h14
                  replace h18 := rep_ext e357 h18
                  replace h26 := rep_ext e357 h26
                  replace h30 := rep_ext e357 h30
                  replace h38 := rep_ext e357 h38
                  replace h46 := rep_ext e357 h46
                  replace h50 := rep_ext e357 h50
                  replace h60 := rep_ext e357 h60
                  replace h95 := rep_ext e357 h95
                  replace h100 := rep_ext e357 h100
                  replace h106 := rep_ext e357 h106
                  replace h111 := rep_ext e357 h111
                  replace h251 := rep_ext e357 h251
                  replace h257 := rep_ext e357 h257
                  replace h262 := rep_ext e357 h262
                  replace h267 := rep_ext e357 h267
                  replace h273 := rep_ext e357 h273
                  replace hW := hW.ret0 e357
                  obtain ⟨g362, hM⟩ := hM
                  refine rep_reprY (d := (D.lst (([r1.1, r17.1, r37.1] : List D).map (fun y_ : D => y_)))) h359 g362 ?_
                  refine ⟨_, rfl, ?_⟩
                  refine ⟨rfl, ?_⟩
                  exact hQ (decide (V.str (pyX (D.lst (([r1.1, r17.1, r37.1] : List D).map (fun y_ : D => y_)))).shown = V.str (pyX (D.lst (([r1.1, r17.1, r37.1] : List D).map (fun y_ : D => y_)))).shown)) _ _ hM hW.out rep_v
                · skip
                  exact hQ false _ _ hM hW.out rep_v
      · skip
        try rw [z36]
        try rw [z56]
        try rw [z96]
        refine ⟨_, rfl, ?_⟩
        refine ⟨_, _, rfl, rfl, ?_⟩
        refine ⟨_, rfl, ?_⟩
        refine ite3 hM (fun hM => ?_) (fun hM => ?_)
        · skip
          try rw [z36]
          try rw [z56]
          try rw [z96]
          refine ⟨_, rfl, ?_⟩
          refine ⟨(by show 3 ≤ sizeLine; decide), ?_⟩
          intro p363 n367
          have e364 := Rx.Ext.new (H := H94) (o := (HO.lst [V.str ("many" : Str), V.str ("rows" : Str), V.int (24 : Int)])) n367
          have hp365 : upd H94 p363 (HO.lst [V.str ("many" : Str), V.str ("rows" : Str), V.int (24 : Int)]) p363 = some (HO.lst [V.str ("many" : Str), V.str ("rows" : Str), V.int (24 : Int)]) := upd_same
          generalize upd H94 p363 (HO.lst [V.str ("many" : Str), V.str ("rows" : Str), V.int (24 : Int)]) = H368 at e364 hp365 ⊢
          have h366 : rep ms H368 (D.lst (([(D.v (V.str ("many" : Str))), (D.v (V.str ("rows" : Str))), (D.v (V.int (24 : Int)))] : List D).map (fun y_ : D => y_))) (.ref p363) := rep_lst_mk hW n367 e364 hp365 (repL_cons rep_v (repL_cons rep_v (repL_cons rep_v repL_nil)))
          replace h2 := rep_ext e364 h2
          replace h10 := rep_ext e364 h10
          replace h14 := rep_ext e364 h14
          replace h18 := rep_ext e364 h18
          replace h26 := rep_ext e364 h26
          replace h30 := rep_ext e364 h30
          replace h38 := rep_ext e364 h38
          replace h46 := rep_ext e364 h46
          replace h50 := rep_ext e364 h50
          replace h60 := rep_ext e364 h60
          replace h95 := rep_ext e364 h95
          replace hW := hW.ret0 e364
          refine ⟨(by show 1 ≤ sizeLine; decide), ?_⟩
          intro p369 n373
          have e370 := Rx.Ext.new (H := H368) (o := (HO.lst [(V.ref p363)])) n373
          have hp371 : upd H368 p369 (HO.lst [(V.ref p363)]) p369 = some (HO.lst [(V.ref p363)]) := upd_same
          generalize upd H368 p369 (HO.lst [(V.ref p363)]) = H374 at e370 hp371 ⊢
          have h372 : rep ms H374 (D.lst (([([(D.v (V.str ("many" : Str))), (D.v (V.str ("rows" : Str))), (D.v (V.int (24 : Int)))] : List D)] : List (List D)).map (fun y_ : (List D) => (D.lst (y_.map (fun y_ : D => y_)))))) (.ref p369) := rep_lst_mk hW n373 e370 hp371 (repL_cons h366 repL_nil)
          replace h2 := rep_ext e370 h2
          replace h10 := rep_ext e370 h10
          replace h14 := rep_ext e370 h14
          replace h18 := rep_ext e370 h18
          replace h26 := rep_ext e370 h26
          replace h30 := rep_ext e370 h30
          replace h38 := rep_ext e370 h38
          replace h46 := rep_ext e370 h46
          replace h50 := rep_ext e370 h50
          replace h60 := rep_ext e370 h60
          replace h95 := rep_ext e370 h95
          replace h366 := rep_ext e370 h366
          replace hW := hW.ret0 e370
          obtain ⟨g375, hM⟩ := hM
          apply rep_cat (xs := ys93) (ys := ([([(D.v (V.str ("many" : Str))), (D.v (V.str ("rows" : Str))), (D.v (V.int (24 : Int)))] : List D)] : List (List D))) (e := (fun y_ : (List D) => (D.lst (y_.map (fun y_ : D => y_))))) hW h95 h372 g375
          intro p376 H379 e378 h377
          replace h2 := rep_ext e378 h2
          replace h10 := rep_ext e378 h10
          replace h14 := rep_ext e378 h14
          replace h18 := rep_ext e378 h18
          replace h26 := rep_ext e378 h26
          replace h30 := rep_ext e378 h30
          replace h38 := rep_ext e378 h38
          replace h46 := rep_ext e378 h46
          replace h50 := rep_ext e378 h50
          replace h60 := rep_ext e378 h60
          replace h95 := rep_ext e378 h95
          replace h366 := rep_ext e378 h366
          replace h372 := rep_ext e378 h372
          replace hW := hW.ret0 e378
          have z380 : (List.set ([some (V.ref ap), some (u8), some (u12), some (u24), some (u28), some (V.int r17.2.2), some (u44), some (u48), some (V.int r37.2.2), some ((V.ref L68)), none, none, none] : List (Option V)) 9 (some ((V.ref p376)))) = [some (V.ref ap), some (u8), some (u12), some (u24), some (u28), some (V.int r17.2.2), some (u44), some (u48), some (V.int r37.2.2), some ((V.ref p376)), none, none, none] := rfl
          try rw [z36]
          try rw [z56]
          try rw [z96]
          try rw [z380]
          clear z36
          refine ⟨_, rfl, ?_⟩
          refine ⟨(by show 1 ≤ sizeLine; decide), ?_⟩
          intro p381 n385
          have e382 := Rx.Ext.new (H := H379) (o := (HO.lst [V.str ("taken" : Str)])) n385
          have hp383 : upd H379 p381 (HO.lst [V.str ("taken" : Str)]) p381 = some (HO.lst [V.str ("taken" : Str)]) := upd_same
          generalize upd H379 p381 (HO.lst [V.str ("taken" : Str)]) = H386 at e382 hp383 ⊢
          have h384 : rep ms H386 (D.lst (([(D.v (V.str ("taken" : Str)))] : List D).map (fun y_ : D => y_))) (.ref p381) := rep_lst_mk hW n385 e382 hp383 (repL_cons rep_v repL_nil)
          replace h2 := rep_ext e382 h2
          replace h10 := rep_ext e382 h10
          replace h14 := rep_ext e382 h14
          replace h18 := rep_ext e382 h18
          replace h26 := rep_ext e382 h26
          replace h30 := rep_ext e382 h30
          replace h38 := rep_ext e382 h38
          replace h46 := rep_ext e382 h46
          replace h50 := rep_ext e382 h50
          replace h60 := rep_ext e382 h60
          replace h95 := rep_ext e382 h95
          replace h366 := rep_ext e382 h366
          replace h372 := rep_ext e382 h372
          replace h377 := rep_ext e382 h377
          replace hW := hW.ret0 e382
          refine ⟨(by show 1 ≤ sizeLine; decide), ?_⟩
          intro p387 n391
          have e388 := Rx.Ext.new (H := H386) (o := (HO.lst [(V.ref p381)])) n391
          have hp389 : upd H386 p387 (HO.lst [(V.ref p381)]) p387 = some (HO.lst [(V.ref p381)]) := upd_same
          generalize upd H386 p387 (HO.lst [(V.ref p381)]) = H392 at e388 hp389 ⊢
          have h390 : rep ms H392 (D.lst (([([(D.v (V.str ("taken" : Str)))] : List D)] : List (List D)).map (fun y_ : (List D) => (D.lst (y_.map (fun y_ : D => y_)))))) (.ref p387) := rep_lst_mk hW n391 e388 hp389 (repL_cons h384 repL_nil)
          replace h2 := rep_ext e388 h2
          replace h10 := rep_ext e388 h10
          replace h14 := rep_ext e388 h14
          replace h18 := rep_ext e388 h18
          replace h26 := rep_ext e388 h26
          replace h30 := rep_ext e388 h30
          replace h38 := rep_ext e388 h38
          replace h46 := rep_ext e388 h46
          replace h50 := rep_ext e388 h50
          replace h60 := rep_ext e388 h60
          replace h95 := rep_ext e388 h95
          replace h366 := rep_ext e388 h366
          replace h372 := rep_ext e388 h372
          replace h377 := rep_ext e388 h377
          replace h384 := rep_ext e388 h384
          replace hW := hW.ret0 e388
          obtain ⟨g393, hM⟩ := hM
          apply rep_cat (xs := (ys93 ++ ([([(D.v (V.str ("many" : Str))), (D.v (V.str ("rows" : Str))), (D.v (V.int (24 : Int)))] : List D)] : List (List D)))) (ys := ([([(D.v (V.str ("taken" : Str)))] : List D)] : List (List D))) (e := (fun y_ : (List D) => (D.lst (y_.map (fun y_ : D => y_))))) hW h377 h390 g393
          intro p394 H397 e396 h395
          replace h2 := rep_ext e396 h2
          replace h10 := rep_ext e396 h10
          replace h14 := rep_ext e396 h14
          replace h18 := rep_ext e396 h18
          replace h26 := rep_ext e396 h26
          replace h30 := rep_ext e396 h30
          replace h38 := rep_ext e396 h38
          replace h46 := rep_ext e396 h46
          replace h50 := rep_ext e396 h50
          replace h60 := rep_ext e396 h60
          replace h95 := rep_ext e396 h95
          replace h366 := rep_ext e396 h366
          replace h372 := rep_ext e396 h372
          replace h377 := rep_ext e396 h377
          replace h384 := rep_ext e396 h384
          replace h390 := rep_ext e396 h390
          replace hW := hW.ret0 e396
          obtain ⟨g398, g399, hM⟩ := hM
          apply rep_ixL (e := (fun y_ : (List D) => (D.lst (y_.map (fun y_ : D => y_))))) (xs := ((ys93 ++ ([([(D.v (V.str ("many" : Str))), (D.v (V.str ("rows" : Str))), (D.v (V.int (24 : Int)))] : List D)] : List (List D))) ++ ([([(D.v (V.str ("taken" : Str)))] : List D)] : List (List D)))) h395 g398 g399
          intro u402 h400
          obtain ⟨x401, x401e⟩ : ∃ x_, x_ = ((ys93 ++ ([([(D.v (V.str ("many" : Str))), (D.v (V.str ("rows" : Str))), (D.v (V.int (24 : Int)))] : List D)] : List (List D))) ++ ([([(D.v (V.str ("taken" : Str)))] : List D)] : List (List D)))[Int.toNat (0 : Int)]'g399 := ⟨_, rfl⟩
          rw [← x401e] at h400
          replace hM := hM x401 x401e
          refine ⟨_, rfl, ?_⟩
          refine ⟨_, rfl, ?_⟩
          refine ⟨_, rfl, ?_⟩
          refine ⟨(by show 3 ≤ sizeLine; decide), ?_⟩
          intro p403 n407
          have e404 := Rx.Ext.new (H := H397) (o := (HO.lst [u8, u24, u44])) n407
          have hp405 : upd H397 p403 (HO.lst [u8, u24, u44]) p403 = some (HO.lst [u8, u24, u44]) := upd_same
          generalize upd H397 p403 (HO.lst [u8, u24, u44]) = H408 at e404 hp405 ⊢
          have h406 : rep ms H408 (D.lst (([r1.1, r17.1, r37.1] : List D).map (fun y_ : D => y_))) (.ref p403) := rep_lst_mk hW n407 e404 hp405 (repL_cons h10 (repL_cons h26 (repL_cons h46 repL_nil)))
          replace h2 := rep_ext e404 h2
          replace h10 := rep_ext e404 h10
          replace h14 := rep_ext e404 h14
          replace h18 := rep_ext e404 h18
          replace h26 := rep_ext e404 h26
          replace h30 := rep_ext e404 h30
          replace h38 := rep_ext e404 h38
          replace h46 := rep_ext e404 h46
          replace h50 := rep_ext e404 h50
          replace h60 := rep_ext e404 h60
          replace h95 := rep_ext e404 h95
          replace h366 := rep_ext e404 h366
          replace h372 := rep_ext e404 h372
          replace h377 := rep_ext e404 h377
          replace h384 := rep_ext e404 h384
          replace h390 := rep_ext e404 h390
          replace h395 := rep_ext e404 h395
          replace h400 := rep_ext e404 h400
          replace hW := hW.ret0 e404
          obtain ⟨g409, hM⟩ := hM
          refine rep_reprY (d := (D.lst (([r1.1, r17.1, r37.1] : List D).map (fun y_ : D => y_)))) h406 g409 ?_
          refine ⟨_, _, rfl, ?_⟩
          have z410 : (List.set (List.set ([some (V.ref ap), some (u8), some (u12), some (u24), some (u28), some (V.int r17.2.2), some (u44), some (u48), some (V.int r37.2.2), some ((V.ref p376)), none, none, none] : List (Option V)) 10 (some (u402))) 11 (some (V.str (pyX (D.lst (([r1.1, r17.1, r37.1] : List D).map (fun y_ : D => y_)))).shown))) = [some (V.ref ap), some (u8), some (u12), some (u24), some (u28), some (V.int r17.2.2), some (u44), some (u48), some (V.int r37.2.2), some ((V.ref p376)), some (u402), some (V.str (pyX (D.lst (([r1.1, r17.1, r37.1] : List D).map (fun y_ : D => y_)))).shown), none] := rfl
          try rw [z56]
          try rw [z96]
          try rw [z380]
          try rw [z410]
          clear z56
          refine ⟨hW.pot (A.t_is_form_right, some ((("_law_is_form_right" : Str) ++ (".<locals>." : Str)) ++ ("<lambda>" : Str))) (List.mem_cons_of_mem _ (tm_is_form_right A)), _, rfl, fun H411 e412_ t413 => ?_⟩
          have e412 : Ret ((ap, none) :: A.tbs) H408 H411 := Ret.upN (sub1 (List.mem_cons_of_mem _ (tm_is_form_right A))) (tabN T.nd_tb (tm_is_form_right A)) hW (ret_tab (q := ((("_law_is_form_right" : Str) ++ (".<locals>." : Str)) ++ ("<lambda>" : Str))) e412_ t413)
          clear e412_ t413
          replace h2 := rep_ret hW e412 h2
          replace h10 := rep_ret hW e412 h10
          replace h14 := rep_ret hW e412 h14
          replace h18 := rep_ret hW e412 h18
          replace h26 := rep_ret hW e412 h26
          replace h30 := rep_ret hW e412 h30
          replace h38 := rep_ret hW e412 h38
          replace h46 := rep_ret hW e412 h46
          replace h50 := rep_ret hW e412 h50
          replace h60 := rep_ret hW e412 h60
          replace h95 := rep_ret hW e412 h95
          replace h366 := rep_ret hW e412 h366
          replace h372 := rep_ret hW e412 h372
          replace h377 := rep_ret hW e412 h377
          replace h384 := rep_ret hW e412 h384
          replace h390 := rep_ret hW e412 h390
          replace h395 := rep_ret hW e412 h395
          replace h400 := rep_ret hW e412 h400
          replace h406 := rep_ret hW e412 h406
          replace hW := hW.retP e412
          refine ⟨ms, _, x401, _, hW.enter0, h400, fun ms_l H419 E Q KN_ KE_InvalidFirst KE_InvalidValues KE_InvalidRows KE_TooMany hs_ el_ hWl_ hMl_ hQl_ hE_InvalidFirst hE_InvalidValues hE_InvalidRows hE_TooMany => ?_, hM, fun r414 u417 H418 hM e416 h415 => ?_⟩
          · skip
            replace h2 := rep_lam hs_ el_ h2
            replace h10 := rep_lam hs_ el_ h10
            replace h14 := rep_lam hs_ el_ h14
            replace h18 := rep_lam hs_ el_ h18
            replace h26 := rep_lam hs_ el_ h26
            replace h30 := rep_lam hs_ el_ h30
            replace h38 := rep_lam hs_ el_ h38
            replace h46 := rep_lam hs_ el_ h46
            replace h50 := rep_lam hs_ el_ h50
            replace h60 := rep_lam hs_ el_ h60
            replace h95 := rep_lam hs_ el_ h95
            replace h366 := rep_lam hs_ el_ h366
            replace h372 := rep_lam hs_ el_ h372
            replace h377 := rep_lam hs_ el_ h377
            replace h384 := rep_lam hs_ el_ h384
            replace h390 := rep_lam hs_ el_ h390
            replace h395 := rep_lam hs_ el_ h395
            replace h400 := rep_lam hs_ el_ h400
            replace h406 := rep_lam hs_ el_ h406
            clear hW hM
            have hW := hWl_; have hM := hMl_; have hQ := hQl_; clear hWl_ hMl_ hQl_
            refine ⟨_, rfl, ?_⟩
            refine ⟨_, rfl, ?_⟩
            refine ⟨_, rfl, ?_⟩
            conv => whnf
            refine make_Form_init (ms := ms_l) hW h10 h26 h46 hM (fun p420 H449 r423 hM e422 h421 => ?_) ?_ ?_ ?_ ?_
            · skip
              replace h2 := rep_ext e422 h2
              replace h10 := rep_ext e422 h10
              replace h14 := rep_ext e422 h14
              replace h18 := rep_ext e422 h18
              replace h26 := rep_ext e422 h26
              replace h30 := rep_ext e422 h30
              replace h38 := rep_ext e422 h38
              replace h46 := rep_ext e422 h46
              replace h50 := rep_ext e422 h50
              replace h60 := rep_ext e422 h60
              replace h95 := rep_ext e422 h95
              replace h366 := rep_ext e422 h366
              replace h372 := rep_ext e422 h372
              replace h377 := rep_ext e422 h377
              replace h384 := rep_ext e422 h384
              replace h390 := rep_ext e422 h390
              replace h395 := rep_ext e422 h395
              replace h400 := rep_ext e422 h400
              replace h406 := rep_ext e422 h406
              replace hW := hW.ret0 e422
              exact hQ r423 _ _ hM hW.out h421
            · skip
              intro x424 cl425 d426 H427 hM er428 ex429
              replace h2 := rep_ext er428 h2
              replace h10 := rep_ext er428 h10
              replace h14 := rep_ext er428 h14
              replace h18 := rep_ext er428 h18
              replace h26 := rep_ext er428 h26
              replace h30 := rep_ext er428 h30
              replace h38 := rep_ext er428 h38
              replace h46 := rep_ext er428 h46
              replace h50 := rep_ext er428 h50
              replace h60 := rep_ext er428 h60
              replace h95 := rep_ext er428 h95
              replace h366 := rep_ext er428 h366
              replace h372 := rep_ext er428 h372
              replace h377 := rep_ext er428 h377
              replace h384 := rep_ext er428 h384
              replace h390 := rep_ext er428 h390
              replace h395 := rep_ext er428 h395
              replace h400 := rep_ext er428 h400
              replace h406 := rep_ext er428 h406
              replace hW := hW.ret0 er428
              exact hE_InvalidFirst x424 _ _ _ hM hW.out (excR_sub (by intro a_ h_; simp [h_]) ex429)
            · skip
              intro x430 cl431 d432 H433 hM er434 ex435
              replace h2 := rep_ext er434 h2
              replace h10 := rep_ext er434 h10
              replace h14 := rep_ext er434 h14
              replace h18 := rep_ext er434 h18
              replace h26 := rep_ext er434 h26
              replace h30 := rep_ext er434 h30
              replace h38 := rep_ext er434 h38
              replace h46 := rep_ext er434 h46
              replace h50 := rep_ext er434 h50
              replace h60 := rep_ext er434 h60
              replace h95 := rep_ext er434 h95
              replace h366 := rep_ext er434 h366
              replace h372 := rep_ext er434 h372
              replace h377 := rep_ext er434 h377
              replace h384 := rep_ext er434 h384
              replace h390 := rep_ext er434 h390
              replace h395 := rep_ext er434 h395
              replace h400 := rep_ext er434 h400
              replace h406 := rep_ext er434 h406
              replace hW := hW.ret0 er434
              exact hE_InvalidValues x430 _ _ _ hM hW.out (excR_sub (by intro a_ h_; simp [h_]) ex435)
            · skip
              intro x436 cl437 d438 H439 hM er440 ex441
              replace h2 := rep_ext er440 h2
              replace h10 := rep_ext er440 h10
              replace h14 := rep_ext er440 h14
              replace h18 := rep_ext er440 h18
              replace h26 := rep_ext er440 h26
              replace h30 := rep_ext er440 h30
              replace h38 := rep_ext er440 h38
              replace h46 := rep_ext er440 h46
              replace h50 := rep_ext er440 h50
              replace h60 := rep_ext er440 h60
              replace h95 := rep_ext er440 h95
              replace h366 := rep_ext er440 h366
              replace h372 := rep_ext er440 h372
              replace h377 := rep_ext er440 h377
              replace h384 := rep_ext er440 h384
              replace h390 := rep_ext er440 h390
              replace h395 := rep_ext er440 h395
              replace h400 := rep_ext er440 h400
              replace h406 := rep_ext er440 h406
              replace hW := hW.ret0 er440
              exact hE_InvalidRows x436 _ _ _ hM hW.out (excR_sub (by intro a_ h_; simp [h_]) ex441)
            · skip
              intro x442 x443 cl444 d445 H446 hM er447 ex448
              replace h2 := rep_ext er447 h2
              replace h10 := rep_ext er447 h10
              replace h14 := rep_ext er447 h14
              replace h18 := rep_ext er447 h18
              replace h26 := rep_ext er447 h26
              replace h30 := rep_ext er447 h30
              replace h38 := rep_ext er447 h38
              replace h46 := rep_ext er447 h46
              replace h50 := rep_ext er447 h50
              replace h60 := rep_ext er447 h60
              replace h95 := rep_ext er447 h95
              replace h366 := rep_ext er447 h366
              replace h372 := rep_ext er447 h372
              replace h377 := rep_ext er447 h377
              replace h384 := rep_ext er447 h384
              replace h390 := rep_ext er447 h390
              replace h395 := rep_ext er447 h395
              replace h400 := rep_ext er447 h400
              replace h406 := rep_ext er447 h406
              replace hW := hW.ret0 er447
              exact hE_TooMany x442 x443 _ _ _ hM hW.out (excR_sub (by intro a_ h_; simp [h_]) ex448)
          · skip
            replace h2 := rep_ext e416 h2
            replace h10 := rep_ext e416 h10
            replace h14 := rep_ext e416 h14
            replace h18 := rep_ext e416 h18
            replace h26 := rep_ext e416 h26
            replace h30 := rep_ext e416 h30
            replace h38 := rep_ext e416 h38
            replace h46 := rep_ext e416 h46
            replace h50 := rep_ext e416 h50
            replace h60 := rep_ext e416 h60
            replace h95 := rep_ext e416 h95
            replace h366 := rep_ext e416 h366
            replace h372 := rep_ext e416 h372
            replace h377 := rep_ext e416 h377
            replace h384 := rep_ext e416 h384
            replace h390 := rep_ext e416 h390
            replace h395 := rep_ext e416 h395
            replace h400 := rep_ext e416 h400
            replace h406 := rep_ext e416 h406
            replace hW := hW.ret0 e416
            obtain rfl := of_v h415
            refine ⟨_, rfl, ?_⟩
            refine ite3 hM (fun hM => ?_) (fun hM => ?_)
            · skip
              try rw [z96]
              try rw [z380]
              try rw [z410]
              exact hQ false _ _ hM hW.out rep_v
            · skip
              try rw [z96]
              try rw [z380]
              try rw [z410]
              refine ⟨hW.pot (A.t_is_form_right, some ((("_law_is_form_right" : Str) ++ (".<locals>." : Str)) ++ ("<lambda>" : Str))) (List.mem_cons_of_mem _ (tm_is_form_right A)), _, rfl, fun H450 e451_ t452 => ?_⟩
              have e451 : Ret ((ap, none) :: A.tbs) H418 H450 := Ret.upN (sub1 (List.mem_cons_of_mem _ (tm_is_form_right A))) (tabN T.nd_tb (tm_is_form_right A)) hW (ret_tab (q := ((("_law_is_form_right" : Str) ++ (".<locals>." : Str)) ++ ("<lambda>" : Str))) e451_ t452)
              clear e451_ t452
              replace h2 := rep_ret hW e451 h2
              replace h10 := rep_ret hW e451 h10
              replace h14 := rep_ret hW e451 h14
              replace h18 := rep_ret hW e451 h18
              replace h26 := rep_ret hW e451 h26
              replace h30 := rep_ret hW e451 h30
              replace h38 := rep_ret hW e451 h38
              replace h46 := rep_ret hW e451 h46
              replace h50 := rep_ret hW e451 h50
              replace h60 := rep_ret hW e451 h60
              replace h95 := rep_ret hW e451 h95
              replace h366 := rep_ret hW e451 h366
              replace h372 := rep_ret hW e451 h372
              replace h377 := rep_ret hW e451 h377
              replace h384 := rep_ret hW e451 h384
              replace h390 := rep_ret hW e451 h390
              replace h395 := rep_ret hW e451 h395
              replace h400 := rep_ret hW e451 h400
              replace h406 := rep_ret hW e451 h406
              replace hW := hW.retP e451
              refine ⟨ms, _, x401, _, hW.enter0, h400, fun ms_l H458 E Q KN_ KE_InvalidFirst KE_InvalidValues KE_InvalidRows KE_TooMany hs_ el_ hWl_ hMl_ hQl_ hE_InvalidFirst hE_InvalidValues hE_InvalidRows hE_TooMany => ?_, hM, fun r453 u456 H457 hM e455 h454 => ?_⟩
              · skip
                replace h2 := rep_lam hs_ el_ h2
                replace h10 := rep_lam hs_ el_ h10
                replace h14 := rep_lam hs_ el_ h14
                replace h18 := rep_lam hs_ el_ h18
                replace h26 := rep_lam hs_ el_ h26
                replace h30 := rep_lam hs_ el_ h30
                replace h38 := rep_lam hs_ el_ h38
                replace h46 := rep_lam hs_ el_ h46
                replace h50 := rep_lam hs_ el_ h50
                replace h60 := rep_lam hs_ el_ h60
                replace h95 := rep_lam hs_ el_ h95
                replace h366 := rep_lam hs_ el_ h366
                replace h372 := rep_lam hs_ el_ h372
                replace h377 := rep_lam hs_ el_ h377
                replace h384 := rep_lam hs_ el_ h384
                replace h390 := rep_lam hs_ el_ h390
                replace h395 := rep_lam hs_ el_ h395
                replace h400 := rep_lam hs_ el_ h400
                replace h406 := rep_lam hs_ el_ h406
                clear hW hM
                have hW := hWl_; have hM := hMl_; have hQ := hQl_; clear hWl_ hMl_ hQl_
                refine ⟨_, rfl, ?_⟩
                refine ⟨_, rfl, ?_⟩
                refine ⟨_, rfl, ?_⟩
                refine ⟨rfl, rfl, ?_⟩
                refine make_Form_init (ms := ms_l) hW h10 h26 h46 hM (fun p459 H488 r462 hM e461 h460 => ?_) ?_ ?_ ?_ ?_
                · skip
                  replace h2 := rep_ext e461 h2
                  replace h10 := rep_ext e461 h10
                  replace h14 := rep_ext e461 h14
                  replace h18 := rep_ext e461 h18
                  replace h26 := rep_ext e461 h26
                  replace h30 := rep_ext e461 h30
                  replace h38 := rep_ext e461 h38
                  replace h46 := rep_ext e461 h46
                  replace h50 := rep_ext e461 h50
                  replace h60 := rep_ext e461 h60
                  replace h95 := rep_ext e461 h95
                  replace h366 := rep_ext e461 h366
                  replace h372 := rep_ext e461 h372
                  replace h377 := rep_ext e461 h377
                  replace h384 := rep_ext e461 h384
                  replace h390 := rep_ext e461 h390
                  replace h395 := rep_ext e461 h395
                  replace h400 := rep_ext e461 h400
                  replace h406 := rep_ext e461 h406
                  replace hW := hW.ret0 e461
                  exact hQ r462 _ _ hM hW.out h460
                · skip
                  intro x463 cl464 d465 H466 hM er467 ex468
                  replace h2 := rep_ext er467 h2
                  replace h10 := rep_ext er467 h10
                  replace h14 := rep_ext er467 h14
                  replace h18 := rep_ext er467 h18
                  replace h26 := rep_ext er467 h26
                  replace h30 := rep_ext er467 h30
                  replace h38 := rep_ext er467 h38
                  replace h46 := rep_ext er467 h46
                  replace h50 := rep_ext er467 h50
                  replace h60 := rep_ext er467 h60
                  replace h95 := rep_ext er467 h95
                  replace h366 := rep_ext er467 h366
                  replace h372 := rep_ext er467 h372
                  replace h377 := rep_ext er467 h377
                  replace h384 := rep_ext er467 h384
                  replace h390 := rep_ext er467 h390
                  replace h395 := rep_ext er467 h395
                  replace h400 := rep_ext er467 h400
                  replace h406 := rep_ext er467 h406
                  replace hW := hW.ret0 er467
                  exact hE_InvalidFirst x463 _ _ _ hM hW.out (excR_sub (by intro a_ h_; simp [h_]) ex468)
                · skip
                  intro x469 cl470 d471 H472 hM er473 ex474
                  replace h2 := rep_ext er473 h2
                  replace h10 := rep_ext er473 h10
                  replace h14 := rep_ext er473 h14
                  replace h18 := rep_ext er473 h18
                  replace h26 := rep_ext er473 h26
                  replace h30 := rep_ext er473 h30
                  replace h38 := rep_ext er473 h38
                  replace h46 := rep_ext er473 h46
                  replace h50 := rep_ext er473 h50
                  replace h60 := rep_ext er473 h60
                  replace h95 := rep_ext er473 h95
                  replace h366 := rep_ext er473 h366
                  replace h372 := rep_ext er473 h372
                  replace h377 := rep_ext er473 h377
                  replace h384 := rep_ext er473 h384
                  replace h390 := rep_ext er473 h390
                  replace h395 := rep_ext er473 h395
                  replace h400 := rep_ext er473 h400
                  replace h406 := rep_ext er473 h406
                  replace hW := hW.ret0 er473
                  exact hE_InvalidValues x469 _ _ _ hM hW.out (excR_sub (by intro a_ h_; simp [h_]) ex474)
                · skip
                  intro x475 cl476 d477 H478 hM er479 ex480
                  replace h2 := rep_ext er479 h2
                  replace h10 := rep_ext er479 h10
                  replace h14 := rep_ext er479 h14
                  replace h18 := rep_ext er479 h18
                  replace h26 := rep_ext er479 h26
                  replace h30 := rep_ext er479 h30
                  replace h38 := rep_ext er479 h38
                  replace h46 := rep_ext er479 h46
                  replace h50 := rep_ext er479 h50
                  replace h60 := rep_ext er479 h60
                  replace h95 := rep_ext er479 h95
                  replace h366 := rep_ext er479 h366
                  replace h372 := rep_ext er479 h372
                  replace h377 := rep_ext er479 h377
                  replace h384 := rep_ext er479 h384
                  replace h390 := rep_ext er479 h390
                  replace h395 := rep_ext er479 h395
                  replace h400 := rep_ext er479 h400
                  replace h406 := rep_ext er479 h406
                  replace hW := hW.ret0 er479
                  exact hE_InvalidRows x475 _ _ _ hM hW.out (excR_sub (by intro a_ h_; simp [h_]) ex480)
                · skip
                  intro x481 x482 cl483 d484 H485 hM er486 ex487
                  replace h2 := rep_ext er486 h2
                  replace h10 := rep_ext er486 h10
                  replace h14 := rep_ext er486 h14
                  replace h18 := rep_ext er486 h18
                  replace h26 := rep_ext er486 h26
                  replace h30 := rep_ext er486 h30
                  replace h38 := rep_ext er486 h38
                  replace h46 := rep_ext er486 h46
                  replace h50 := rep_ext er486 h50
                  replace h60 := rep_ext er486 h60
                  replace h95 := rep_ext er486 h95
                  replace h366 := rep_ext er486 h366
                  replace h372 := rep_ext er486 h372
                  replace h377 := rep_ext er486 h377
                  replace h384 := rep_ext er486 h384
                  replace h390 := rep_ext er486 h390
                  replace h395 := rep_ext er486 h395
                  replace h400 := rep_ext er486 h400
                  replace h406 := rep_ext er486 h406
                  replace hW := hW.ret0 er486
                  exact hE_TooMany x481 x482 _ _ _ hM hW.out (excR_sub (by intro a_ h_; simp [h_]) ex487)
              · skip
                replace h2 := rep_ext e455 h2
                replace h10 := rep_ext e455 h10
                replace h14 := rep_ext e455 h14
                replace h18 := rep_ext e455 h18
                replace h26 := rep_ext e455 h26
                replace h30 := rep_ext e455 h30
                replace h38 := rep_ext e455 h38
                replace h46 := rep_ext e455 h46
                replace h50 := rep_ext e455 h50
                replace h60 := rep_ext e455 h60
                replace h95 := rep_ext e455 h95
                replace h366 := rep_ext e455 h366
                replace h372 := rep_ext e455 h372
                replace h377 := rep_ext e455 h377
                replace h384 := rep_ext e455 h384
                replace h390 := rep_ext e455 h390
                replace h395 := rep_ext e455 h395
                replace h400 := rep_ext e455 h400
                replace h406 := rep_ext e455 h406
                replace hW := hW.ret0 e455
                obtain rfl := of_v h454
                refine ⟨_, rfl, ?_⟩
                refine ite3 hM (fun hM => ?_) (fun hM => ?_)
                · skip
                  refine ⟨_, rfl, ?_⟩
                  refine ⟨_, rfl, ?_⟩
                  refine ⟨_, rfl, ?_⟩
                  refine ⟨(by show 3 ≤ sizeLine; decide), ?_⟩
                  intro p489 n493
                  have e490 := Rx.Ext.new (H := H457) (o := (HO.lst [u8, u24, u44])) n493
                  have hp491 : upd H457 p489 (HO.lst [u8, u24, u44]) p489 = some (HO.lst [u8, u24, u44]) := upd_same
                  generalize upd H457 p489 (HO.lst [u8, u24, u44]) = H494 at e490 hp491 ⊢
                  have h492 : rep ms H494 (D.lst (([r1.1, r17.1, r37.1] : List D).map (fun y_ : D => y_))) (.ref p489) := rep_lst_mk hW n493 e490 hp491 (repL_cons h10 (repL_cons h26 (repL_cons h46 repL_nil)))
                  replace h2 := rep_ext e490 h2
                  replace h10 := rep_ext e490 h10
                  replace h14 := rep_ext e490 h14
                  replace h18 := rep_ext e490 h18
                  replace h26 := rep_ext e490 h26
                  replace h30 := rep_ext e490 h30
                  replace h38 := rep_ext e490 h38
                  replace h46 := rep_ext e490 h46
                  replace h50 := rep_ext e490 h50
                  replace h60 := rep_ext e490 h60
                  replace h95 := rep_ext e490 h95
                  replace h366 := rep_ext e490 h366
                  replace h372 := rep_ext e490 h372
                  replace h377 := rep_ext e490 h377
                  replace h384 := rep_ext e490 h384
                  replace h390 := rep_ext e490 h390
                  replace h395 := rep_ext e490 h395
                  replace h400 := rep_ext e490 h400
                  replace h406 := rep_ext e490 h406
                  replace hW := hW.ret0 e490
                  obtain ⟨g495, hM⟩ := hM
                  refine rep_reprY (d := (D.lst (([r1.1, r17.1, r37.1] : List D).map (fun y_ : D => y_)))) h492 g495 ?_
                  refine ⟨_, rfl, ?_⟩
                  refine ⟨rfl, ?_⟩
                  exact hQ (decide (V.str (pyX (D.lst (([r1.1, r17.1, r37.1] : List D).map (fun y_ : D => y_)))).shown = V.str (pyX (D.lst (([r1.1, r17.1, r37.1] : List D).map (fun y_ : D => y_)))).shown)) _ _ hM hW.out rep_v
                · skip
                  exact hQ false _ _ hM hW.out rep_v
        · skip
          try rw [z36]
          try rw [z56]
          try rw [z96]
          refine ⟨_, rfl, ?_⟩
          refine ⟨(by show 1 ≤ sizeLine; decide), ?_⟩
          intro p496 n500
          have e497 := Rx.Ext.new (H := H94) (o := (HO.lst [V.str ("taken" : Str)])) n500
          have hp498 : upd H94 p496 (HO.lst [V.str ("taken" : Str)]) p496 = some (HO.lst [V.str ("taken" : Str)]) := upd_same
          generalize upd H94 p496 (HO.lst [V.str ("taken" : Str)]) = H501 at e497 hp498 ⊢
          have h499 : rep ms H501 (D.lst (([(D.v (V.str ("taken" : Str)))] : List D).map (fun y_ : D => y_))) (.ref p496) := rep_lst_mk hW n500 e497 hp498 (repL_cons rep_v repL_nil)
          replace h2 := rep_ext e497 h2
          replace h10 := rep_ext e497 h10
          replace h14 := rep_ext e497 h14
          replace h18 := rep_ext e497 h18
          replace h26 := rep_ext e497 h26
          replace h30 := rep_ext e497 h30
          replace h38 := rep_ext e497 h38
          replace h46 := rep_ext e497 h46
          replace h50 := rep_ext e497 h50
          replace h60 := rep_ext e497 h60
          replace h95 := rep_ext e497 h95
          replace hW := hW.ret0 e497
          refine ⟨(by show 1 ≤ sizeLine; decide), ?_⟩
          intro p502 n506
          have e503 := Rx.Ext.new (H := H501) (o := (HO.lst [(V.ref p496)])) n506
          have hp504 : upd H501 p502 (HO.lst [(V.ref p496)]) p502 = some (HO.lst [(V.ref p496)]) := upd_same
          generalize upd H501 p502 (HO.lst [(V.ref p496)]) = H507 at e503 hp504 ⊢
          have h505 : rep ms H507 (D.lst (([([(D.v (V.str ("taken" : Str)))] : List D)] : List (List D)).map (fun y_ : (List D) => (D.lst (y_.map (fun y_ : D => y_)))))) (.ref p502) := rep_lst_mk hW n506 e503 hp504 (repL_cons h499 repL_nil)
          replace h2 := rep_ext e503 h2
          replace h10 := rep_ext e503 h10
          replace h14 := rep_ext e503 h14
          replace h18 := rep_ext e503 h18
          replace h26 := rep_ext e503 h26
          replace h30 := rep_ext e503 h30
          replace h38 := rep_ext e503 h38
          replace h46 := rep_ext e503 h46
          replace h50 := rep_ext e503 h50
          replace h60 := rep_ext e503 h60
          replace h95 := rep_ext e503 h95
          replace h499 := rep_ext e503 h499
          replace hW := hW.ret0 e503
          obtain ⟨g508, hM⟩ := hM
          apply rep_cat (xs := ys93) (ys := ([([(D.v (V.str ("taken" : Str)))] : List D)] : List (List D))) (e := (fun y_ : (List D) => (D.lst (y_.map (fun y_ : D => y_))))) hW h95 h505 g508
          intro p509 H512 e511 h510
          replace h2 := rep_ext e511 h2
          replace h10 := rep_ext e511 h10
          replace h14 := rep_ext e511 h14
          replace h18 := rep_ext e511 h18
          replace h26 := rep_ext e511 h26
          replace h30 := rep_ext e511 h30
          replace h38 := rep_ext e511 h38
          replace h46 := rep_ext e511 h46
          replace h50 := rep_ext e511 h50
          replace h60 := rep_ext e511 h60
          replace h95 := rep_ext e511 h95
          replace h499 := rep_ext e511 h499
          replace h505 := rep_ext e511 h505
          replace hW := hW.ret0 e511
          obtain ⟨g513, g514, hM⟩ := hM
          apply rep_ixL (e := (fun y_ : (List D) => (D.lst (y_.map (fun y_ : D => y_))))) (xs := (ys93 ++ ([([(D.v (V.str ("taken" : Str)))] : List D)] : List (List D)))) h510 g513 g514
          intro u517 h515
          obtain ⟨x516, x516e⟩ : ∃ x_, x_ = (ys93 ++ ([([(D.v (V.str ("taken" : Str)))] : List D)] : List (List D)))[Int.toNat (0 : Int)]'g514 := ⟨_, rfl⟩
          rw [← x516e] at h515
          replace hM := hM x516 x516e
          refine ⟨_, rfl, ?_⟩
          refine ⟨_, rfl, ?_⟩
          refine ⟨_, rfl, ?_⟩
          refine ⟨(by show 3 ≤ sizeLine; decide), ?_⟩
          intro p518 n522
          have e519 := Rx.Ext.new (H := H512) (o := (HO.lst [u8, u24, u44])) n522
          have hp520 : upd H512 p518 (HO.lst [u8, u24, u44]) p518 = some (HO.lst [u8, u24, u44]) := upd_same
          generalize upd H512 p518 (HO.lst [u8, u24, u44]) = H523 at e519 hp520 ⊢
          have h521 : rep ms H523 (D.lst (([r1.1, r17.1, r37.1] : List D).map (fun y_ : D => y_))) (.ref p518) := rep_lst_mk hW n522 e519 hp520 (repL_cons h10 (repL_cons h26 (repL_cons h46 repL_nil)))
          replace h2 := rep_ext e519 h2
          replace h10 := rep_ext e519 h10
          replace h14 := rep_ext e519 h14
          replace h18 := rep_ext e519 h18
          replace h26 := rep_ext e519 h26
          replace h30 := rep_ext e519 h30
          replace h38 := rep_ext e519 h38
          replace h46 := rep_ext e519 h46
          replace h50 := rep_ext e519 h50
          replace h60 := rep_ext e519 h60
          replace h95 := rep_ext e519 h95
          replace h499 := rep_ext e519 h499
          replace h505 := rep_ext e519 h505
          replace h510 := rep_ext e519 h510
          replace h515 := rep_ext e519 h515
          replace hW := hW.ret0 e519
          obtain ⟨g524, hM⟩ := hM
          refine rep_reprY (d := (D.lst (([r1.1, r17.1, r37.1] : List D).map (fun y_ : D => y_)))) h521 g524 ?_
          refine ⟨_, _, rfl, ?_⟩
          have z525 : (List.set (List.set ([some (V.ref ap), some (u8), some (u12), some (u24), some (u28), some (V.int r17.2.2), some (u44), some (u48), some (V.int r37.2.2), some ((V.ref L68)), none, none, none] : List (Option V)) 10 (some (u517))) 11 (some (V.str (pyX (D.lst (([r1.1, r17.1, r37.1] : List D).map (fun y_ : D => y_)))).shown))) = [some (V.ref ap), some (u8), some (u12), some (u24), some (u28), some (V.int r17.2.2), some (u44), some (u48), some (V.int r37.2.2), some ((V.ref L68)), some (u517), some (V.str (pyX (D.lst (([r1.1, r17.1, r37.1] : List D).map (fun y_ : D => y_)))).shown), none] := rfl
          try rw [z36]
          try rw [z56]
          try rw [z96]
          try rw [z525]
          clear z36
          refine ⟨hW.pot (A.t_is_form_right, some ((("_law_is_form_right" : Str) ++ (".<locals>." : Str)) ++ ("<lambda>" : Str))) (List.mem_cons_of_mem _ (tm_is_form_right A)), _, rfl, fun H526 e527_ t528 => ?_⟩
          have e527 : Ret ((ap, none) :: A.tbs) H523 H526 := Ret.upN (sub1 (List.mem_cons_of_mem _ (tm_is_form_right A))) (tabN T.nd_tb (tm_is_form_right A)) hW (ret_tab (q := ((("_law_is_form_right" : Str) ++ (".<locals>." : Str)) ++ ("<lambda>" : Str))) e527_ t528)
          clear e527_ t528
          replace h2 := rep_ret hW e527 h2
          replace h10 := rep_ret hW e527 h10
          replace h14 := rep_ret hW e527 h14
          replace h18 := rep_ret hW e527 h18
          replace h26 := rep_ret hW e527 h26
          replace h30 := rep_ret hW e527 h30
          replace h38 := rep_ret hW e527 h38
          replace h46 := rep_ret hW e527 h46
          replace h50 := rep_ret hW e527 h50
          replace h60 := rep_ret hW e527 h60
          replace h95 := rep_ret hW e527 h95
          replace h499 := rep_ret hW e527 h499
          replace h505 := rep_ret hW e527 h505
          replace h510 := rep_ret hW e527 h510
          replace h515 := rep_ret hW e527 h515
          replace h521 := rep_ret hW e527 h521
          replace hW := hW.retP e527
          refine ⟨ms, _, x516, _, hW.enter0, h515, fun ms_l H534 E Q KN_ KE_InvalidFirst KE_InvalidValues KE_InvalidRows KE_TooMany hs_ el_ hWl_ hMl_ hQl_ hE_InvalidFirst hE_InvalidValues hE_InvalidRows hE_TooMany => ?_, hM, fun r529 u532 H533 hM e531 h530 => ?_⟩
          · skip
            replace h2 := rep_lam hs_ el_ h2
            replace h10 := rep_lam hs_ el_ h10
            replace h14 := rep_lam hs_ el_ h14
            replace h18 := rep_lam hs_ el_ h18
            replace h26 := rep_lam hs_ el_ h26
            replace h30 := rep_lam hs_ el_ h30
            replace h38 := rep_lam hs_ el_ h38
            replace h46 := rep_lam hs_ el_ h46
            replace h50 := rep_lam hs_ el_ h50
            replace h60 := rep_lam hs_ el_ h60
            replace h95 := rep_lam hs_ el_ h95
            replace h499 := rep_lam hs_ el_ h499
            replace h505 := rep_lam hs_ el_ h505
            replace h510 := rep_lam hs_ el_ h510
            replace h515 := rep_lam hs_ el_ h515
            replace h521 := rep_lam hs_ el_ h521
            clear hW hM
            have hW := hWl_; have hM := hMl_; have hQ := hQl_; clear hWl_ hMl_ hQl_
            refine ⟨_, rfl, ?_⟩
            refine ⟨_, rfl, ?_⟩
            refine ⟨_, rfl, ?_⟩
            conv => whnf
            refine make_Form_init (ms := ms_l) hW h10 h26 h46 hM (fun p535 H564 r538 hM e537 h536 => ?_) ?_ ?_ ?_ ?_
            · skip
              replace h2 := rep_ext e537 h2
              replace h10 := rep_ext e537 h10
              replace h14 := rep_ext e537 h14
              replace h18 := rep_ext e537 h18
              replace h26 := rep_ext e537 h26
              replace h30 := rep_ext e537 h30
              replace h38 := rep_ext e537 h38
              replace h46 := rep_ext e537 h46
              replace h50 := rep_ext e537 h50
              replace h60 := rep_ext e537 h60
              replace h95 := rep_ext e537 h95
              replace h499 := rep_ext e537 h499
              replace h505 := rep_ext e537 h505
              replace h510 := rep_ext e537 h510
              replace h515 := rep_ext e537 h515
              replace h521 := rep_ext e537 h521
              replace hW := hW.ret0 e537
              exact hQ r538 _ _ hM hW.out h536
            · skip
              intro x539 cl540 d541 H542 hM er543 ex544
              replace h2 := rep_ext er543 h2
              replace h10 := rep_ext er543 h10
              replace h14 := rep_ext er543 h14
              replace h18 := rep_ext er543 h18
              replace h26 := rep_ext er543 h26
              replace h30 := rep_ext er543 h30
              replace h38 := rep_ext er543 h38
              replace h46 := rep_ext er543 h46
              replace h50 := rep_ext er543 h50
              replace h60 := rep_ext er543 h60
              replace h95 := rep_ext er543 h95
              replace h499 := rep_ext er543 h499
              replace h505 := rep_ext er543 h505
              replace h510 := rep_ext er543 h510
              replace h515 := rep_ext er543 h515
              replace h521 := rep_ext er543 h521
              replace hW := hW.ret0 er543
              exact hE_InvalidFirst x539 _ _ _ hM hW.out (excR_sub (by intro a_ h_; simp [h_]) ex544)
            · skip
              intro x545 cl546 d547 H548 hM er549 ex550
              replace h2 := rep_ext er549 h2
              replace h10 := rep_ext er549 h10
              replace h14 := rep_ext er549 h14
              replace h18 := rep_ext er549 h18
              replace h26 := rep_ext er549 h26
              replace h30 := rep_ext er549 h30
              replace h38 := rep_ext er549 h38
              replace h46 := rep_ext er549 h46
              replace h50 := rep_ext er549 h50
              replace h60 := rep_ext er549 h60
              replace h95 := rep_ext er549 h95
              replace h499 := rep_ext er549 h499
              replace h505 := rep_ext er549 h505
              replace h510 := rep_ext er549 h510
              replace h515 := rep_ext er549 h515
              replace h521 := rep_ext er549 h521
              replace hW := hW.ret0 er549
              exact hE_InvalidValues x545 _ _ _ hM hW.out (excR_sub (by intro a_ h_; simp [h_]) ex550)
            · skip
              intro x551 cl552 d553 H554 hM er555 ex556
              replace h2 := rep_ext er555 h2
              replace h10 := rep_ext er555 h10
              replace h14 := rep_ext er555 h14
              replace h18 := rep_ext er555 h18
              replace h26 := rep_ext er555 h26
              replace h30 := rep_ext er555 h30
              replace h38 := rep_ext er555 h38
              replace h46 := rep_ext er555 h46
              replace h50 := rep_ext er555 h50
              replace h60 := rep_ext er555 h60
              replace h95 := rep_ext er555 h95
              replace h499 := rep_ext er555 h499
              replace h505 := rep_ext er555 h505
              replace h510 := rep_ext er555 h510
              replace h515 := rep_ext er555 h515
              replace h521 := rep_ext er555 h521
              replace hW := hW.ret0 er555
              exact hE_InvalidRows x551 _ _ _ hM hW.out (excR_sub (by intro a_ h_; simp [h_]) ex556)
            · skip
              intro x557 x558 cl559 d560 H561 hM er562 ex563
              replace h2 := rep_ext er562 h2
              replace h10 := rep_ext er562 h10
              replace h14 := rep_ext er562 h14
              replace h18 := rep_ext er562 h18
              replace h26 := rep_ext er562 h26
              replace h30 := rep_ext er562 h30
              replace h38 := rep_ext er562 h38
              replace h46 := rep_ext er562 h46
              replace h50 := rep_ext er562 h50
              replace h60 := rep_ext er562 h60
              replace h95 := rep_ext er562 h95
              replace h499 := rep_ext er562 h499
              replace h505 := rep_ext er562 h505
              replace h510 := rep_ext er562 h510
              replace h515 := rep_ext er562 h515
              replace h521 := rep_ext er562 h521
              replace hW := hW.ret0 er562
              exact hE_TooMany x557 x558 _ _ _ hM hW.out (excR_sub (by intro a_ h_; simp [h_]) ex563)
          · skip
            replace h2 := rep_ext e531 h2
            replace h10 := rep_ext e531 h10
            replace h14 := rep_ext e531 h14
            replace h18 := rep_ext e531 h18
            replace h26 := rep_ext e531 h26
            replace h30 := rep_ext e531 h30
            replace h38 := rep_ext e531 h38
            replace h46 := rep_ext e531 h46
            replace h50 := rep_ext e531 h50
            replace h60 := rep_ext e531 h60
            replace h95 := rep_ext e531 h95
            replace h499 := rep_ext e531 h499
            replace h505 := rep_ext e531 h505
            replace h510 := rep_ext e531 h510
            replace h515 := rep_ext e531 h515
            replace h521 := rep_ext e531 h521
            replace hW := hW.ret0 e531
            obtain rfl := of_v h530
            refine ⟨_, rfl, ?_⟩
            refine ite3 hM (fun hM => ?_) (fun hM => ?_)
            · skip
              try rw [z56]
              try rw [z96]
              try rw [z525]
              exact hQ false _ _ hM hW.out rep_v
            · skip
              try rw [z56]
              try rw [z96]
              try rw [z525]
              refine ⟨hW.pot (A.t_is_form_right, some ((("_law_is_form_right" : Str) ++ (".<locals>." : Str)) ++ ("<lambda>" : Str))) (List.mem_cons_of_mem _ (tm_is_form_right A)), _, rfl, fun H565 e566_ t567 => ?_⟩
              have e566 : Ret ((ap, none) :: A.tbs) H533 H565 := Ret.upN (sub1 (List.mem_cons_of_mem _ (tm_is_form_right A))) (tabN T.nd_tb (tm_is_form_right A)) hW (ret_tab (q := ((("_law_is_form_right" : Str) ++ (".<locals>." : Str)) ++ ("<lambda>" : Str))) e566_ t567)
              clear e566_ t567
              replace h2 := rep_ret hW e566 h2
              replace h10 := rep_ret hW e566 h10
              replace h14 := rep_ret hW e566 h14
              replace h18 := rep_ret hW e566 h18
              replace h26 := rep_ret hW e566 h26
              replace h30 := rep_ret hW e566 h30
              replace h38 := rep_ret hW e566 h38
              replace h46 := rep_ret hW e566 h46
              replace h50 := rep_ret hW e566 h50
              replace h60 := rep_ret hW e566 h60
              replace h95 := rep_ret hW e566 h95
              replace h499 := rep_ret hW e566 h499
              replace h505 := rep_ret hW e566 h505
              replace h510 := rep_ret hW e566 h510
              replace h515 := rep_ret hW e566 h515
              replace h521 := rep_ret hW e566 h521
              replace hW := hW.retP e566
              refine ⟨ms, _, x516, _, hW.enter0, h515, fun ms_l H573 E Q KN_ KE_InvalidFirst KE_InvalidValues KE_InvalidRows KE_TooMany hs_ el_ hWl_ hMl_ hQl_ hE_InvalidFirst hE_InvalidValues hE_InvalidRows hE_TooMany => ?_, hM, fun r568 u571 H572 hM e570 h569 => ?_⟩
              · skip
                replace h2 := rep_lam hs_ el_ h2
                replace h10 := rep_lam hs_ el_ h10
                replace h14 := rep_lam hs_ el_ h14
                replace h18 := rep_lam hs_ el_ h18
                replace h26 := rep_lam hs_ el_ h26
                replace h30 := rep_lam hs_ el_ h30
                replace h38 := rep_lam hs_ el_ h38
                replace h46 := rep_lam hs_ el_ h46
                replace h50 := rep_lam hs_ el_ h50
                replace h60 := rep_lam hs_ el_ h60
                replace h95 := rep_lam hs_ el_ h95
                replace h499 := rep_lam hs_ el_ h499
                replace h505 := rep_lam hs_ el_ h505
                replace h510 := rep_lam hs_ el_ h510
                replace h515 := rep_lam hs_ el_ h515
                replace h521 := rep_lam hs_ el_ h521
                clear hW hM
                have hW := hWl_; have hM := hMl_; have hQ := hQl_; clear hWl_ hMl_ hQl_
                refine ⟨_, rfl, ?_⟩
                refine ⟨_, rfl, ?_⟩
                refine ⟨_, rfl, ?_⟩
                refine ⟨rfl, rfl, ?_⟩
                refine make_Form_init (ms := ms_l) hW h10 h26 h46 hM (fun p574 H603 r577 hM e576 h575 => ?_) ?_ ?_ ?_ ?_
                · skip
                  replace h2 := rep_ext e576 h2
                  replace h10 := rep_ext e576 h10
                  replace h14 := rep_ext e576 h14
                  replace h18 := rep_ext e576 h18
                  replace h26 := rep_ext e576 h26
                  replace h30 := rep_ext e576 h30
                  replace h38 := rep_ext e576 h38
                  replace h46 := rep_ext e576 h46
                  replace h50 := rep_ext e576 h50
                  replace h60 := rep_ext e576 h60
                  replace h95 := rep_ext e576 h95
                  replace h499 := rep_ext e576 h499
                  replace h505 := rep_ext e576 h505
                  replace h510 := rep_ext e576 h510
                  replace h515 := rep_ext e576 h515
                  replace h521 := rep_ext e576 h521
                  replace hW := hW.ret0 e576
                  exact hQ r577 _ _ hM hW.out h575
                · skip
                  intro x578 cl579 d580 H581 hM er582 ex583
                  replace h2 := rep_ext er582 h2
                  replace h10 := rep_ext er582 h10
                  replace h14 := rep_ext er582 h14
                  replace h18 := rep_ext er582 h18
                  replace h26 := rep_ext er582 h26
                  replace h30 := rep_ext er582 h30
                  replace h38 := rep_ext er582 h38
                  replace h46 := rep_ext er582 h46
                  replace h50 := rep_ext er582 h50
                  replace h60 := rep_ext er582 h60
                  replace h95 := rep_ext er582 h95
                  replace h499 := rep_ext er582 h499
                  replace h505 := rep_ext er582 h505
                  replace h510 := rep_ext er582 h510
                  replace h515 := rep_ext er582 h515
                  replace h521 := rep_ext er582 h521
                  replace hW := hW.ret0 er582
                  exact hE_InvalidFirst x578 _ _ _ hM hW.out (excR_sub (by intro a_ h_; simp [h_]) ex583)
                · skip
                  intro x584 cl585 d586 H587 hM er588 ex589
                  replace h2 := rep_ext er588 h2
                  replace h10 := rep_ext er588 h10
                  replace h14 := rep_ext er588 h14
                  replace h18 := rep_ext er588 h18
                  replace h26 := rep_ext er588 h26
                  replace h30 := rep_ext er588 h30
                  replace h38 := rep_ext er588 h38
                  replace h46 := rep_ext er588 h46
                  replace h50 := rep_ext er588 h50
                  replace h60 := rep_ext er588 h60
                  replace h95 := rep_ext er588 h95
                  replace h499 := rep_ext er588 h499
                  replace h505 := rep_ext er588 h505
                  replace h510 := rep_ext er588 h510
                  replace h515 := rep_ext er588 h515
                  replace h521 := rep_ext er588 h521
                  replace hW := hW.ret0 er588
                  exact hE_InvalidValues x584 _ _ _ hM hW.out (excR_sub (by intro a_ h_; simp [h_]) ex589)
                · skip
                  intro x590 cl591 d592 H593 hM er594 ex595
                  replace h2 := rep_ext er594 h2
                  replace h10 := rep_ext er594 h10
                  replace h14 := rep_ext er594 h14
                  replace h18 := rep_ext er594 h18
                  replace h26 := rep_ext er594 h26
                  replace h30 := rep_ext er594 h30
                  replace h38 := rep_ext er594 h38
                  replace h46 := rep_ext er594 h46
                  replace h50 := rep_ext er594 h50
                  replace h60 := rep_ext er594 h60
                  replace h95 := rep_ext er594 h95
                  replace h499 := rep_ext er594 h499
                  replace h505 := rep_ext er594 h505
                  replace h510 := rep_ext er594 h510
                  replace h515 := rep_ext er594 h515
                  replace h521 := rep_ext er594 h521
                  replace hW := hW.ret0 er594
                  exact hE_InvalidRows x590 _ _ _ hM hW.out (excR_sub (by intro a_ h_; simp [h_]) ex595)
                · skip
                  intro x596 x597 cl598 d599 H600 hM er601 ex602
                  replace h2 := rep_ext er601 h2
                  replace h10 := rep_ext er601 h10
                  replace h14 := rep_ext er601 h14
                  replace h18 := rep_ext er601 h18
                  replace h26 := rep_ext er601 h26
                  replace h30 := rep_ext er601 h30
                  replace h38 := rep_ext er601 h38
                  replace h46 := rep_ext er601 h46
                  replace h50 := rep_ext er601 h50
                  replace h60 := rep_ext er601 h60
                  replace h95 := rep_ext er601 h95
                  replace h499 := rep_ext er601 h499
                  replace h505 := rep_ext er601 h505
                  replace h510 := rep_ext er601 h510
                  replace h515 := rep_ext er601 h515
                  replace h521 := rep_ext er601 h521
                  replace hW := hW.ret0 er601
                  exact hE_TooMany x596 x597 _ _ _ hM hW.out (excR_sub (by intro a_ h_; simp [h_]) ex602)
              · skip
                replace h2 := rep_ext e570 h2
                replace h10 := rep_ext e570 h10
                replace h14 := rep_ext e570 h14
                replace h18 := rep_ext e570 h18
                replace h26 := rep_ext e570 h26
                replace h30 := rep_ext e570 h30
                replace h38 := rep_ext e570 h38
                replace h46 := rep_ext e570 h46
                replace h50 := rep_ext e570 h50
                replace h60 := rep_ext e570 h60
                replace h95 := rep_ext e570 h95
                replace h499 := rep_ext e570 h499
                replace h505 := rep_ext e570 h505
                replace h510 := rep_ext e570 h510
                replace h515 := rep_ext e570 h515
                replace h521 := rep_ext e570 h521
                replace hW := hW.ret0 e570
                obtain rfl := of_v h569
                refine ⟨_, rfl, ?_⟩
                refine ite3 hM (fun hM => ?_) (fun hM => ?_)
                · skip
                  refine ⟨_, rfl, ?_⟩
                  refine ⟨_, rfl, ?_⟩
                  refine ⟨_, rfl, ?_⟩
                  refine ⟨(by show 3 ≤ sizeLine; decide), ?_⟩
                  intro p604 n608
                  have e605 := Rx.Ext.new (H := H572) (o := (HO.lst [u8, u24, u44])) n608
                  have hp606 : upd H572 p604 (HO.lst [u8, u24, u44]) p604 = some (HO.lst [u8, u24, u44]) := upd_same
                  generalize upd H572 p604 (HO.lst [u8, u24, u44]) = H609 at e605 hp606 ⊢
                  have h607 : rep ms H609 (D.lst (([r1.1, r17.1, r37.1] : List D).map (fun y_ : D => y_))) (.ref p604) := rep_lst_mk hW n608 e605 hp606 (repL_cons h10 (repL_cons h26 (repL_cons h46 repL_nil)))
                  replace h2 := rep_ext e605 h2
                  replace h10 := rep_ext e605 h10
                  replace h14 := rep_ext e605 h14
                  replace h18 := rep_ext e605 h18
                  replace h26 := rep_ext e605 h26
                  replace h30 := rep_ext e605 h30
                  replace h38 := rep_ext e605 h38
                  replace h46 := rep_ext e605 h46
                  replace h50 := rep_ext e605 h50
                  replace h60 := rep_ext e605 h60
                  replace h95 := rep_ext e605 h95
                  replace h499 := rep_ext e605 h499
                  replace h505 := rep_ext e605 h505
                  replace h510 := rep_ext e605 h510
                  replace h515 := rep_ext e605 h515
                  replace h521 := rep_ext e605 h521
                  replace hW := hW.ret0 e605
                  obtain ⟨g610, hM⟩ := hM
                  refine rep_reprY (d := (D.lst (([r1.1, r17.1, r37.1] : List D).map (fun y_ : D => y_)))) h607 g610 ?_
                  refine ⟨_, rfl, ?_⟩
                  refine ⟨rfl, ?_⟩
                  exact hQ (decide (V.str (pyX (D.lst (([r1.1, r17.1, r37.1] : List D).map (fun y_ : D => y_)))).shown = V.str (pyX (D.lst (([r1.1, r17.1, r37.1] : List D).map (fun y_ : D => y_)))).shown)) _ _ hM hW.out rep_v
                · skip
                  exact hQ false _ _ hM hW.out rep_v
def M_checked (x_number : D) (KM : Int → Prop) (KE_InvalidNumber : D → Prop) : Prop :=
  (M_is_integer x_number fun r1 => (if (!r1) = true then (KE_InvalidNumber x_number) else (∃ y10 : Int, x_number = (D.v (V.int y10)) ∧ (KM y10))))
def sp_checked (A : Ad) : Sp := fun vs H Q E => ∃ (ms : List Addr) (v_number : V) (x_number : D) (KM : Int → Prop) (KE_InvalidNumber : D → Prop), vs = [v_number] ∧ Wd ms [] [] H H ∧ rep ms H x_number v_number ∧ M_checked x_number KM KE_InvalidNumber ∧ (∀ (r : Int) (u : V) (H1 : Hp), KM r → Ret [] H H1 → rep ms H1 (D.v (V.int r)) u → Q u H1) ∧ (∀ (e0_ : D) (cls : Value) (d : Option Addr) (H1 : Hp), KE_InvalidNumber e0_ → Ret [] H H1 → excR ms H1 A.c_InvalidNumber [("value" : Str)] [e0_] cls d → E cls d H1)
set_option maxHeartbeats 16000000 in
theorem ok_checked {P : Program} {w : World} {K : PySem.W.Frag} {mg : Str → Option Value} {base : Heap} {A : Ad} (T : Txt w K mg base A) : FnOk P w K mg base (L2.CX P w) 3 A.a_checked A.d_checked ["number"] (sp_checked A) := by
  refine T.F_checked.okX sc_checked (fun vs H Q E h => ?_) (fun cdv A_ outer s_ H_0 vs Q E hr h => ?_)
  · obtain ⟨ms, v_number, x_number, KM, KE_InvalidNumber, rfl, _⟩ := h
    rfl
  · obtain ⟨ms, v_number, x_number, KM, KE_InvalidNumber, rfl, hW, h_number, hM, hQ, hE_InvalidNumber⟩ := h
    unfold M_checked at hM
    refine ⟨_, (pss_cons (ps_if (pt_not (pt_val (pe_call (ok_is_integer T) (hr.mono (by decide)) (by rfl) T.g_is_integer T.F_is_integer.kp T.b_is_integer .nil pass0 (pa_cons (pv 0) pa_nil)))) (pss_one (ps_raise rfl (tkE rfl rfl rfl rfl) (pmk_oex T.ox_InvalidNumber T.ii_InvalidNumber T.ti_InvalidNumber (ok_InvalidNumber_init T) (hr.mono (by decide)) T.b_InvalidNumber_init .nil pass0 (by rfl) T.g_InvalidNumber (pa_cons (pv 0) pa_nil)))) pss_nil) (pss_one (ps_ret (pv 0)))), ?_⟩
    refine ⟨_, rfl, ?_⟩
    refine ⟨ms, _, x_number, _, rfl, hW.enter0, h_number, hM, fun r1 u4 H5 hM e3 h2 => ?_⟩
    replace h_number := rep_ext e3 h_number
    replace hW := hW.ret0 e3
    obtain rfl := of_v h2
    refine ⟨_, rfl, ?_⟩
    refine ite3 hM (fun hM => ?_) (fun hM => ?_)
    · skip
      refine ⟨_, rfl, ?_⟩
      refine exc_mk1 fun dx6 nd7 => ?_
      obtain ⟨er8, ex9⟩ := exc_out (n := "value") (dv := x_number) (C := A.c_InvalidNumber) hW h_number nd7
      exact hE_InvalidNumber x_number _ _ _ hM er8 (excR_sub (by intro a_ h_; simp [h_]) ex9)
    · skip
      obtain ⟨y10, hy11, hM⟩ := hM
      have hu12 : v_number = V.int y10 := of_v (rep_cast hy11 h_number)
      subst hu12
      refine ⟨_, rfl, ?_⟩
      exact hQ y10 _ _ hM hW.out rep_v
def M_is_integer_i (x_value : Int) (KM : Bool → Prop) : Prop :=
  (KM (!false))
def sp_is_integer_i (A : Ad) : Sp := fun vs H Q _ => ∃ (ms : List Addr) (x_value : Int) (KM : Bool → Prop), vs = [V.int x_value] ∧ Wd ms [] [] H H ∧ M_is_integer_i x_value KM ∧ ∀ (r : Bool) (u : V) (H1 : Hp), KM r → Ret [] H H1 → rep ms H1 (D.v (V.bl r)) u → Q u H1
set_option maxHeartbeats 16000000 in
theorem ok_is_integer_i {P : Program} {w : World} {K : PySem.W.Frag} {mg : Str → Option Value} {base : Heap} {A : Ad} (T : Txt w K mg base A) : FnOk P w K mg base CX0 1 A.a_is_integer A.d_is_integer ["value"] (sp_is_integer_i A) := by
  refine T.F_is_integer.ok sc_is_integer (fun vs H Q E h => ?_) (fun cdv A_ outer s_ H_0 vs Q E hr h => ?_)
  · obtain ⟨ms, x_value, KM, rfl, _⟩ := h
    rfl
  · obtain ⟨ms, x_value, KM, rfl, hW, hM, hQ⟩ := h
    unfold M_is_integer_i at hM
    refine ⟨_, (pss_one (ps_ret (pe_and (pe_callB (call_isiK (K := K) rfl) (by rfl) T.z_isinstance (by decide +kernel) (pa_cons (pv 0) (pa_cons (pe_bltn (v := .ty "int") (by rfl) T.z_int (by decide +kernel) rfl) pa_nil))) (pe_one (pe_not (pe_callB (call_isiK (K := K) rfl) (by rfl) T.z_isinstance (by decide +kernel) (pa_cons (pv 0) (pa_cons (pe_bltn (v := .ty "bool") (by rfl) T.z_bool (by decide +kernel) rfl) pa_nil)))))))), ?_⟩
    refine ⟨_, rfl, ?_⟩
    refine ⟨_, _, _, _, true, rfl, .ty _, .base (.int _), kit_ty (by decide +kernel), ?_⟩
    refine ⟨_, rfl, ?_⟩
    refine iteT ?_
    refine ⟨_, rfl, ?_⟩
    refine ⟨_, _, _, _, false, rfl, .ty _, .base (.int _), kit_ty (by decide +kernel), ?_⟩
    refine ⟨_, rfl, ?_⟩
    exact hQ (!false) _ _ hM hW.out rep_v
def M_is_count_i (x_value : Int) (KM : Bool → Prop) : Prop :=
  (M_is_integer_i x_value fun r1 => (if r1 = true then (KM (decide ((0 : Int) ≤ x_value))) else (KM false)))
def sp_is_count_i (A : Ad) : Sp := fun vs H Q _ => ∃ (ms : List Addr) (x_value : Int) (KM : Bool → Prop), vs = [V.int x_value] ∧ Wd ms [] [] H H ∧ M_is_count_i x_value KM ∧ ∀ (r : Bool) (u : V) (H1 : Hp), KM r → Ret [] H H1 → rep ms H1 (D.v (V.bl r)) u → Q u H1
set_option maxHeartbeats 16000000 in
theorem ok_is_count_i {P : Program} {w : World} {K : PySem.W.Frag} {mg : Str → Option Value} {base : Heap} {A : Ad} (T : Txt w K mg base A) : FnOk P w K mg base CX0 2 A.a_is_count A.d_is_count ["value"] (sp_is_count_i A) := by
  refine T.F_is_count.ok sc_is_count (fun vs H Q E h => ?_) (fun cdv A_ outer s_ H_0 vs Q E hr h => ?_)
  · obtain ⟨ms, x_value, KM, rfl, _⟩ := h
    rfl
  · obtain ⟨ms, x_value, KM, rfl, hW, hM, hQ⟩ := h
    unfold M_is_count_i at hM
    refine ⟨_, (pss_one (ps_ret (pe_and (pe_call (ok_is_integer_i T) (hr.mono (by decide)) (by rfl) T.g_is_integer T.F_is_integer.kp T.b_is_integer .nil pass0 (pa_cons (pv 0) pa_nil)) (pe_one (pe_cmpR op_ge (pv 0) pe_int (nomark _)))))), ?_⟩
    refine ⟨_, rfl, ?_⟩
    refine ⟨ms, x_value, _, rfl, hW.enter0, hM, fun r1 u4 H5 hM e3 h2 => ?_⟩
    replace hW := hW.ret0 e3
    obtain rfl := of_v h2
    refine ⟨_, rfl, ?_⟩
    refine ite3 hM (fun hM => ?_) (fun hM => ?_)
    · skip
      refine ⟨_, rfl, ?_⟩
      refine ⟨_, _, rfl, rfl, ?_⟩
      exact hQ (decide ((0 : Int) ≤ x_value)) _ _ hM hW.out rep_v
    · skip
      exact hQ false _ _ hM hW.out rep_v
def M_check_first_i (x_first : Int) (KM : Unit → Prop) : Prop :=
  (M_is_count_i x_first fun r1 => (if (!r1) = true then False else (KM ())))
def sp_check_first_i (A : Ad) : Sp := fun vs H Q _ => ∃ (ms : List Addr) (x_first : Int) (KM : Unit → Prop), vs = [V.int x_first] ∧ Wd ms [] [] H H ∧ M_check_first_i x_first KM ∧ ∀ (r : Unit) (u : V) (H1 : Hp), KM r → Ret [] H H1 → rep ms H1 (D.v V.non) u → Q u H1
set_option maxHeartbeats 16000000 in
theorem ok_check_first_i {P : Program} {w : World} {K : PySem.W.Frag} {mg : Str → Option Value} {base : Heap} {A : Ad} (T : Txt w K mg base A) : FnOk P w K mg base CX0 3 A.a_check_first A.d_check_first ["first"] (sp_check_first_i A) := by
  refine T.F_check_first.ok sc_check_first (fun vs H Q E h => ?_) (fun cdv A_ outer s_ H_0 vs Q E hr h => ?_)
  · obtain ⟨ms, x_first, KM, rfl, _⟩ := h
    rfl
  · obtain ⟨ms, x_first, KM, rfl, hW, hM, hQ⟩ := h
    unfold M_check_first_i at hM
    refine ⟨_, (pss_one (ps_if (pt_not (pt_val (pe_call (ok_is_count_i T) (hr.mono (by decide)) (by rfl) T.g_is_count T.F_is_count.kp T.b_is_count .nil pass0 (pa_cons (pv 0) pa_nil)))) (pss_one ps_never) pss_nil)), ?_⟩
    refine ⟨_, rfl, ?_⟩
    refine ⟨ms, x_first, _, rfl, hW.enter0, hM, fun r1 u4 H5 hM e3 h2 => ?_⟩
    replace hW := hW.ret0 e3
    obtain rfl := of_v h2
    refine ⟨_, rfl, ?_⟩
    refine ite3 hM (fun hM => ?_) (fun hM => ?_)
    · skip
      exact hM
    · skip
      exact hQ () _ _ hM hW.out rep_v
def M_is_list_li (x_value : (List Int)) (KM : Bool → Prop) : Prop :=
  (KM true)
def sp_is_list_li (A : Ad) : Sp := fun vs H Q _ => ∃ (ms : List Addr) (v_value : V) (x_value : (List Int)) (KM : Bool → Prop), vs = [v_value] ∧ Wd ms [] [] H H ∧ rep ms H (D.lst (x_value.map (fun y_ : Int => (D.v (V.int y_))))) v_value ∧ M_is_list_li x_value KM ∧ ∀ (r : Bool) (u : V) (H1 : Hp), KM r → Ret [] H H1 → rep ms H1 (D.v (V.bl r)) u → Q u H1
set_option maxHeartbeats 16000000 in
theorem ok_is_list_li {P : Program} {w : World} {K : PySem.W.Frag} {mg : Str → Option Value} {base : Heap} {A : Ad} (T : Txt w K mg base A) : FnOk P w K mg base CX0 1 A.a_is_list A.d_is_list ["value"] (sp_is_list_li A) := by
  refine T.F_is_list.ok sc_is_list (fun vs H Q E h => ?_) (fun cdv A_ outer s_ H_0 vs Q E hr h => ?_)
  · obtain ⟨ms, v_value, x_value, KM, rfl, _⟩ := h
    rfl
  · obtain ⟨ms, v_value, x_value, KM, rfl, hW, h_value, hM, hQ⟩ := h
    unfold M_is_list_li at hM
    refine ⟨_, (pss_one (ps_ret (pe_callB (call_isiTK (K := K) rfl) (by rfl) T.z_isinstance (by decide +kernel) (pa_cons (pv 0) (pa_cons (pe_tup (pa_cons (pe_bltn (v := .ty "list") (by rfl) T.z_list (by decide +kernel) rfl) (pa_cons (pe_bltn (v := .ty "tuple") (by rfl) T.z_tuple (by decide +kernel) rfl) pa_nil))) pa_nil))))), ?_⟩
    refine ⟨_, rfl, ?_⟩
    refine ⟨(by show 2 ≤ sizeLine; decide), ?_⟩
    intro p1 n2
    have e3 := Rx.Ext.new (H := H_0) (o := (HO.tup [V.ty "list", V.ty "tuple"])) n2
    have hp4 : upd H_0 p1 (HO.tup [V.ty "list", V.ty "tuple"]) p1 = some (HO.tup [V.ty "list", V.ty "tuple"]) := upd_same
    generalize upd H_0 p1 (HO.tup [V.ty "list", V.ty "tuple"]) = H5 at e3 hp4 ⊢
    replace h_value := rep_ext e3 h_value
    replace hW := hW.ret0 e3
    apply rep_isi2 (d := (D.lst (x_value.map (fun y_ : Int => (D.v (V.int y_)))))) (a := "list") (b := "list") (c := "tuple") (r1 := true) (r2 := false) h_value (by rfl) (by rfl) hp4 (by decide +kernel) (by decide +kernel)
    skip
    exact hQ true _ _ hM hW.out rep_v
def M_check_values_li (x_early : (List Int)) (KM : Unit → Prop) : Prop :=
  (M_is_list_li x_early fun r1 => (if (!r1) = true then False else (forC (fun (x11 : (Int × Int)) (s13 : Unit) (k14 : Unit → Prop) => (M_is_integer_i x11.2 fun r34 => (if (!r34) = true then False else (k14 ())))) ((rangeI 0 (x_early.length : Int)).zip x_early) () fun s39 => (KM ()))))
def sp_check_values_li (A : Ad) : Sp := fun vs H Q _ => ∃ (ms : List Addr) (v_early : V) (x_early : (List Int)) (KM : Unit → Prop), vs = [v_early] ∧ Wd ms [] [] H H ∧ rep ms H (D.lst (x_early.map (fun y_ : Int => (D.v (V.int y_))))) v_early ∧ M_check_values_li x_early KM ∧ ∀ (r : Unit) (u : V) (H1 : Hp), KM r → Ret [] H H1 → rep ms H1 (D.v V.non) u → Q u H1
set_option maxHeartbeats 16000000 in
theorem ok_check_values_li {P : Program} {w : World} {K : PySem.W.Frag} {mg : Str → Option Value} {base : Heap} {A : Ad} (T : Txt w K mg base A) : FnOk P w K mg base CX0 2 A.a_check_values A.d_check_values ["early"] (sp_check_values_li A) := by
  refine T.F_check_values.ok sc_check_values (fun vs H Q E h => ?_) (fun cdv A_ outer s_ H_0 vs Q E hr h => ?_)
  · obtain ⟨ms, v_early, x_early, KM, rfl, _⟩ := h
    rfl
  · obtain ⟨ms, v_early, x_early, KM, rfl, hW, h_early, hM, hQ⟩ := h
    unfold M_check_values_li at hM
    refine ⟨_, (pss_cons (ps_if (pt_not (pt_val (pe_call (ok_is_list_li T) (hr.mono (by decide)) (by rfl) T.g_is_list T.F_is_list.kp T.b_is_list .nil pass0 (pa_cons (pv 0) pa_nil)))) (pss_one ps_never) pss_nil) (pss_one (ps_for PassesOwn.never rfl (pi_enum (by rfl) T.z_enumerate (pa_cons (pv 0) pa_nil)) (pg_tup rfl (pgs_cons (pg_name (i := 1) sc_check_values.nd rfl (by first | exact Or.inl rfl | exact Or.inr rfl)) (pgs_cons (pg_name (i := 2) sc_check_values.nd rfl (by first | exact Or.inl rfl | exact Or.inr rfl)) pgs_nil))) (pss_one (ps_if (pt_not (pt_val (pe_call (ok_is_integer_i T) (hr.mono (by decide)) (by rfl) T.g_is_integer T.F_is_integer.kp T.b_is_integer .nil pass0 (pa_cons (pv 2) pa_nil)))) (pss_one ps_never) pss_nil))))), ?_⟩
    refine ⟨_, rfl, ?_⟩
    refine ⟨ms, _, x_early, _, rfl, hW.enter0, h_early, hM, fun r1 u4 H5 hM e3 h2 => ?_⟩
    replace h_early := rep_ext e3 h_early
    replace hW := hW.ret0 e3
    obtain rfl := of_v h2
    refine ⟨_, rfl, ?_⟩
    refine ite3 hM (fun hM => ?_) (fun hM => ?_)
    · skip
      exact hM
    · skip
      refine ⟨_, rfl, ?_⟩
      apply rep_iterE h_early
      intro a6 xs7 _ an8 hp9 hl10
      refine for_enumG (S := Unit) (items := x_early) (e := (fun y_ : Int => (D.v (V.int y_)))) (ms := ms) (fun (s : Unit) σ_ h_ => ∃ (w_0 : Option V), ∃ (w_1 : Option V), σ_ = [some v_early, w_0, w_1] ∧ Wd ms [] [] H_0 h_ ∧ Keep ms H5 h_) () an8 hp9 hl10 (fun _ _ _ z_ => by obtain ⟨_, _, _, _, q_⟩ := z_; exact q_) (fun _ _ _ z_ => by obtain ⟨_, _, _, w_, _⟩ := z_; exact w_.tr) hM ⟨_, _, rfl, hW, Keep.refl⟩ ?_ ?_
      · skip
        rintro x11 u12 s13 k14 _ H23 H22 ⟨w19, w20, rfl, hW, hk15⟩ ex21 h16 hM Nx17 hN18
        replace h_early := rep_keep hk15 h_early
        replace h_early := rep_ext ex21 h_early
        replace hk15 := keep_ext ex21 hk15
        replace hW := hW.ret0 ex21
        apply rep_gtup h16 rfl
        intro vs24 hv25
        obtain ⟨u26, us27, rfl, h28, hv29⟩ := repL_uncons hv25
        obtain rfl := of_v h28
        obtain ⟨u30, us31, rfl, h32, hv33⟩ := repL_uncons hv29
        obtain rfl := of_v h32
        obtain rfl := repL_empty hv33
        refine ⟨_, _, rfl, ?_⟩
        refine ⟨_, _, rfl, ?_⟩
        refine ⟨rfl, ?_⟩
        refine ⟨_, rfl, ?_⟩
        refine ⟨ms, x11.2, _, rfl, hW.enter0, hM, fun r34 u37 H38 hM e36 h35 => ?_⟩
        replace h_early := rep_ext e36 h_early
        replace hk15 := keep_ext e36 hk15
        replace h16 := rep_ext e36 h16
        replace hW := hW.ret0 e36
        obtain rfl := of_v h35
        refine ⟨_, rfl, ?_⟩
        refine ite3 hM (fun hM => ?_) (fun hM => ?_)
        · skip
          exact hM
        · skip
          exact hN18 () _ _ hM ⟨_, _, rfl, hW, hk15⟩
      · skip
        rintro s39 _ H43 hM ⟨w41, w42, rfl, hW, hk40⟩
        replace h_early := rep_keep hk40 h_early
        exact hQ () _ _ hM hW.out rep_v
def M_is_list_ltiii (x_value : (List (Int × Int × Int))) (KM : Bool → Prop) : Prop :=
  (KM true)
def sp_is_list_ltiii (A : Ad) : Sp := fun vs H Q _ => ∃ (ms : List Addr) (v_value : V) (x_value : (List (Int × Int × Int))) (KM : Bool → Prop), vs = [v_value] ∧ Wd ms [] [] H H ∧ rep ms H (D.lst (x_value.map (fun y_ : (Int × Int × Int) => (D.tup [(D.v (V.int y_.1)), (D.v (V.int y_.2.1)), (D.v (V.int y_.2.2))])))) v_value ∧ M_is_list_ltiii x_value KM ∧ ∀ (r : Bool) (u : V) (H1 : Hp), KM r → Ret [] H H1 → rep ms H1 (D.v (V.bl r)) u → Q u H1
set_option maxHeartbeats 16000000 in
theorem ok_is_list_ltiii {P : Program} {w : World} {K : PySem.W.Frag} {mg : Str → Option Value} {base : Heap} {A : Ad} (T : Txt w K mg base A) : FnOk P w K mg base CX0 1 A.a_is_list A.d_is_list ["value"] (sp_is_list_ltiii A) := by
  refine T.F_is_list.ok sc_is_list (fun vs H Q E h => ?_) (fun cdv A_ outer s_ H_0 vs Q E hr h => ?_)
  · obtain ⟨ms, v_value, x_value, KM, rfl, _⟩ := h
    rfl
  · obtain ⟨ms, v_value, x_value, KM, rfl, hW, h_value, hM, hQ⟩ := h
    unfold M_is_list_ltiii at hM
    refine ⟨_, (pss_one (ps_ret (pe_callB (call_isiTK (K := K) rfl) (by rfl) T.z_isinstance (by decide +kernel) (pa_cons (pv 0) (pa_cons (pe_tup (pa_cons (pe_bltn (v := .ty "list") (by rfl) T.z_list (by decide +kernel) rfl) (pa_cons (pe_bltn (v := .ty "tuple") (by rfl) T.z_tuple (by decide +kernel) rfl) pa_nil))) pa_nil))))), ?_⟩
    refine ⟨_, rfl, ?_⟩
    refine ⟨(by show 2 ≤ sizeLine; decide), ?_⟩
    intro p1 n2
    have e3 := Rx.Ext.new (H := H_0) (o := (HO.tup [V.ty "list", V.ty "tuple"])) n2
    have hp4 : upd H_0 p1 (HO.tup [V.ty "list", V.ty "tuple"]) p1 = some (HO.tup [V.ty "list", V.ty "tuple"]) := upd_same
    generalize upd H_0 p1 (HO.tup [V.ty "list", V.ty "tuple"]) = H5 at e3 hp4 ⊢
    replace h_value := rep_ext e3 h_value
    replace hW := hW.ret0 e3
    apply rep_isi2 (d := (D.lst (x_value.map (fun y_ : (Int × Int × Int) => (D.tup [(D.v (V.int y_.1)), (D.v (V.int y_.2.1)), (D.v (V.int y_.2.2))]))))) (a := "list") (b := "list") (c := "tuple") (r1 := true) (r2 := false) h_value (by rfl) (by rfl) hp4 (by decide +kernel) (by decide +kernel)
    skip
    exact hQ true _ _ hM hW.out rep_v
def M_is_row_tiii (x_value : (Int × Int × Int)) (KM : Bool → Prop) : Prop :=
  (if (decide (V.int (3 : Int) = V.int (3 : Int))) = true then (([x_value.1, x_value.2.1, x_value.2.2] : List Int).length < 100000 ∧ mapC (fun (x17 : Int) (k10 : Bool → Prop) => (M_is_integer_i x17 fun r23 => (k10 r23))) ([x_value.1, x_value.2.1, x_value.2.2] : List Int) [] fun ys33 => (KM (List.all ys33 id))) else (KM false))
def sp_is_row_tiii (A : Ad) : Sp := fun vs H Q _ => ∃ (ms : List Addr) (v_value : V) (x_value : (Int × Int × Int)) (KM : Bool → Prop), vs = [v_value] ∧ Wd ms [] [] H H ∧ rep ms H (D.tup [(D.v (V.int x_value.1)), (D.v (V.int x_value.2.1)), (D.v (V.int x_value.2.2))]) v_value ∧ M_is_row_tiii x_value KM ∧ ∀ (r : Bool) (u : V) (H1 : Hp), KM r → Ret [] H H1 → rep ms H1 (D.v (V.bl r)) u → Q u H1
set_option maxHeartbeats 16000000 in
theorem ok_is_row_tiii {P : Program} {w : World} {K : PySem.W.Frag} {mg : Str → Option Value} {base : Heap} {A : Ad} (T : Txt w K mg base A) : FnOk P w K mg base CX0 2 A.a_is_row A.d_is_row ["value"] (sp_is_row_tiii A) := by
  refine T.F_is_row.ok sc_is_row (fun vs H Q E h => ?_) (fun cdv A_ outer s_ H_0 vs Q E hr h => ?_)
  · obtain ⟨ms, v_value, x_value, KM, rfl, _⟩ := h
    rfl
  · obtain ⟨ms, v_value, x_value, KM, rfl, hW, h_value, hM, hQ⟩ := h
    unfold M_is_row_tiii at hM
    refine ⟨_, (pss_one (ps_ret (pe_and (pe_callB (call_isiK (K := K) rfl) (by rfl) T.z_isinstance (by decide +kernel) (pa_cons (pv 0) (pa_cons (pe_bltn (v := .ty "tuple") (by rfl) T.z_tuple (by decide +kernel) rfl) pa_nil))) (pe_and (pe_cmpR op_eq (pe_callB (call_lenK (K := K) rfl) (by rfl) T.z_len PySem.boot_len (pa_cons (pv 0) pa_nil)) pe_int (nomark _)) (pe_one (pe_callB (cr_allK (K := K) rfl rfl) (by rfl) T.z_all (by decide +kernel) (pa_cons (pe_lc (own := [("part", 1)]) (g := gName 1) rfl sc_is_row.nd (pi_tup (pv 0)) (blkOk_by (N := ["value", "part"]) (sc := defScope s_is_row) (by decide +kernel)) (fun _ _ _ _ _ => pg_name (i := 1) sc_is_row.nd rfl (by first | exact Or.inl rfl | exact Or.inr rfl)) (fun _ _ _ _ _ => pts_nil) (fun _ _ _ _ _ => (pe_call (ok_is_integer_i T) (hr.mono (by decide)) (by rfl) T.g_is_integer T.F_is_integer.kp T.b_is_integer .nil pass0 (pa_cons (pv 1) pa_nil)))) pa_nil))))))), ?_⟩
    refine ⟨_, rfl, ?_⟩
    apply rep_isi1 (d := (D.tup [(D.v (V.int x_value.1)), (D.v (V.int x_value.2.1)), (D.v (V.int x_value.2.2))])) (a := "tuple") (b := "tuple") (r := true) h_value (by rfl) (by rfl) (by decide +kernel)
    refine ⟨_, rfl, ?_⟩
    refine iteT ?_
    refine ⟨_, rfl, ?_⟩
    apply rep_lenT (n := 3) h_value rfl
    refine ⟨rfl, ?_⟩
    refine ⟨_, rfl, ?_⟩
    refine ite3 hM (fun hM => ?_) (fun hM => ?_)
    · skip
      refine ⟨_, rfl, ?_⟩
      apply rep_iterT h_value
      intro a1 xs2 _ an3 hp4 hl5
      refine fun L6 nl7 => ?_
      have nm21 := nm_new hW nl7
      refine lc_tupG (L := L6) (fun n_ ys_ h_ => Wd (L6 :: ms) [] [] H_0 h_ ∧ Keep (L6 :: ms) H_0 h_ ∧ MutO (L6 :: ms) [] H_0 h_ L6 (D.lst (ys_.map (fun y_ : Bool => (D.v (V.bl y_))))) ∧ ys_.length ≤ n_) (items := ([x_value.1, x_value.2.1, x_value.2.2] : List Int)) (e := (fun y_ : Int => (D.v (V.int y_)))) an3 hp4 hl5 nl7 (fun _ _ _ q_ => q_.2.1) hM ⟨wd_cell hW nl7, keep_cell nl7 Keep.refl, mo_newL (ds := []) hW nl7 repL_nil, Nat.le_refl _⟩ ?_ ?_
      · skip
        rintro x17 u18 n8 ys9 k10 H22 hn ⟨hW, hk11, mu12, ln13⟩ h19 hM Nx16 hN14
        replace h_value := rep_keep hk11 (rep_new nl7 h_value)
        obtain rfl := of_v h19
        refine ⟨rfl, ?_⟩
        refine tyes_of ?_
        refine ⟨_, rfl, ?_⟩
        refine ⟨(L6 :: ms), x17, _, rfl, hW.enter0, hM, fun r23 u26 H27 hM e25 h24 => ?_⟩
        replace h_value := rep_ext e25 h_value
        replace hk11 := keep_ext e25 hk11
        replace mu12 := mo_ext e25 mu12
        replace hW := hW.ret0 e25
        obtain rfl := of_v h24
        refine mo_end mu12 hn (by rw [List.length_map]; exact ln13) fun vs28 hr29 => ?_
        have mk31 := mo_setL mu12 (repL_snoc (e := (fun y_ : Bool => (D.v (V.bl y_)))) (xs := ys9) (y := r23) hr29 rep_v)
        replace h_value := rep_put (o := .lst (vs28 ++ [V.bl r23])) mu12.im h_value
        replace hk11 := keep_put (o := .lst (vs28 ++ [V.bl r23])) mu12.im hk11
        replace hW := wd_put (o := .lst (vs28 ++ [V.bl r23])) hW mu12
        replace mu12 := mk31
        generalize upd H27 L6 (.lst (vs28 ++ [V.bl r23])) = H32 at *
        replace mu12 : MutO (L6 :: ms) [] H_0 H32 L6 (D.lst ((ys9 ++ [r23]).map (fun y_ : Bool => (D.v (V.bl y_))))) := mu12
        clear mk31
        exact hN14 r23 _ hM ⟨hW, hk11, mu12, by rw [List.length_append]; exact Nat.add_le_add_right ln13 1⟩
      · skip
        rintro n8 ys33 H34 hM ⟨hW, hk11, mu12, ln13⟩
        replace h_value := rep_keep hk11 (rep_new nl7 h_value)
        clear hk11 ln13
        have h35 := mo_rep_dr dr_here nm21 mu12
        replace hW := wd_dr dr_here mu12.hp hW
        replace h_value := rep_dr dr_here h_value
        clear mu12
        apply rep_all h35
        exact hQ (List.all ys33 id) _ _ hM hW.out rep_v
    · skip
      exact hQ false _ _ hM hW.out rep_v
def M_check_rows_ltiii (x_rows : (List (Int × Int × Int))) (KM : Unit → Prop) : Prop :=
  (M_is_list_ltiii x_rows fun r1 => (if (!r1) = true then False else (if (decide (V.int (x_rows.length : Int) = V.int (0 : Int))) = true then False else (forC (fun (x11 : (Int × (Int × Int × Int))) (s13 : Unit) (k14 : Unit → Prop) => (M_is_row_tiii x11.2 fun r34 => (if (!r34) = true then False else (k14 ())))) ((rangeI 0 (x_rows.length : Int)).zip x_rows) () fun s39 => (KM ())))))
def sp_check_rows_ltiii (A : Ad) : Sp := fun vs H Q _ => ∃ (ms : List Addr) (v_rows : V) (x_rows : (List (Int × Int × Int))) (KM : Unit → Prop), vs = [v_rows] ∧ Wd ms [] [] H H ∧ rep ms H (D.lst (x_rows.map (fun y_ : (Int × Int × Int) => (D.tup [(D.v (V.int y_.1)), (D.v (V.int y_.2.1)), (D.v (V.int y_.2.2))])))) v_rows ∧ M_check_rows_ltiii x_rows KM ∧ ∀ (r : Unit) (u : V) (H1 : Hp), KM r → Ret [] H H1 → rep ms H1 (D.v V.non) u → Q u H1
set_option maxHeartbeats 16000000 in
theorem ok_check_rows_ltiii {P : Program} {w : World} {K : PySem.W.Frag} {mg : Str → Option Value} {base : Heap} {A : Ad} (T : Txt w K mg base A) : FnOk P w K mg base CX0 3 A.a_check_rows A.d_check_rows ["rows"] (sp_check_rows_ltiii A) := by
  refine T.F_check_rows.ok sc_check_rows (fun vs H Q E h => ?_) (fun cdv A_ outer s_ H_0 vs Q E hr h => ?_)
  · obtain ⟨ms, v_rows, x_rows, KM, rfl, _⟩ := h
    rfl
  · obtain ⟨ms, v_rows, x_rows, KM, rfl, hW, h_rows, hM, hQ⟩ := h
    unfold M_check_rows_ltiii at hM
    refine ⟨_, (pss_cons (ps_if (PW.pt (pw_or (pt_not (pt_val (pe_call (ok_is_list_ltiii T) (hr.mono (by decide)) (by rfl) T.g_is_list T.F_is_list.kp T.b_is_list .nil pass0 (pa_cons (pv 0) pa_nil)))) (pw_or1 (pt_cmpR op_eq (pe_callB (call_lenK (K := K) rfl) (by rfl) T.z_len PySem.boot_len (pa_cons (pv 0) pa_nil)) pe_int (nomark _))))) (pss_one ps_never) pss_nil) (pss_one (ps_for PassesOwn.never rfl (pi_enum (by rfl) T.z_enumerate (pa_cons (pv 0) pa_nil)) (pg_tup rfl (pgs_cons (pg_name (i := 1) sc_check_rows.nd rfl (by first | exact Or.inl rfl | exact Or.inr rfl)) (pgs_cons (pg_name (i := 2) sc_check_rows.nd rfl (by first | exact Or.inl rfl | exact Or.inr rfl)) pgs_nil))) (pss_one (ps_if (pt_not (pt_val (pe_call (ok_is_row_tiii T) (hr.mono (by decide)) (by rfl) T.g_is_row T.F_is_row.kp T.b_is_row .nil pass0 (pa_cons (pv 2) pa_nil)))) (pss_one ps_never) pss_nil))))), ?_⟩
    refine ⟨_, rfl, ?_⟩
    refine ⟨ms, _, x_rows, _, rfl, hW.enter0, h_rows, hM, fun r1 u4 H5 hM e3 h2 => ?_⟩
    replace h_rows := rep_ext e3 h_rows
    replace hW := hW.ret0 e3
    obtain rfl := of_v h2
    refine ⟨_, rfl, ?_⟩
    refine ite3 hM (fun hM => ?_) (fun hM => ?_)
    · skip
      refine iteT ?_
      exact hM
    · skip
      refine ⟨_, rfl, ?_⟩
      apply rep_lenL (e := (fun y_ : (Int × Int × Int) => (D.tup [(D.v (V.int y_.1)), (D.v (V.int y_.2.1)), (D.v (V.int y_.2.2))]))) (xs := x_rows) h_rows
      refine ⟨rfl, ?_⟩
      refine ⟨_, rfl, ?_⟩
      refine ite3 hM (fun hM => ?_) (fun hM => ?_)
      · skip
        exact hM
      · skip
        refine ⟨_, rfl, ?_⟩
        apply rep_iterE h_rows
        intro a6 xs7 _ an8 hp9 hl10
        refine for_enumG (S := Unit) (items := x_rows) (e := (fun y_ : (Int × Int × Int) => (D.tup [(D.v (V.int y_.1)), (D.v (V.int y_.2.1)), (D.v (V.int y_.2.2))]))) (ms := ms) (fun (s : Unit) σ_ h_ => ∃ (w_0 : Option V), ∃ (w_1 : Option V), σ_ = [some v_rows, w_0, w_1] ∧ Wd ms [] [] H_0 h_ ∧ Keep ms H5 h_) () an8 hp9 hl10 (fun _ _ _ z_ => by obtain ⟨_, _, _, _, q_⟩ := z_; exact q_) (fun _ _ _ z_ => by obtain ⟨_, _, _, w_, _⟩ := z_; exact w_.tr) hM ⟨_, _, rfl, hW, Keep.refl⟩ ?_ ?_
        · skip
          rintro x11 u12 s13 k14 _ H23 H22 ⟨w19, w20, rfl, hW, hk15⟩ ex21 h16 hM Nx17 hN18
          replace h_rows := rep_keep hk15 h_rows
          replace h_rows := rep_ext ex21 h_rows
          replace hk15 := keep_ext ex21 hk15
          replace hW := hW.ret0 ex21
          apply rep_gtup h16 rfl
          intro vs24 hv25
          obtain ⟨u26, us27, rfl, h28, hv29⟩ := repL_uncons hv25
          obtain rfl := of_v h28
          obtain ⟨u30, us31, rfl, h32, hv33⟩ := repL_uncons hv29
          obtain rfl := repL_empty hv33
          refine ⟨_, _, rfl, ?_⟩
          refine ⟨_, _, rfl, ?_⟩
          refine ⟨rfl, ?_⟩
          refine ⟨_, rfl, ?_⟩
          refine ⟨ms, _, x11.2, _, rfl, hW.enter0, h32, hM, fun r34 u37 H38 hM e36 h35 => ?_⟩
          replace h_rows := rep_ext e36 h_rows
          replace hk15 := keep_ext e36 hk15
          replace h16 := rep_ext e36 h16
          replace h32 := rep_ext e36 h32
          replace hW := hW.ret0 e36
          obtain rfl := of_v h35
          refine ⟨_, rfl, ?_⟩
          refine ite3 hM (fun hM => ?_) (fun hM => ?_)
          · skip
            exact hM
          · skip
            exact hN18 () _ _ hM ⟨_, _, rfl, hW, hk15⟩
        · skip
          rintro s39 _ H43 hM ⟨w41, w42, rfl, hW, hk40⟩
          replace h_rows := rep_keep hk40 h_rows
          exact hQ () _ _ hM hW.out rep_v
def M_check_parts_ililtiii (x_first : Int) (x_early : (List Int)) (x_rows : (List (Int × Int × Int))) (KM : Unit → Prop) : Prop :=
  (M_check_first_i x_first fun r1 => (M_check_values_li x_early fun r6 => (M_check_rows_ltiii x_rows fun r11 => (if (decide ((200 : Int) < (x_early.length : Int))) = true then False else (if (decide ((24 : Int) < (x_rows.length : Int))) = true then False else (KM ()))))))
def sp_check_parts_ililtiii (A : Ad) : Sp := fun vs H Q _ => ∃ (ms : List Addr) (v_early : V) (v_rows : V) (x_first : Int) (x_early : (List Int)) (x_rows : (List (Int × Int × Int))) (KM : Unit → Prop), vs = [V.int x_first, v_early, v_rows] ∧ Wd ms [] [] H H ∧ rep ms H (D.lst (x_early.map (fun y_ : Int => (D.v (V.int y_))))) v_early ∧ rep ms H (D.lst (x_rows.map (fun y_ : (Int × Int × Int) => (D.tup [(D.v (V.int y_.1)), (D.v (V.int y_.2.1)), (D.v (V.int y_.2.2))])))) v_rows ∧ M_check_parts_ililtiii x_first x_early x_rows KM ∧ ∀ (r : Unit) (u : V) (H1 : Hp), KM r → Ret [] H H1 → rep ms H1 (D.v V.non) u → Q u H1
set_option maxHeartbeats 16000000 in
theorem ok_check_parts_ililtiii {P : Program} {w : World} {K : PySem.W.Frag} {mg : Str → Option Value} {base : Heap} {A : Ad} (T : Txt w K mg base A) : FnOk P w K mg base CX0 4 A.a_check_parts A.d_check_parts ["first", "early", "rows"] (sp_check_parts_ililtiii A) := by
  refine T.F_check_parts.ok sc_check_parts (fun vs H Q E h => ?_) (fun cdv A_ outer s_ H_0 vs Q E hr h => ?_)
  · obtain ⟨ms, v_early, v_rows, x_first, x_early, x_rows, KM, rfl, _⟩ := h
    rfl
  · obtain ⟨ms, v_early, v_rows, x_first, x_early, x_rows, KM, rfl, hW, h_early, h_rows, hM, hQ⟩ := h
    unfold M_check_parts_ililtiii at hM
    refine ⟨_, (pss_cons (ps_expr (pe_call (ok_check_first_i T) (hr.mono (by decide)) (by rfl) T.g_check_first T.F_check_first.kp T.b_check_first .nil pass0 (pa_cons (pv 0) pa_nil))) (pss_cons (ps_expr (pe_call (ok_check_values_li T) (hr.mono (by decide)) (by rfl) T.g_check_values T.F_check_values.kp T.b_check_values .nil pass0 (pa_cons (pv 1) pa_nil))) (pss_cons (ps_expr (pe_call (ok_check_rows_ltiii T) (hr.mono (by decide)) (by rfl) T.g_check_rows T.F_check_rows.kp T.b_check_rows .nil pass0 (pa_cons (pv 2) pa_nil))) (pss_cons (ps_if (pt_cmpR op_gt (pe_callB (call_lenK (K := K) rfl) (by rfl) T.z_len PySem.boot_len (pa_cons (pv 1) pa_nil)) (C8.pe_gc (by rfl) T.c_MOST_VALUES) (nomark _)) (pss_one ps_never) pss_nil) (pss_one (ps_if (pt_cmpR op_gt (pe_callB (call_lenK (K := K) rfl) (by rfl) T.z_len PySem.boot_len (pa_cons (pv 2) pa_nil)) (C8.pe_gc (by rfl) T.c_MOST_ROWS) (nomark _)) (pss_one ps_never) pss_nil)))))), ?_⟩
    refine ⟨_, rfl, ?_⟩
    refine ⟨ms, x_first, _, rfl, hW.enter0, hM, fun r1 u4 H5 hM e3 h2 => ?_⟩
    replace h_early := rep_ext e3 h_early
    replace h_rows := rep_ext e3 h_rows
    replace hW := hW.ret0 e3
    obtain rfl := of_v h2
    refine ⟨_, rfl, ?_⟩
    refine ⟨ms, _, x_early, _, rfl, hW.enter0, h_early, hM, fun r6 u9 H10 hM e8 h7 => ?_⟩
    replace h_early := rep_ext e8 h_early
    replace h_rows := rep_ext e8 h_rows
    replace hW := hW.ret0 e8
    obtain rfl := of_v h7
    refine ⟨_, rfl, ?_⟩
    refine ⟨ms, _, x_rows, _, rfl, hW.enter0, h_rows, hM, fun r11 u14 H15 hM e13 h12 => ?_⟩
    replace h_early := rep_ext e13 h_early
    replace h_rows := rep_ext e13 h_rows
    replace hW := hW.ret0 e13
    obtain rfl := of_v h12
    refine ⟨_, rfl, ?_⟩
    apply rep_lenL (e := (fun y_ : Int => (D.v (V.int y_)))) (xs := x_early) h_early
    refine ⟨_, _, rfl, rfl, ?_⟩
    refine ⟨_, rfl, ?_⟩
    refine ite3 hM (fun hM => ?_) (fun hM => ?_)
    · skip
      exact hM
    · skip
      refine ⟨_, rfl, ?_⟩
      apply rep_lenL (e := (fun y_ : (Int × Int × Int) => (D.tup [(D.v (V.int y_.1)), (D.v (V.int y_.2.1)), (D.v (V.int y_.2.2))]))) (xs := x_rows) h_rows
      refine ⟨_, _, rfl, rfl, ?_⟩
      refine ⟨_, rfl, ?_⟩
      refine ite3 hM (fun hM => ?_) (fun hM => ?_)
      · skip
        exact hM
      · skip
        exact hQ () _ _ hM hW.out rep_v
def M_Form_init_nililtiii (x_first : Int) (x_early : (List Int)) (x_rows : (List (Int × Int × Int))) (KM : (Int × List Int × List (Int × Int × Int)) → Prop) : Prop :=
  (M_check_parts_ililtiii x_first x_early x_rows fun r1 => (x_rows.length < 100000 ∧ mapC (fun (x35 : (Int × Int × Int)) (k28 : (Int × Int × Int) → Prop) => (k28 x35)) x_rows [] fun ys49 => (KM (x_first, x_early, ys49))))
def sp_Form_init_nililtiii (A : Ad) : Sp := fun vs H Q _ => ∃ (ms : List Addr) (p_ dx_ : Addr) (v_early : V) (v_rows : V) (x_first : Int) (x_early : (List Int)) (x_rows : (List (Int × Int × Int))) (KM : (Int × List Int × List (Int × Int × Int)) → Prop), vs = [.ref p_, V.int x_first, v_early, v_rows] ∧ Wd ms [] [] H H ∧ p_ ∈ ms ∧ H p_ = some (.ins A.c_Form dx_ []) ∧ rep ms H (D.lst (x_early.map (fun y_ : Int => (D.v (V.int y_))))) v_early ∧ rep ms H (D.lst (x_rows.map (fun y_ : (Int × Int × Int) => (D.tup [(D.v (V.int y_.1)), (D.v (V.int y_.2.1)), (D.v (V.int y_.2.2))])))) v_rows ∧ M_Form_init_nililtiii x_first x_early x_rows KM ∧ ∀ (r : (Int × List Int × List (Int × Int × Int))) (us : List V) (H1 : Hp), KM r → KpI p_ H H1 → H1 p_ = some (.ins A.c_Form dx_ (List.zip ns_Form us)) → ns_Form.length = us.length → repL ms H1 [(D.v (V.int r.1)), (D.lst (r.2.1.map (fun y_ : Int => (D.v (V.int y_))))), (D.lst (r.2.2.map (fun y_ : (Int × Int × Int) => (D.tup [(D.v (V.int y_.1)), (D.v (V.int y_.2.1)), (D.v (V.int y_.2.2))]))))] us → Q .non H1
set_option maxHeartbeats 16000000 in
theorem ok_Form_init_nililtiii {P : Program} {w : World} {K : PySem.W.Frag} {mg : Str → Option Value} {base : Heap} {A : Ad} (T : Txt w K mg base A) : FnOk P w K mg base CX0 5 A.a_Form_init A.d_Form_init ["self", "first", "early", "rows"] (sp_Form_init_nililtiii A) := by
  refine T.F_Form_init.ok sc_Form_init (fun vs H Q E h => ?_) (fun cdv A_ outer s_ H_0 vs Q E hr h => ?_)
  · obtain ⟨ms, p_, dx_, v_early, v_rows, x_first, x_early, x_rows, KM, rfl, _⟩ := h
    rfl
  · obtain ⟨ms, p_, dx_, v_early, v_rows, x_first, x_early, x_rows, KM, rfl, hW, pm_, hp, h_early, h_rows, hM, hQ⟩ := h
    unfold M_Form_init_nililtiii at hM
    have hK := ki_refl (p := p_) (H := H_0)
    replace hp : H_0 p_ = some (.ins A.c_Form dx_ (List.zip ([] : List Str) ([] : List V))) := hp
    refine ⟨_, (pss_one (ps_if (PW.pt (pw_and (pt_val (pe_callB (call_isiK (K := K) rfl) (by rfl) T.z_isinstance (by decide +kernel) (pa_cons (pv 2) (pa_cons (pe_glob (v := .ref A.c_Reckoned) (by rfl) T.g_Reckoned rfl) pa_nil)))) (pw_and1 (pt_val (pe_callB (call_isiK (K := K) rfl) (by rfl) T.z_isinstance (by decide +kernel) (pa_cons (pv 3) (pa_cons (pe_glob (v := .ref A.c_Reckoned) (by rfl) T.g_Reckoned rfl) pa_nil))))))) (pss_cons ps_never (pss_cons ps_never (pss_one ps_never))) (pss_cons (ps_expr (pe_call (ok_check_parts_ililtiii T) (hr.mono (by decide)) (by rfl) T.g_check_parts T.F_check_parts.kp T.b_check_parts .nil pass0 (pa_cons (pv 1) (pa_cons (pv 2) (pa_cons (pv 3) pa_nil))))) (pss_cons (ps_fld (pv 0) (pv 1) rfl) (pss_cons (ps_fld (pv 0) (pe_callTy (call_list_ofK (K := K) rfl) (by rfl) T.z_list (by decide +kernel) (pa_cons (pv 2) pa_nil)) rfl) (pss_one (ps_fld (pv 0) (pe_lc (own := [("row", 4)]) (g := gName 4) rfl sc_Form_init.nd (pi_list (pv 3)) (blkOk_by (N := ["self", "first", "early", "rows", "row"]) (sc := defScope s_Form_init) (by decide +kernel)) (fun _ _ _ _ _ => pg_name (i := 4) sc_Form_init.nd rfl (by first | exact Or.inl rfl | exact Or.inr rfl)) (fun _ _ _ _ _ => pts_nil) (fun _ _ _ _ _ => (pe_callTy (call_tuple_ofK (K := K) rfl) (by rfl) T.z_tuple (by decide +kernel) (pa_cons (pv 4) pa_nil)))) rfl))))))), ?_⟩
    refine ⟨_, rfl, ?_⟩
    apply rep_isN2 (d := (D.lst (x_early.map (fun y_ : Int => (D.v (V.int y_)))))) h_early (by rfl) T.in_Reckoned
    refine ⟨_, rfl, ?_⟩
    refine iteF ?_
    refine iteF ?_
    refine ⟨_, rfl, ?_⟩
    refine ⟨_, rfl, ?_⟩
    refine ⟨_, rfl, ?_⟩
    refine ⟨ms, _, _, x_first, x_early, x_rows, _, rfl, hW.enter0, h_early, h_rows, hM, fun r1 u4 H5 hM e3 h2 => ?_⟩
    replace h_early := rep_ext e3 h_early
    replace h_rows := rep_ext e3 h_rows
    replace hp := Rx.Ext.keep e3 hp
    replace hW := hW.ret0 e3
    obtain rfl := of_v h2
    refine ⟨_, rfl, ?_⟩
    refine ⟨_, rfl, p_, A.c_Form, dx_, _, rfl, hp, T.cl_Form, T.na_Form__first, (by first | decide | simp), ?_⟩
    have z6 : putF ("_first" : Str) (V.int x_first) (List.zip ([] : List Str) ([] : List V)) = List.zip [("_first" : Str)] [V.int x_first] := putF_zip (ns := ([] : List Str)) (us := ([] : List V)) rfl (nin_of (by decide +kernel))
    replace h_early := rep_put (o := .ins A.c_Form dx_ (putF ("_first" : Str) (V.int x_first) (List.zip ([] : List Str) ([] : List V)))) pm_ h_early
    replace h_rows := rep_put (o := .ins A.c_Form dx_ (putF ("_first" : Str) (V.int x_first) (List.zip ([] : List Str) ([] : List V)))) pm_ h_rows
    replace hK := ki_put (o := .ins A.c_Form dx_ (putF ("_first" : Str) (V.int x_first) (List.zip ([] : List Str) ([] : List V)))) hK hW
    replace hW := wd_at (p := p_) (o := .ins A.c_Form dx_ (putF ("_first" : Str) (V.int x_first) (List.zip ([] : List Str) ([] : List V)))) hW
    replace hp : upd H5 p_ (.ins A.c_Form dx_ (putF ("_first" : Str) (V.int x_first) (List.zip ([] : List Str) ([] : List V)))) p_ = some (.ins A.c_Form dx_ (putF ("_first" : Str) (V.int x_first) (List.zip ([] : List Str) ([] : List V)))) := upd_same
    generalize upd H5 p_ (.ins A.c_Form dx_ (putF ("_first" : Str) (V.int x_first) (List.zip ([] : List Str) ([] : List V)))) = H7 at *
    rw [z6] at hp
    refine ⟨_, rfl, ?_⟩
    apply rep_listL h_early
    intro ys8 hr9
    intro p10 n11
    have e12 := Rx.Ext.new (H := H7) (o := (HO.lst ys8)) n11
    have hp13 : upd H7 p10 (HO.lst ys8) p10 = some (HO.lst ys8) := upd_same
    generalize upd H7 p10 (HO.lst ys8) = H16 at e12 hp13 ⊢
    have h14 : rep ms H16 (D.lst (x_early.map (fun y_ : Int => (D.v (V.int y_))))) (.ref p10) := rep_lst_mk hW n11 e12 hp13 hr9
    replace h_early := rep_ext e12 h_early
    replace h_rows := rep_ext e12 h_rows
    replace hp := Rx.Ext.keep e12 hp
    replace hW := hW.ret0 e12
    refine ⟨_, rfl, p_, A.c_Form, dx_, _, rfl, hp, T.cl_Form, T.na_Form__early, (by first | decide | simp), ?_⟩
    have z17 : putF ("_early" : Str) ((V.ref p10)) (List.zip [("_first" : Str)] [V.int x_first]) = List.zip [("_first" : Str), ("_early" : Str)] [V.int x_first, (V.ref p10)] := putF_zip (ns := [("_first" : Str)]) (us := [V.int x_first]) rfl (nin_of (by decide +kernel))
    replace h_early := rep_put (o := .ins A.c_Form dx_ (putF ("_early" : Str) ((V.ref p10)) (List.zip [("_first" : Str)] [V.int x_first]))) pm_ h_early
    replace h_rows := rep_put (o := .ins A.c_Form dx_ (putF ("_early" : Str) ((V.ref p10)) (List.zip [("_first" : Str)] [V.int x_first]))) pm_ h_rows
    replace h14 := rep_put (o := .ins A.c_Form dx_ (putF ("_early" : Str) ((V.ref p10)) (List.zip [("_first" : Str)] [V.int x_first]))) pm_ h14
    replace hK := ki_put (o := .ins A.c_Form dx_ (putF ("_early" : Str) ((V.ref p10)) (List.zip [("_first" : Str)] [V.int x_first]))) hK hW
    replace hW := wd_at (p := p_) (o := .ins A.c_Form dx_ (putF ("_early" : Str) ((V.ref p10)) (List.zip [("_first" : Str)] [V.int x_first]))) hW
    replace hp : upd H16 p_ (.ins A.c_Form dx_ (putF ("_early" : Str) ((V.ref p10)) (List.zip [("_first" : Str)] [V.int x_first]))) p_ = some (.ins A.c_Form dx_ (putF ("_early" : Str) ((V.ref p10)) (List.zip [("_first" : Str)] [V.int x_first]))) := upd_same
    generalize upd H16 p_ (.ins A.c_Form dx_ (putF ("_early" : Str) ((V.ref p10)) (List.zip [("_first" : Str)] [V.int x_first]))) = H18 at *
    rw [z17] at hp
    refine ⟨_, rfl, ?_⟩
    apply rep_iter h_rows
    intro a19 xs20 _ an21 hp22 hl23
    refine fun L24 nl25 => ?_
    have nm39 := nm_new hW nl25
    refine lc_listG (L := L24) (fun n_ ys_ h_ => Wd (L24 :: ms) [] [] H18 h_ ∧ Keep (L24 :: ms) H18 h_ ∧ MutO (L24 :: ms) [] H18 h_ L24 (D.lst (ys_.map (fun y_ : (Int × Int × Int) => (D.tup [(D.v (V.int y_.1)), (D.v (V.int y_.2.1)), (D.v (V.int y_.2.2))])))) ∧ ys_.length ≤ n_ ∧ h_ p_ = some (.ins A.c_Form dx_ (List.zip [("_first" : Str), ("_early" : Str)] [V.int x_first, (V.ref p10)]))) (items := x_rows) (e := (fun y_ : (Int × Int × Int) => (D.tup [(D.v (V.int y_.1)), (D.v (V.int y_.2.1)), (D.v (V.int y_.2.2))]))) an21 hp22 hl23 nl25 (fun _ _ _ q_ => q_.2.1) hM ⟨wd_cell hW nl25, keep_cell nl25 Keep.refl, mo_newL (ds := []) hW nl25 repL_nil, Nat.le_refl _, Rx.Ext.keep (Rx.Ext.new nl25) hp⟩ ?_ ?_
    · skip
      rintro x35 u36 n26 ys27 k28 H40 hn ⟨hW, hk29, mu30, ln31, hp⟩ h37 hM Nx34 hN32
      replace h_early := rep_keep hk29 (rep_new nl25 h_early)
      replace h_rows := rep_keep hk29 (rep_new nl25 h_rows)
      replace h14 := rep_keep hk29 (rep_new nl25 h14)
      refine ⟨rfl, ?_⟩
      refine tyes_of ?_
      refine ⟨_, rfl, ?_⟩
      apply rep_tupSame h37
      intro p41 z42 h43
      refine mo_end mu30 hn (by rw [List.length_map]; exact ln31) fun vs44 hr45 => ?_
      have mk47 := mo_setL mu30 (repL_snoc (e := (fun y_ : (Int × Int × Int) => (D.tup [(D.v (V.int y_.1)), (D.v (V.int y_.2.1)), (D.v (V.int y_.2.2))]))) (xs := ys27) (y := x35) hr45 h43)
      replace h_early := rep_put (o := .lst (vs44 ++ [(V.ref p41)])) mu30.im h_early
      replace h_rows := rep_put (o := .lst (vs44 ++ [(V.ref p41)])) mu30.im h_rows
      replace h14 := rep_put (o := .lst (vs44 ++ [(V.ref p41)])) mu30.im h14
      replace hk29 := keep_put (o := .lst (vs44 ++ [(V.ref p41)])) mu30.im hk29
      replace h37 := rep_put (o := .lst (vs44 ++ [(V.ref p41)])) mu30.im h37
      replace h43 := rep_put (o := .lst (vs44 ++ [(V.ref p41)])) mu30.im h43
      replace hp := at_put (o := .lst (vs44 ++ [(V.ref p41)])) hp mu30
      replace hW := wd_put (o := .lst (vs44 ++ [(V.ref p41)])) hW mu30
      replace mu30 := mk47
      generalize upd H40 L24 (.lst (vs44 ++ [(V.ref p41)])) = H48 at *
      replace mu30 : MutO (L24 :: ms) [] H18 H48 L24 (D.lst ((ys27 ++ [x35]).map (fun y_ : (Int × Int × Int) => (D.tup [(D.v (V.int y_.1)), (D.v (V.int y_.2.1)), (D.v (V.int y_.2.2))])))) := mu30
      clear mk47
      exact hN32 x35 _ hM ⟨hW, hk29, mu30, by rw [List.length_append]; exact Nat.add_le_add_right ln31 1, hp⟩
    · skip
      rintro n26 ys49 H50 hM ⟨hW, hk29, mu30, ln31, hp⟩
      replace h_early := rep_keep hk29 (rep_new nl25 h_early)
      replace h_rows := rep_keep hk29 (rep_new nl25 h_rows)
      replace h14 := rep_keep hk29 (rep_new nl25 h14)
      clear hk29 ln31
      have h51 := mo_rep_dr dr_here nm39 mu30
      replace hW := wd_dr dr_here mu30.hp hW
      replace h_early := rep_dr dr_here h_early
      replace h_rows := rep_dr dr_here h_rows
      replace h14 := rep_dr dr_here h14
      clear mu30
      refine ⟨_, rfl, p_, A.c_Form, dx_, _, rfl, hp, T.cl_Form, T.na_Form__rows, (by first | decide | simp), ?_⟩
      have z52 : putF ("_rows" : Str) ((V.ref L24)) (List.zip [("_first" : Str), ("_early" : Str)] [V.int x_first, (V.ref p10)]) = List.zip [("_first" : Str), ("_early" : Str), ("_rows" : Str)] [V.int x_first, (V.ref p10), (V.ref L24)] := putF_zip (ns := [("_first" : Str), ("_early" : Str)]) (us := [V.int x_first, (V.ref p10)]) rfl (nin_of (by decide +kernel))
      replace h_early := rep_put (o := .ins A.c_Form dx_ (putF ("_rows" : Str) ((V.ref L24)) (List.zip [("_first" : Str), ("_early" : Str)] [V.int x_first, (V.ref p10)]))) pm_ h_early
      replace h_rows := rep_put (o := .ins A.c_Form dx_ (putF ("_rows" : Str) ((V.ref L24)) (List.zip [("_first" : Str), ("_early" : Str)] [V.int x_first, (V.ref p10)]))) pm_ h_rows
      replace h14 := rep_put (o := .ins A.c_Form dx_ (putF ("_rows" : Str) ((V.ref L24)) (List.zip [("_first" : Str), ("_early" : Str)] [V.int x_first, (V.ref p10)]))) pm_ h14
      replace h51 := rep_put (o := .ins A.c_Form dx_ (putF ("_rows" : Str) ((V.ref L24)) (List.zip [("_first" : Str), ("_early" : Str)] [V.int x_first, (V.ref p10)]))) pm_ h51
      replace hK := ki_put (o := .ins A.c_Form dx_ (putF ("_rows" : Str) ((V.ref L24)) (List.zip [("_first" : Str), ("_early" : Str)] [V.int x_first, (V.ref p10)]))) hK hW
      replace hW := wd_at (p := p_) (o := .ins A.c_Form dx_ (putF ("_rows" : Str) ((V.ref L24)) (List.zip [("_first" : Str), ("_early" : Str)] [V.int x_first, (V.ref p10)]))) hW
      replace hp : upd H50 p_ (.ins A.c_Form dx_ (putF ("_rows" : Str) ((V.ref L24)) (List.zip [("_first" : Str), ("_early" : Str)] [V.int x_first, (V.ref p10)]))) p_ = some (.ins A.c_Form dx_ (putF ("_rows" : Str) ((V.ref L24)) (List.zip [("_first" : Str), ("_early" : Str)] [V.int x_first, (V.ref p10)]))) := upd_same
      generalize upd H50 p_ (.ins A.c_Form dx_ (putF ("_rows" : Str) ((V.ref L24)) (List.zip [("_first" : Str), ("_early" : Str)] [V.int x_first, (V.ref p10)]))) = H53 at *
      rw [z52] at hp
      exact hQ (x_first, x_early, ys49) [V.int x_first, (V.ref p10), (V.ref L24)] _ hM (ki_wd hK hW) hp rfl (repL_cons rep_v (repL_cons h14 (repL_cons h51 repL_nil)))
theorem make_Form_init_nililtiii {ms : List Addr} {ps : List PEn} {cs : List (Addr × List V)} {H0 H : Hp} {A : Ad} {v_early : V} {v_rows : V} {x_first : Int} {x_early : (List Int)} {x_rows : (List (Int × Int × Int))} {KM : (Int × List Int × List (Int × Int × Int)) → Prop} {Q : Addr → Hp → Prop} {E : XK} (hW : Wd ms ps cs H0 H) (h_early : rep ms H (D.lst (x_early.map (fun y_ : Int => (D.v (V.int y_))))) v_early) (h_rows : rep ms H (D.lst (x_rows.map (fun y_ : (Int × Int × Int) => (D.tup [(D.v (V.int y_.1)), (D.v (V.int y_.2.1)), (D.v (V.int y_.2.2))])))) v_rows) (hM : M_Form_init_nililtiii x_first x_early x_rows KM)
    (k : ∀ (x : Addr) (H1 : Hp) (r : (Int × List Int × List (Int × Int × Int))), KM r → Rx.Ext H H1 → rep ms H1 (eForm A r) (.ref x) → Q x H1) :
    ∀ x dx, H x = none → H dx = none → dx ≠ x → sp_Form_init_nililtiii A (.ref x :: ([V.int x_first, v_early, v_rows] ++ [])) (upd (upd H dx (.own x)) x (.ins A.c_Form dx [])) (fun v H2 => v = .non ∧ Q x H2) E := by
  intro x dx nx ndx ne
  exact ⟨x :: ms, x, dx, v_early, v_rows, x_first, x_early, x_rows, KM, rfl, wd_new hW nx ndx, List.mem_cons_self, upd_same, mem_new nx h_early ndx, mem_new nx h_rows ndx, hM, fun r us H1 hr hK hp hl hu => ⟨rfl, k x H1 r hr (ext_new hK nx ndx) (rep_insW hW nx hp hl hu)⟩⟩
def M_Form_level (x_first : D) (x_number : D) (KM : (Int × List Int × List (Int × Int × Int)) → Prop) (KE_InvalidFirst : D → Prop) (KE_InvalidNumber : D → Prop) : Prop :=
  (M_check_first x_first (fun r6 => (∃ y17 : Int, x_first = (D.v (V.int y17)) ∧ (M_checked x_number (fun r31 => (M_Form_init_nililtiii y17 ([] : List Int) ([((0 : Int), (0 : Int), r31)] : List (Int × Int × Int)) fun r57 => (KM r57))) (fun x36 => (KE_InvalidNumber x36))))) (fun x11 => (KE_InvalidFirst x11)))
def sp_Form_level (A : Ad) : Sp := fun vs H Q E => ∃ (ms : List Addr) (v_first : V) (v_number : V) (x_first : D) (x_number : D) (KM : (Int × List Int × List (Int × Int × Int)) → Prop) (KE_InvalidFirst : D → Prop) (KE_InvalidNumber : D → Prop), vs = [v_first, v_number] ∧ Wd ms [] [] H H ∧ rep ms H x_first v_first ∧ rep ms H x_number v_number ∧ M_Form_level x_first x_number KM KE_InvalidFirst KE_InvalidNumber ∧ (∀ (r : (Int × List Int × List (Int × Int × Int))) (u : V) (H1 : Hp), KM r → Ret [] H H1 → rep ms H1 (eForm A r) u → Q u H1) ∧ (∀ (e0_ : D) (cls : Value) (d : Option Addr) (H1 : Hp), KE_InvalidFirst e0_ → Ret [] H H1 → excR ms H1 A.c_InvalidFirst [("value" : Str)] [e0_] cls d → E cls d H1) ∧ (∀ (e0_ : D) (cls : Value) (d : Option Addr) (H1 : Hp), KE_InvalidNumber e0_ → Ret [] H H1 → excR ms H1 A.c_InvalidNumber [("value" : Str)] [e0_] cls d → E cls d H1)
set_option maxHeartbeats 16000000 in
theorem ok_Form_level {P : Program} {w : World} {K : PySem.W.Frag} {mg : Str → Option Value} {base : Heap} {A : Ad} (T : Txt w K mg base A) : FnOk P w K mg base (L2.CX P w) 7 A.a_Form_level A.d_Form_level ["first", "number"] (sp_Form_level A) := by
  refine T.F_Form_level.okX sc_Form_level (fun vs H Q E h => ?_) (fun cdv A_ outer s_ H_0 vs Q E hr h => ?_)
  · obtain ⟨ms, v_first, v_number, x_first, x_number, KM, KE_InvalidFirst, KE_InvalidNumber, rfl, _⟩ := h
    rfl
  · obtain ⟨ms, v_first, v_number, x_first, x_number, KM, KE_InvalidFirst, KE_InvalidNumber, rfl, hW, h_first, h_number, hM, hQ, hE_InvalidFirst, hE_InvalidNumber⟩ := h
    unfold M_Form_level at hM
    refine ⟨_, (pss_cons (ps_expr (pe_call (ok_check_first T) (hr.mono (by decide)) (by rfl) T.g_check_first T.F_check_first.kp T.b_check_first .nil (passE rfl rfl rfl rfl) (pa_cons (pv 0) pa_nil))) (pss_one (ps_ret (pe_make T.mk_Form (ok_Form_init_nililtiii T) (hr.mono (by decide)) (by rfl) T.g_Form T.b_Form_init .nil pass0 (pa_cons (pv 0) (pa_cons (pe_lst pa_nil) (pa_cons (pe_lst (pa_cons (pe_tup (pa_cons pe_int (pa_cons pe_int (pa_cons (pe_call (ok_checked T) (hr.mono (by decide)) (by rfl) T.g_checked T.F_checked.kp T.b_checked .nil (passE rfl rfl rfl rfl) (pa_cons (pv 1) pa_nil)) pa_nil)))) pa_nil)) pa_nil))))))), ?_⟩
    refine ⟨_, rfl, ?_⟩
    refine ⟨ms, _, x_first, _, _, rfl, hW.enter0, h_first, hM, fun r6 u9 H10 hM e8 h7 => ?_, fun x11 cl12 d13 H14 hM er15 ex16 => ?_⟩
    · skip
      replace h_first := rep_ext e8 h_first
      replace h_number := rep_ext e8 h_number
      replace hW := hW.ret0 e8
      obtain rfl := of_v h7
      obtain ⟨y17, hy18, hM⟩ := hM
      have hu19 : v_first = V.int y17 := of_v (rep_cast hy18 h_first)
      subst hu19
      refine ⟨_, rfl, ?_⟩
      refine ⟨(by show 0 ≤ sizeLine; decide), ?_⟩
      intro p20 n24
      have e21 := Rx.Ext.new (H := H10) (o := (HO.lst [])) n24
      have hp22 : upd H10 p20 (HO.lst []) p20 = some (HO.lst []) := upd_same
      generalize upd H10 p20 (HO.lst []) = H25 at e21 hp22 ⊢
      have h23 : rep ms H25 (D.lst (([] : List Int).map (fun y_ : Int => (D.v (V.int y_))))) (.ref p20) := rep_lst_mk hW n24 e21 hp22 repL_nil
      replace h_first := rep_ext e21 h_first
      replace h_number := rep_ext e21 h_number
      replace hW := hW.ret0 e21
      refine ⟨_, rfl, ?_⟩
      refine ⟨ms, _, x_number, _, _, rfl, hW.enter0, h_number, hM, fun r31 u34 H35 hM e33 h32 => ?_, fun x36 cl37 d38 H39 hM er40 ex41 => ?_⟩
      · skip
        replace h_first := rep_ext e33 h_first
        replace h_number := rep_ext e33 h_number
        replace h23 := rep_ext e33 h23
        replace hW := hW.ret0 e33
        obtain rfl := of_v h32
        refine ⟨(by show 3 ≤ sizeLine; decide), ?_⟩
        intro p42 n46
        have e43 := Rx.Ext.new (H := H35) (o := (HO.tup [V.int (0 : Int), V.int (0 : Int), V.int r31])) n46
        have hp44 : upd H35 p42 (HO.tup [V.int (0 : Int), V.int (0 : Int), V.int r31]) p42 = some (HO.tup [V.int (0 : Int), V.int (0 : Int), V.int r31]) := upd_same
        generalize upd H35 p42 (HO.tup [V.int (0 : Int), V.int (0 : Int), V.int r31]) = H47 at e43 hp44 ⊢
        have h45 : rep ms H47 (D.tup [(D.v (V.int (0 : Int))), (D.v (V.int (0 : Int))), (D.v (V.int r31))]) (.ref p42) := rep_tup_mk hW n46 e43 hp44 (repL_cons rep_v (repL_cons rep_v (repL_cons rep_v repL_nil)))
        replace h_first := rep_ext e43 h_first
        replace h_number := rep_ext e43 h_number
        replace h23 := rep_ext e43 h23
        replace hW := hW.ret0 e43
        refine ⟨(by show 1 ≤ sizeLine; decide), ?_⟩
        intro p48 n52
        have e49 := Rx.Ext.new (H := H47) (o := (HO.lst [(V.ref p42)])) n52
        have hp50 : upd H47 p48 (HO.lst [(V.ref p42)]) p48 = some (HO.lst [(V.ref p42)]) := upd_same
        generalize upd H47 p48 (HO.lst [(V.ref p42)]) = H53 at e49 hp50 ⊢
        have h51 : rep ms H53 (D.lst (([((0 : Int), (0 : Int), r31)] : List (Int × Int × Int)).map (fun y_ : (Int × Int × Int) => (D.tup [(D.v (V.int y_.1)), (D.v (V.int y_.2.1)), (D.v (V.int y_.2.2))])))) (.ref p48) := rep_lst_mk hW n52 e49 hp50 (repL_cons h45 repL_nil)
        replace h_first := rep_ext e49 h_first
        replace h_number := rep_ext e49 h_number
        replace h23 := rep_ext e49 h23
        replace h45 := rep_ext e49 h45
        replace hW := hW.ret0 e49
        conv => whnf
        apply make_Form_init_nililtiii (ms := ms) hW h23 h51 hM
        intro p54 H58 r57 hM e56 h55
        replace h_first := rep_ext e56 h_first
        replace h_number := rep_ext e56 h_number
        replace h23 := rep_ext e56 h23
        replace h45 := rep_ext e56 h45
        replace h51 := rep_ext e56 h51
        replace hW := hW.ret0 e56
        exact hQ r57 _ _ hM hW.out h55
      · skip
        replace h_first := rep_ext er40 h_first
        replace h_number := rep_ext er40 h_number
        replace h23 := rep_ext er40 h23
        replace hW := hW.ret0 er40
        exact hE_InvalidNumber x36 _ _ _ hM hW.out (excR_sub (by intro a_ h_; simp [h_]) ex41)
    · skip
      replace h_first := rep_ext er15 h_first
      replace h_number := rep_ext er15 h_number
      replace hW := hW.ret0 er15
      exact hE_InvalidFirst x11 _ _ _ hM hW.out (excR_sub (by intro a_ h_; simp [h_]) ex16)
def M_is_value_oInvalidNumber (KM : Bool → Prop) : Prop :=
  (KM true)
def sp_is_value_oInvalidNumber (A : Ad) : Addr → Value → Option Addr → Sp := fun a_x cls_ d_ vs H Q _ => ∃ (ms : List Addr) (dd_ : Addr) (fs_ : List (Str × V)) (KM : Bool → Prop), vs = [.ref a_x] ∧ Wd ms [] [] H H ∧ cls_ = .ref A.c_InvalidNumber ∧ d_ = some dd_ ∧ H dd_ = some (.xd fs_) ∧ M_is_value_oInvalidNumber KM ∧ ∀ (r : Bool) (u : V) (H1 : Hp), KM r → Ret [] H H1 → rep ms H1 (D.v (V.bl r)) u → Q u H1
set_option maxHeartbeats 16000000 in
theorem ok_is_value_oInvalidNumber {P : Program} {w : World} {K : PySem.W.Frag} {mg : Str → Option Value} {base : Heap} {A : Ad} (T : Txt w K mg base A) : FnE P w K mg base 1 A.a_is_value A.d_is_value ["_law_e"] (sp_is_value_oInvalidNumber A) := by
  refine okE T.F_is_value sc_is_value (fun a_x cls_ d_ vs H Q h => ?_) (fun cdv A_ outer s_ H_0 vs Q a_x oe_ cls_ d_ hr hz_ hf_ h => ?_)
  · obtain ⟨ms, dd_, fs_, KM, rfl, _⟩ := h
    rfl
  · obtain ⟨ms, dd_, fs_, KM, rfl, hW, rfl, rfl, hx_, hM, hQ⟩ := h
    unfold M_is_value_oInvalidNumber at hM
    refine ⟨_, (pss_one (ps_ret (pe_and (pe_callB (call_isXg List.mem_cons_self hz_ hf_) (by rfl) T.z_isinstance (by decide +kernel) (pa_cons (pv 0) (pa_cons (pe_glob (v := .ref A.c_LeagueError) (by rfl) T.g_LeagueError rfl) pa_nil))) (pe_one (pe_callB (call_isXg List.mem_cons_self hz_ hf_) (by rfl) T.z_isinstance (by decide +kernel) (pa_cons (pv 0) (pa_cons (pe_bltn (v := .ty "ValueError") (by rfl) T.z_ValueError (by decide +kernel) rfl) pa_nil))))))), ?_⟩
    refine ⟨_, rfl, ?_⟩
    refine ⟨_, _, _, _, _, _, rfl, rfl, T.xc_InvalidNumber, (fun _ r_ => r_), T.xk_InvalidNumber_LeagueError, rfl, hx_, ?_⟩
    refine ⟨_, rfl, ?_⟩
    refine iteT ?_
    refine ⟨_, rfl, ?_⟩
    refine ⟨_, _, _, _, _, _, rfl, rfl, T.xc_InvalidNumber, (fun _ r_ => r_), T.xk_InvalidNumber_ValueError, rfl, hx_, ?_⟩
    exact hQ true _ _ hM hW.out rep_v
def M_heard_LoFormInvalidFirstInvalidNumber (ML : ((Int × List Int × List (Int × Int × Int)) → Prop) → (D → Prop) → (D → Prop) → Prop) (KM : (List D) → Prop) : Prop :=
  (ML (fun r7 => (KM ([(D.v (V.str ("taken" : Str)))] : List D))) (fun x12 => (M_is_value fun r33 => (KM ([(D.v (V.str ("first" : Str))), x12, (D.v (V.bl r33))] : List D)))) (fun x18 => (M_is_value_oInvalidNumber fun r53 => (KM ([(D.v (V.str ("number" : Str))), x18, (D.v (V.bl r53))] : List D)))))
def TT_heard_LoFormInvalidFirstInvalidNumber (A : Ad) : (XK → Hp → VK → Prop) → Hp → VK → Prop := fun tl H Q => ∃ (ms : List Addr) (ML : ((Int × List Int × List (Int × Int × Int)) → Prop) → (D → Prop) → (D → Prop) → Prop) (KM : (List D) → Prop), Wd ms [] [] H H ∧ (∀ (ms_ : List Addr) (H1 : Hp) (E : XK) (Q1 : VK) (KN : (Int × List Int × List (Int × Int × Int)) → Prop) (KE_InvalidFirst : (D → Prop)) (KE_InvalidNumber : (D → Prop)), (∀ a ∈ ms_, a ∈ ms ∨ H a = none) → Ret [] H H1 → Wd ms_ [] [] H1 H1 → ML KN KE_InvalidFirst KE_InvalidNumber → (∀ (r : (Int × List Int × List (Int × Int × Int))) (u : V) (H2 : Hp), KN r → Ret [] H1 H2 → rep ms_ H2 (eForm A r) u → Q1 u H2) → (∀ (e0_ : D) (cls : Value) (d : Option Addr) (H2 : Hp), KE_InvalidFirst e0_ → Ret [] H1 H2 → excR ms_ H2 A.c_InvalidFirst [("value" : Str)] [e0_] cls d → E cls d H2) → (∀ (e0_ : D) (cls : Value) (d : Option Addr) (H2 : Hp), KE_InvalidNumber e0_ → Ret [] H1 H2 → excR ms_ H2 A.c_InvalidNumber [("value" : Str)] [e0_] cls d → E cls d H2) → tl E H1 Q1) ∧ M_heard_LoFormInvalidFirstInvalidNumber ML KM ∧ ∀ (r : (List D)) (u : V) (H1 : Hp), KM r → Ret [] H H1 → rep ms H1 (D.lst (r.map (fun y_ : D => y_))) u → Q u H1
set_option maxHeartbeats 16000000 in
theorem gives_heard_LoFormInvalidFirstInvalidNumber {X : Cx} {A : Ad} (T : Txt X.w X.K X.mg X.base A) (gu : X.A.guards = some []) (q : Str) : ∀ cdv, Gives X ["_law_call", "_law_told", "_law_e"] "_law_heard" (defScope s_heard) A.a_heard cdv (defBody s_heard) "_law_call" q (TT_heard_LoFormInvalidFirstInvalidNumber A) := by
  intro cdv f_ c_ s_ H_0 Q tl hr act hco_ h
  obtain ⟨ms, ML, KM, hW, hlam, hM, hQ⟩ := h
  unfold M_heard_LoFormInvalidFirstInvalidNumber at hM
  refine ⟨_, (pss_cons (ps_set (i := 1) sc_heard.nd rfl (by first | exact Or.inl rfl | exact Or.inr rfl) (pe_lst (pa_cons pe_str pa_nil))) (pss_cons (ps_try_all (i := 2) rfl rfl sc_heard.nd rfl rfl takes0 (fun W_ pn_ xe_ tk_ _ => (pss_one (ps_expr (act W_ pn_ xe_ _ _ tk_)))) (.cons ⟨(by rfl), (by rfl), .inl T.g_InvalidFirst⟩ (fun a_x oe_ cls_ d_ pn_ hz_ hf_ => (pss_one (ps_set (i := 1) sc_heard.nd rfl (by first | exact Or.inl rfl | exact Or.inr rfl) (pe_lst (pa_cons pe_str (pa_cons (pe_xf T.xf_InvalidFirst T.no_InvalidFirst_value hz_ hf_ (pv 2)) (pa_cons (pe_callE hz_ hf_ (ok_is_value T) (hr.mono (by decide)) (by rfl) T.g_is_value T.F_is_value.kp T.b_is_value (pa_cons (pv 2) pa_nil)) pa_nil))))))) (.cons ⟨(by rfl), (by rfl), .inl T.g_InvalidValues⟩ (fun a_x oe_ cls_ d_ pn_ hz_ hf_ => (pss_one ps_never)) (.cons ⟨(by rfl), (by rfl), .inl T.g_InvalidRows⟩ (fun a_x oe_ cls_ d_ pn_ hz_ hf_ => (pss_one ps_never)) (.cons ⟨(by rfl), (by rfl), .inl T.g_InvalidNumber⟩ (fun a_x oe_ cls_ d_ pn_ hz_ hf_ => (pss_one (ps_set (i := 1) sc_heard.nd rfl (by first | exact Or.inl rfl | exact Or.inr rfl) (pe_lst (pa_cons pe_str (pa_cons (pe_xf T.xf_InvalidNumber T.no_InvalidNumber_value hz_ hf_ (pv 2)) (pa_cons (pe_callE hz_ hf_ (ok_is_value_oInvalidNumber T) (hr.mono (by decide)) (by rfl) T.g_is_value T.F_is_value.kp T.b_is_value (pa_cons (pv 2) pa_nil)) pa_nil))))))) (.cons ⟨(by rfl), (by rfl), .inl T.g_TooMany⟩ (fun a_x oe_ cls_ d_ pn_ hz_ hf_ => (pss_one ps_never)) .nil)))))) (pss_one (ps_ret (pv 1))))), ?_⟩
  refine ⟨(by show 1 ≤ sizeLine; decide), ?_⟩
  intro p1 n5
  have e2 := Rx.Ext.new (H := H_0) (o := (HO.lst [V.str ("taken" : Str)])) n5
  have hp3 : upd H_0 p1 (HO.lst [V.str ("taken" : Str)]) p1 = some (HO.lst [V.str ("taken" : Str)]) := upd_same
  generalize upd H_0 p1 (HO.lst [V.str ("taken" : Str)]) = H6 at e2 hp3 ⊢
  have h4 : rep ms H6 (D.lst (([(D.v (V.str ("taken" : Str)))] : List D).map (fun y_ : D => y_))) (.ref p1) := rep_lst_mk hW n5 e2 hp3 (repL_cons rep_v repL_nil)
  replace hco_ := Rx.Ext.keep e2 hco_
  replace hW := hW.ret0 e2
  refine ⟨rfl, hco_, _, fun _ _ _ h_ => h_, hlam _ _ _ _ _ _ _ (fun _ h_ => .inl h_) hW.out hW.enter0 hM (fun r7 u10 H11 hM e9 h8 => ?_) (fun x12 cl13 d14 H15 hM er16 ex17 => ?_) (fun x18 cl19 d20 H21 hM er22 ex23 => ?_)⟩
  · skip
    replace h4 := rep_ext e9 h4
    replace hco_ := Rx.Ext.keep e9 hco_
    replace hW := hW.ret0 e9
    refine ⟨_, rfl, ?_⟩
    exact hQ ([(D.v (V.str ("taken" : Str)))] : List D) _ _ hM hW.out h4
  · skip
    replace h4 := rep_ext er16 h4
    replace hco_ := Rx.Ext.keep er16 hco_
    replace hW := hW.ret0 er16
    obtain ⟨rfl, dd28, vs24, rfl, hx25, hn26, hr27⟩ := ex17
    obtain ⟨u29, us30, rfl, h31, hr32⟩ := repL_uncons hr27
    obtain rfl := repL_empty hr32
    refine ⟨true, T.xm_InvalidFirst_InvalidFirst, fun _ a_x na_x => ?_, (fun z_ => by cases z_)⟩
    refine ⟨_, rfl, ?_⟩
    refine ⟨rfl, rfl, _, _, u29, rfl, hx25, rfl, ?_⟩
    refine ⟨_, rfl, ?_⟩
    refine ⟨ms, _, _, _, rfl, hW.enter0, rfl, rfl, hx25, hM, fun r33 u36 H37 hM e35 h34 => ?_⟩
    replace h4 := rep_ext e35 h4
    replace h31 := rep_ext e35 h31
    replace hx25 := Rx.Ext.keep e35 hx25
    replace hW := hW.ret0 e35
    obtain rfl := of_v h34
    refine ⟨(by show 3 ≤ sizeLine; decide), ?_⟩
    intro p38 n42
    have e39 := Rx.Ext.new (H := H37) (o := (HO.lst [V.str ("first" : Str), u29, V.bl r33])) n42
    have hp40 : upd H37 p38 (HO.lst [V.str ("first" : Str), u29, V.bl r33]) p38 = some (HO.lst [V.str ("first" : Str), u29, V.bl r33]) := upd_same
    generalize upd H37 p38 (HO.lst [V.str ("first" : Str), u29, V.bl r33]) = H43 at e39 hp40 ⊢
    have h41 : rep ms H43 (D.lst (([(D.v (V.str ("first" : Str))), x12, (D.v (V.bl r33))] : List D).map (fun y_ : D => y_))) (.ref p38) := rep_lst_mk hW n42 e39 hp40 (repL_cons rep_v (repL_cons h31 (repL_cons rep_v repL_nil)))
    replace h4 := rep_ext e39 h4
    replace h31 := rep_ext e39 h31
    replace hx25 := Rx.Ext.keep e39 hx25
    replace hW := hW.ret0 e39
    refine ⟨_, rfl, ?_⟩
    exact hQ ([(D.v (V.str ("first" : Str))), x12, (D.v (V.bl r33))] : List D) _ _ hM hW.out h41
  · skip
    replace h4 := rep_ext er22 h4
    replace hco_ := Rx.Ext.keep er22 hco_
    replace hW := hW.ret0 er22
    obtain ⟨rfl, dd48, vs44, rfl, hx45, hn46, hr47⟩ := ex23
    obtain ⟨u49, us50, rfl, h51, hr52⟩ := repL_uncons hr47
    obtain rfl := repL_empty hr52
    refine ⟨false, T.xm_InvalidNumber_InvalidFirst, (fun z_ => by cases z_), fun _ => ?_⟩
    refine ⟨false, T.xm_InvalidNumber_InvalidValues, (fun z_ => by cases z_), fun _ => ?_⟩
    refine ⟨false, T.xm_InvalidNumber_InvalidRows, (fun z_ => by cases z_), fun _ => ?_⟩
    refine ⟨true, T.xm_InvalidNumber_InvalidNumber, fun _ a_x na_x => ?_, (fun z_ => by cases z_)⟩
    refine ⟨_, rfl, ?_⟩
    refine ⟨rfl, rfl, _, _, u49, rfl, hx45, rfl, ?_⟩
    refine ⟨_, rfl, ?_⟩
    refine ⟨ms, _, _, _, rfl, hW.enter0, rfl, rfl, hx45, hM, fun r53 u56 H57 hM e55 h54 => ?_⟩
    replace h4 := rep_ext e55 h4
    replace h51 := rep_ext e55 h51
    replace hx45 := Rx.Ext.keep e55 hx45
    replace hW := hW.ret0 e55
    obtain rfl := of_v h54
    refine ⟨(by show 3 ≤ sizeLine; decide), ?_⟩
    intro p58 n62
    have e59 := Rx.Ext.new (H := H57) (o := (HO.lst [V.str ("number" : Str), u49, V.bl r53])) n62
    have hp60 : upd H57 p58 (HO.lst [V.str ("number" : Str), u49, V.bl r53]) p58 = some (HO.lst [V.str ("number" : Str), u49, V.bl r53]) := upd_same
    generalize upd H57 p58 (HO.lst [V.str ("number" : Str), u49, V.bl r53]) = H63 at e59 hp60 ⊢
    have h61 : rep ms H63 (D.lst (([(D.v (V.str ("number" : Str))), x18, (D.v (V.bl r53))] : List D).map (fun y_ : D => y_))) (.ref p58) := rep_lst_mk hW n62 e59 hp60 (repL_cons rep_v (repL_cons h51 (repL_cons rep_v repL_nil)))
    replace h4 := rep_ext e59 h4
    replace h51 := rep_ext e59 h51
    replace hx45 := Rx.Ext.keep e59 hx45
    replace hW := hW.ret0 e59
    refine ⟨_, rfl, ?_⟩
    exact hQ ([(D.v (V.str ("number" : Str))), x18, (D.v (V.bl r53))] : List D) _ _ hM hW.out h61
def M_is_due_LoFormInvalidFirstInvalidNumberlD (ML : ((Int × List Int × List (Int × Int × Int)) → Prop) → (D → Prop) → (D → Prop) → Prop) (x_due : (List D)) (KM : Bool → Prop) : Prop :=
  (M_heard_LoFormInvalidFirstInvalidNumber ML fun r1 => ((plainX (D.lst (r1.map (fun y_ : D => y_))) = true ∧ (pyX (D.lst (r1.map (fun y_ : D => y_)))).showable = true ∧ (pyX (D.lst (r1.map (fun y_ : D => y_)))).depth ≤ 60 ∧ (pyX (D.lst (r1.map (fun y_ : D => y_)))).shown.length ≤ sizeLine) ∧ (∃ KB7 : (List D) → Prop, (((x_due.map (fun y_ : D => y_)).length = (([("taken" : Str)] : List Str).map (fun y_ : Str => (D.v (V.str y_)))).length → plainD (D.lst (x_due.map (fun y_ : D => y_))) = true ∧ plainD (D.lst (([("taken" : Str)] : List Str).map (fun y_ : Str => (D.v (V.str y_))))) = true ∧ SeqAt.shaped (pyOf (D.lst (x_due.map (fun y_ : D => y_)))) = true ∧ SeqAt.shaped (pyOf (D.lst (([("taken" : Str)] : List Str).map (fun y_ : Str => (D.v (V.str y_)))))) = true) ∧ (if (decide ((x_due.map (fun y_ : D => y_)).length = (([("taken" : Str)] : List Str).map (fun y_ : Str => (D.v (V.str y_)))).length) && PyData.eqv (pyOf (D.lst (x_due.map (fun y_ : D => y_)))) (pyOf (D.lst (([("taken" : Str)] : List Str).map (fun y_ : Str => (D.v (V.str y_))))))) = true then (KB7 x_due) else (x_due.length + ([(D.v (V.bl true))] : List D).length ≤ sizeLine ∧ (KB7 (x_due ++ ([(D.v (V.bl true))] : List D)))))) ∧ ∀ r28 : (List D), KB7 r28 → ((plainX (D.lst (r28.map (fun y_ : D => y_))) = true ∧ (pyX (D.lst (r28.map (fun y_ : D => y_)))).showable = true ∧ (pyX (D.lst (r28.map (fun y_ : D => y_)))).depth ≤ 60 ∧ (pyX (D.lst (r28.map (fun y_ : D => y_)))).shown.length ≤ sizeLine) ∧ (KM (decide (V.str (pyX (D.lst (r1.map (fun y_ : D => y_)))).shown = V.str (pyX (D.lst (r28.map (fun y_ : D => y_)))).shown)))))))
def TT_is_due_LoFormInvalidFirstInvalidNumberlD (A : Ad) : (XK → Hp → VK → Prop) → V → Hp → VK → Prop := fun tl v_due H Q => ∃ (ms : List Addr) (ML : ((Int × List Int × List (Int × Int × Int)) → Prop) → (D → Prop) → (D → Prop) → Prop) (x_due : (List D)) (KM : Bool → Prop), Wd ms [] [] H H ∧ rep ms H (D.lst (x_due.map (fun y_ : D => y_))) v_due ∧ (∀ (ms_ : List Addr) (H1 : Hp) (E : XK) (Q1 : VK) (KN : (Int × List Int × List (Int × Int × Int)) → Prop) (KE_InvalidFirst : (D → Prop)) (KE_InvalidNumber : (D → Prop)), (∀ a ∈ ms_, a ∈ ms ∨ H a = none) → Ret [] H H1 → Wd ms_ [] [] H1 H1 → ML KN KE_InvalidFirst KE_InvalidNumber → (∀ (r : (Int × List Int × List (Int × Int × Int))) (u : V) (H2 : Hp), KN r → Ret [] H1 H2 → rep ms_ H2 (eForm A r) u → Q1 u H2) → (∀ (e0_ : D) (cls : Value) (d : Option Addr) (H2 : Hp), KE_InvalidFirst e0_ → Ret [] H1 H2 → excR ms_ H2 A.c_InvalidFirst [("value" : Str)] [e0_] cls d → E cls d H2) → (∀ (e0_ : D) (cls : Value) (d : Option Addr) (H2 : Hp), KE_InvalidNumber e0_ → Ret [] H1 H2 → excR ms_ H2 A.c_InvalidNumber [("value" : Str)] [e0_] cls d → E cls d H2) → tl E H1 Q1) ∧ M_is_due_LoFormInvalidFirstInvalidNumberlD ML x_due KM ∧ ∀ (r : Bool) (u : V) (H1 : Hp), KM r → Ret [] H H1 → rep ms H1 (D.v (V.bl r)) u → Q u H1
set_option maxHeartbeats 16000000 in
theorem gives_is_due_LoFormInvalidFirstInvalidNumberlD {X : Cx} {A : Ad} (T : Txt X.w X.K X.mg X.base A) (gu : X.A.guards = some []) (q : Str) : ∀ cdv, Gives2 X ["_law_call", "_law_due"] "_law_is_due" (defScope s_is_due) A.a_is_due cdv (defBody s_is_due) q (TT_is_due_LoFormInvalidFirstInvalidNumberlD A) := by
  intro cdv f_ c_ v_due s_ H_0 Q tl hr act hco_ h
  obtain ⟨ms, ML, x_due, KM, hW, h_due, hlam, hM, hQ⟩ := h
  unfold M_is_due_LoFormInvalidFirstInvalidNumberlD at hM
  refine ⟨_, (pss_one (ps_ret (pe_cmpR op_eq (pe_callB (call_reprY (by exact gu) (by have h_ := units65 hr; exact h_)) (by rfl) T.z_repr (by decide +kernel) (pa_cons (pe_passF (k := 1) (i := 0) (by rfl) T.g_heard T.F_heard T.b_heard sc_heard (.inl rfl) rfl (by first | exact Or.inl rfl | exact Or.inr (Or.inl rfl)) (gives_heard_LoFormInvalidFirstInvalidNumber (X := (cxOf C8.CX0 X.prog X.w X.K X.mg X.base ["_law_call", "_law_due"] "_law_is_due" (defScope s_is_due) A.a_is_due cdv X.A X.stack s_ H_0 C8.E0).nox) T gu _) hr act) pa_nil)) (pe_callB (call_reprY (by exact gu) (by have h_ := units65 hr; exact h_)) (by rfl) T.z_repr (by decide +kernel) (pa_cons (pe_up (pe_ifExp (pt_cmpR (op_eqL (K := X.K) rfl hr.units) (pv 1) (pe_lst (pa_cons pe_str pa_nil)) (nomark _)) (pv 1) (pe_op op_cat (pv 1) (pe_lst (pa_cons pe_bl pa_nil))))) pa_nil)) (nomark _)))), ?_⟩
  refine ⟨rfl, hco_, ms, _, _, hW.enter0, fun ms_l Hl_ E_ Q1_ KN_ KE_InvalidFirst KE_InvalidNumber hs_ el_ hWl_ hMl_ hQl_ hE_InvalidFirst hE_InvalidNumber => hlam ms_l Hl_ E_ Q1_ KN_ KE_InvalidFirst KE_InvalidNumber (fun a_ h_ => (hs_ a_ h_).imp id (fun z_ => wd_none hW z_)) (hW.ret0 el_).out hWl_ hMl_ hQl_ hE_InvalidFirst hE_InvalidNumber, hM, fun r1 u4 H5 hM e3 h2 => ?_⟩
  replace h_due := rep_ext e3 h_due
  replace hco_ := Rx.Ext.keep e3 hco_
  replace hW := hW.ret0 e3
  obtain ⟨g6, hM⟩ := hM
  refine rep_reprY (d := (D.lst (r1.map (fun y_ : D => y_)))) h2 g6 ?_
  obtain ⟨KB7, hM, hKKB7⟩ := hM
  refine ⟨fun v H1 => ∃ r : (List D), KB7 r ∧ Wd ms [] [] H_0 H1 ∧ Keep ms H5 H1 ∧ rep ms H1 (D.lst (r.map (fun y_ : D => y_))) v, ?_, ?_⟩
  · skip
    have hj9 := Keep.refl (ms := ms) (H := H5)
    refine ⟨_, rfl, ?_⟩
    refine ⟨(by show 1 ≤ sizeLine; decide), ?_⟩
    intro p10 n14
    have e11 := Rx.Ext.new (H := H5) (o := (HO.lst [V.str ("taken" : Str)])) n14
    have hp12 : upd H5 p10 (HO.lst [V.str ("taken" : Str)]) p10 = some (HO.lst [V.str ("taken" : Str)]) := upd_same
    generalize upd H5 p10 (HO.lst [V.str ("taken" : Str)]) = H15 at e11 hp12 ⊢
    have h13 : rep ms H15 (D.lst (([("taken" : Str)] : List Str).map (fun y_ : Str => (D.v (V.str y_))))) (.ref p10) := rep_lst_mk hW n14 e11 hp12 (repL_cons rep_v repL_nil)
    replace h_due := rep_ext e11 h_due
    replace h2 := rep_ext e11 h2
    replace hj9 := keep_ext e11 hj9
    replace hco_ := Rx.Ext.keep e11 hco_
    replace hW := hW.ret0 e11
    obtain ⟨g16, hM⟩ := hM
    apply rep_eqL (ds := (x_due.map (fun y_ : D => y_))) (es := (([("taken" : Str)] : List Str).map (fun y_ : Str => (D.v (V.str y_))))) h_due h13 g16
    refine ⟨_, rfl, ?_⟩
    refine ite3 hM (fun hM => ?_) (fun hM => ?_)
    · skip
      refine ⟨_, rfl, ?_⟩
      exact ⟨x_due, hM, hW, hj9, h_due⟩
    · skip
      refine ⟨_, rfl, ?_⟩
      refine ⟨(by show 1 ≤ sizeLine; decide), ?_⟩
      intro p17 n21
      have e18 := Rx.Ext.new (H := H15) (o := (HO.lst [V.bl true])) n21
      have hp19 : upd H15 p17 (HO.lst [V.bl true]) p17 = some (HO.lst [V.bl true]) := upd_same
      generalize upd H15 p17 (HO.lst [V.bl true]) = H22 at e18 hp19 ⊢
      have h20 : rep ms H22 (D.lst (([(D.v (V.bl true))] : List D).map (fun y_ : D => y_))) (.ref p17) := rep_lst_mk hW n21 e18 hp19 (repL_cons rep_v repL_nil)
      replace h_due := rep_ext e18 h_due
      replace h2 := rep_ext e18 h2
      replace hj9 := keep_ext e18 hj9
      replace h13 := rep_ext e18 h13
      replace hco_ := Rx.Ext.keep e18 hco_
      replace hW := hW.ret0 e18
      obtain ⟨g23, hM⟩ := hM
      apply rep_cat (xs := x_due) (ys := ([(D.v (V.bl true))] : List D)) (e := (fun y_ : D => y_)) hW h_due h20 g23
      intro p24 H27 e26 h25
      replace h_due := rep_ext e26 h_due
      replace h2 := rep_ext e26 h2
      replace hj9 := keep_ext e26 hj9
      replace h13 := rep_ext e26 h13
      replace h20 := rep_ext e26 h20
      replace hco_ := Rx.Ext.keep e26 hco_
      replace hW := hW.ret0 e26
      exact ⟨(x_due ++ ([(D.v (V.bl true))] : List D)), hM, hW, hj9, h25⟩
  · skip
    rintro u30 Hj8 ⟨r28, hr, hW, hj9, h29⟩
    replace hM := hKKB7 r28 hr
    replace h_due := rep_keep hj9 h_due
    replace h2 := rep_keep hj9 h2
    obtain ⟨g31, hM⟩ := hM
    refine rep_reprY (d := (D.lst (r28.map (fun y_ : D => y_)))) h29 g31 ?_
    refine ⟨rfl, ?_⟩
    exact hQ (decide (V.str (pyX (D.lst (r1.map (fun y_ : D => y_)))).shown = V.str (pyX (D.lst (r28.map (fun y_ : D => y_)))).shown)) _ _ hM hW.out rep_v
def M_is_level_right (KM : Bool → Prop) : Prop :=
  (M_first  fun r1 => (M_draw (9 : Int) fun r16 => (M_draw (2 : Int) fun r37 => (if (decide (V.int r37 = V.int (0 : Int))) = true then (M_no_integer  fun r42 => (([r1.2, (some ([(D.v (V.str ("number" : Str))), r42] : List D))] : List (Option (List D))).length < 100000 ∧ filC (fun (x75 : (Option (List D))) (k68 : Option (List D) → Prop) => (if (Option.isSome x75) = true then (∃ y81, x75 = some y81 ∧ (k68 (some y81))) else (k68 none))) ([r1.2, (some ([(D.v (V.str ("number" : Str))), r42] : List D))] : List (Option (List D))) [] fun ys89 => (ys89.length + ([([(D.v (V.str ("taken" : Str)))] : List D)] : List (List D)).length ≤ sizeLine ∧ (0 ≤ (0 : Int) ∧ ∃ g110 : Int.toNat (0 : Int) < (ys89 ++ ([([(D.v (V.str ("taken" : Str)))] : List D)] : List (List D))).length, ∀ x112, x112 = (ys89 ++ ([([(D.v (V.str ("taken" : Str)))] : List D)] : List (List D)))[Int.toNat (0 : Int)]'g110 → (M_is_due_LoFormInvalidFirstInvalidNumberlD (fun KN_ KE_InvalidFirst KE_InvalidNumber => (M_Form_level r1.1 r42 (fun r128 => (KN_ r128)) (fun x133 => (KE_InvalidFirst x133)) (fun x139 => (KE_InvalidNumber x139)))) x112 fun r117 => (if (!r117) = true then (KM false) else (M_is_due_LoFormInvalidFirstInvalidNumberlD (fun KN_ KE_InvalidFirst KE_InvalidNumber => (M_Form_level r1.1 r42 (fun r159 => (KN_ r159)) (fun x164 => (KE_InvalidFirst x164)) (fun x170 => (KE_InvalidNumber x170)))) x112 fun r148 => (KM r148)))))))) else (([r1.2, (none : (Option (List D)))] : List (Option (List D))).length < 100000 ∧ filC (fun (x198 : (Option (List D))) (k191 : Option (List D) → Prop) => (if (Option.isSome x198) = true then (∃ y204, x198 = some y204 ∧ (k191 (some y204))) else (k191 none))) ([r1.2, (none : (Option (List D)))] : List (Option (List D))) [] fun ys212 => (ys212.length + ([([(D.v (V.str ("taken" : Str)))] : List D)] : List (List D)).length ≤ sizeLine ∧ (0 ≤ (0 : Int) ∧ ∃ g233 : Int.toNat (0 : Int) < (ys212 ++ ([([(D.v (V.str ("taken" : Str)))] : List D)] : List (List D))).length, ∀ x235, x235 = (ys212 ++ ([([(D.v (V.str ("taken" : Str)))] : List D)] : List (List D)))[Int.toNat (0 : Int)]'g233 → (M_is_due_LoFormInvalidFirstInvalidNumberlD (fun KN_ KE_InvalidFirst KE_InvalidNumber => (M_Form_level r1.1 (D.v (V.int (r16 - (4 : Int)))) (fun r251 => (KN_ r251)) (fun x256 => (KE_InvalidFirst x256)) (fun x262 => (KE_InvalidNumber x262)))) x235 fun r240 => (if (!r240) = true then (KM false) else (M_is_due_LoFormInvalidFirstInvalidNumberlD (fun KN_ KE_InvalidFirst KE_InvalidNumber => (M_Form_level r1.1 (D.v (V.int (r16 - (4 : Int)))) (fun r282 => (KN_ r282)) (fun x287 => (KE_InvalidFirst x287)) (fun x293 => (KE_InvalidNumber x293)))) x235 fun r271 => (KM r271)))))))))))
def sp_is_level_right (A : Ad) : Sp := fun vs H Q _ => ∃ (ms : List Addr) (ap : Addr) (KM : Bool → Prop), vs = [.ref ap] ∧ Wd ms ((ap, none) :: A.tbs) [] H H ∧ M_is_level_right  KM ∧ ∀ (r : Bool) (u : V) (H1 : Hp), KM r → Ret ((ap, none) :: A.tbs) H H1 → rep ms H1 (D.v (V.bl r)) u → Q u H1
set_option maxHeartbeats 16000000 in
theorem ok_is_level_right {P : Program} {w : World} {K : PySem.W.Frag} {mg : Str → Option Value} {base : Heap} {A : Ad} (T : Txt w K mg base A) : FnG P w K mg base 14 A.a_is_level_right A.d_is_level_right ["_law_pot_here"] (sp_is_level_right A) := by
  refine okGT T.F_is_level_right sc_is_level_right (fun vs H Q E h => ?_) (fun cdv A_ outer s_ H_0 vs Q E hcd_ gu hr h => ?_)
  · obtain ⟨ms, ap, KM, rfl, _⟩ := h
    rfl
  · obtain ⟨ms, ap, KM, rfl, hW, hM, hQ⟩ := h
    unfold M_is_level_right at hM
    refine ⟨_, (pss_cons (ps_asg (pe_call (ok_first T) (hr.mono (by decide)) (by rfl) T.g_first T.F_first.kp T.b_first .nil pass0 (pa_cons (pv 0) pa_nil)) (pg_tup rfl (pgs_cons (pg_name (i := 1) sc_is_level_right.nd rfl (by first | exact Or.inl rfl | exact Or.inr rfl)) (pgs_cons (pg_name (i := 2) sc_is_level_right.nd rfl (by first | exact Or.inl rfl | exact Or.inr rfl)) pgs_nil)))) (pss_cons (ps_asg (pe_tup (pa_cons (pe_op op_sub (pe_call (ok_draw T) (hr.mono (by decide)) (by rfl) T.g_draw T.F_draw.kp T.b_draw .nil pass0 (pa_cons (pv 0) (pa_cons pe_int pa_nil))) pe_int) (pa_cons pe_non pa_nil))) (pg_tup rfl (pgs_cons (pg_name (i := 3) sc_is_level_right.nd rfl (by first | exact Or.inl rfl | exact Or.inr rfl)) (pgs_cons (pg_name (i := 4) sc_is_level_right.nd rfl (by first | exact Or.inl rfl | exact Or.inr rfl)) pgs_nil)))) (pss_cons (ps_if (pt_cmpR op_eq (pe_call (ok_draw T) (hr.mono (by decide)) (by rfl) T.g_draw T.F_draw.kp T.b_draw .nil pass0 (pa_cons (pv 0) (pa_cons pe_int pa_nil))) pe_int (nomark _)) (pss_cons (ps_set (i := 3) sc_is_level_right.nd rfl (by first | exact Or.inl rfl | exact Or.inr rfl) (pe_call (ok_no_integer T) (hr.mono (by decide)) (by rfl) T.g_no_integer T.F_no_integer.kp T.b_no_integer .nil pass0 (pa_cons (pv 0) pa_nil))) (pss_one (ps_set (i := 4) sc_is_level_right.nd rfl (by first | exact Or.inl rfl | exact Or.inr rfl) (pe_lst (pa_cons pe_str (pa_cons (pv 3) pa_nil)))))) pss_nil) (pss_cons (ps_set (i := 5) sc_is_level_right.nd rfl (by first | exact Or.inl rfl | exact Or.inr rfl) (pe_ix (ix_listK (K := K) rfl) (pe_op op_cat (pe_lc (own := [("_law_wrong", 6)]) (g := gName 6) rfl sc_is_level_right.nd (pi_list (pe_lst (pa_cons (pv 2) (pa_cons (pv 4) pa_nil)))) (blkOk_by (N := ["_law_pot_here", "_law_start", "_law_wrong_first", "_law_amount", "_law_wrong_number", "_law_due", "_law_wrong"]) (sc := defScope s_is_level_right) (by decide +kernel)) (fun _ _ _ _ _ => pg_name (i := 6) sc_is_level_right.nd rfl (by first | exact Or.inl rfl | exact Or.inr rfl)) (fun _ _ _ _ _ => (pts_one (pt_cmpR op_notN (pv 6) pe_non (nomark _)))) (fun _ _ _ _ _ => (pv 6))) (pe_lst (pa_cons (pe_lst (pa_cons pe_str pa_nil)) pa_nil))) pe_int (fun _ _ => rfl))) (pss_cons (ps_if (pt_not (pt_val (pe_lamcallW (k := 7) (j := 5) (("_law_is_level_right" : Str) ++ (".<locals>." : Str)) qual_nox (by rfl) T.g_is_due T.F_is_due T.b_is_due sc_is_due rfl (by first | exact Or.inl rfl | exact Or.inr (Or.inl rfl)) (gives_is_due_LoFormInvalidFirstInvalidNumberlD T gu _) T.tb_is_level_right (hcd_.symm.trans T.cd_is_level_right) (hr.mono (by decide)) (LamX.lamS_by (sc := defScope s_is_level_right) (by decide +kernel)) rfl (fun _ _ _ _ _ => rfl) (fun A_ outer_ s_ H_ E f_ c_ hr => (pe_smeth (pe_glob (v := .ref A.c_Form) (by rfl) T.g_Form rfl) T.st_Form_level (ok_Form_level T) (hr.mono (by decide)) T.F_Form_level.kp T.b_Form_level (passE rfl rfl rfl rfl) (pa_cons (pv 1) (pa_cons (pv 3) pa_nil))))))) (pss_one (ps_ret pe_bl)) pss_nil) (pss_one (ps_ret (pe_lamcallW (k := 7) (j := 5) (("_law_is_level_right" : Str) ++ (".<locals>." : Str)) qual_nox (by rfl) T.g_is_due T.F_is_due T.b_is_due sc_is_due rfl (by first | exact Or.inl rfl | exact Or.inr (Or.inl rfl)) (gives_is_due_LoFormInvalidFirstInvalidNumberlD T gu _) T.tb_is_level_right (hcd_.symm.trans T.cd_is_level_right) (hr.mono (by decide)) (LamX.lamS_by (sc := defScope s_is_level_right) (by decide +kernel)) rfl (fun _ _ _ _ _ => rfl) (fun A_ outer_ s_ H_ E f_ c_ hr => (pe_smethK (pe_glob (v := .ref A.c_Form) (by rfl) T.g_Form rfl) T.st_Form_level (ok_Form_level T) (hr.mono (by decide)) T.F_Form_level.kp T.k_Form_level_number_first (passE rfl rfl rfl rfl) (pk_cons (pv 3) (pk_cons (pv 1) pk_nil)))))))))))), ?_⟩
    refine ⟨_, rfl, ?_⟩
    refine ⟨ms, ap, _, rfl, (hW.enterS (by simp)), hM, fun r1 u4 H5 hM e3 h2 => ?_⟩
    replace e3 := Ret.upS (by simp) (by simp) hW e3
    replace hW := hW.retP e3
    apply rep_gtup h2 rfl
    intro vs6 hv7
    obtain ⟨u8, us9, rfl, h10, hv11⟩ := repL_uncons hv7
    obtain ⟨u12, us13, rfl, h14, hv15⟩ := repL_uncons hv11
    obtain rfl := repL_empty hv15
    refine ⟨_, _, rfl, ?_⟩
    refine ⟨_, _, rfl, ?_⟩
    refine ⟨rfl, ?_⟩
    refine ⟨_, rfl, ?_⟩
    refine ⟨ms, ap, (9 : Int), _, rfl, (hW.enterS (by simp)), hM, fun r16 u19 H20 hM e18 h17 => ?_⟩
    replace e18 := Ret.upS (by simp) (by simp) hW e18
    replace h2 := rep_ret hW e18 h2
    replace h10 := rep_ret hW e18 h10
    replace h14 := rep_ret hW e18 h14
    replace hW := hW.retP e18
    obtain rfl := of_v h17
    refine ⟨_, _, rfl, rfl, ?_⟩
    refine ⟨(by show 2 ≤ sizeLine; decide), ?_⟩
    intro p21 n25
    have e22 := Rx.Ext.new (H := H20) (o := (HO.tup [V.int (r16 - (4 : Int)), V.non])) n25
    have hp23 : upd H20 p21 (HO.tup [V.int (r16 - (4 : Int)), V.non]) p21 = some (HO.tup [V.int (r16 - (4 : Int)), V.non]) := upd_same
    generalize upd H20 p21 (HO.tup [V.int (r16 - (4 : Int)), V.non]) = H26 at e22 hp23 ⊢
    have h24 : rep ms H26 (D.tup [(D.v (V.int (r16 - (4 : Int)))), (D.v V.non)]) (.ref p21) := rep_tup_mk hW n25 e22 hp23 (repL_cons rep_v (repL_cons rep_v repL_nil))
    replace h2 := rep_ext e22 h2
    replace h10 := rep_ext e22 h10
    replace h14 := rep_ext e22 h14
    replace hW := hW.ret0 e22
    apply rep_gtup h24 rfl
    intro vs27 hv28
    obtain ⟨u29, us30, rfl, h31, hv32⟩ := repL_uncons hv28
    obtain rfl := of_v h31
    obtain ⟨u33, us34, rfl, h35, hv36⟩ := repL_uncons hv32
    obtain rfl := of_v h35
    obtain rfl := repL_empty hv36
    refine ⟨_, _, rfl, ?_⟩
    refine ⟨_, _, rfl, ?_⟩
    refine ⟨rfl, ?_⟩
    refine ⟨_, rfl, ?_⟩
    refine ⟨ms, ap, (2 : Int), _, rfl, (hW.enterS (by simp)), hM, fun r37 u40 H41 hM e39 h38 => ?_⟩
    replace e39 := Ret.upS (by simp) (by simp) hW e39
    replace h2 := rep_ret hW e39 h2
    replace h10 := rep_ret hW e39 h10
    replace h14 := rep_ret hW e39 h14
    replace h24 := rep_ret hW e39 h24
    replace hW := hW.retP e39
    obtain rfl := of_v h38
    refine ⟨rfl, ?_⟩
    refine ⟨_, rfl, ?_⟩
    refine ite3 hM (fun hM => ?_) (fun hM => ?_)
    · skip
      refine ⟨_, rfl, ?_⟩
      refine ⟨ms, ap, _, rfl, (hW.enterS (by simp)), hM, fun r42 u45 H46 hM e44 h43 => ?_⟩
      replace e44 := Ret.upS (by simp) (by simp) hW e44
      replace h2 := rep_ret hW e44 h2
      replace h10 := rep_ret hW e44 h10
      replace h14 := rep_ret hW e44 h14
      replace h24 := rep_ret hW e44 h24
      replace hW := hW.retP e44
      refine ⟨_, rfl, ?_⟩
      refine ⟨(by show 2 ≤ sizeLine; decide), ?_⟩
      intro p47 n51
      have e48 := Rx.Ext.new (H := H46) (o := (HO.lst [V.str ("number" : Str), u45])) n51
      have hp49 : upd H46 p47 (HO.lst [V.str ("number" : Str), u45]) p47 = some (HO.lst [V.str ("number" : Str), u45]) := upd_same
      generalize upd H46 p47 (HO.lst [V.str ("number" : Str), u45]) = H52 at e48 hp49 ⊢
      have h50 : rep ms H52 (D.lst (([(D.v (V.str ("number" : Str))), r42] : List D).map (fun y_ : D => y_))) (.ref p47) := rep_lst_mk hW n51 e48 hp49 (repL_cons rep_v (repL_cons h43 repL_nil))
      replace h2 := rep_ext e48 h2
      replace h10 := rep_ext e48 h10
      replace h14 := rep_ext e48 h14
      replace h24 := rep_ext e48 h24
      replace h43 := rep_ext e48 h43
      replace hW := hW.ret0 e48
      refine ⟨_, rfl, ?_⟩
      refine ⟨_, rfl, ?_⟩
      refine ⟨(by show 2 ≤ sizeLine; decide), ?_⟩
      intro p53 n57
      have e54 := Rx.Ext.new (H := H52) (o := (HO.lst [u12, (V.ref p47)])) n57
      have hp55 : upd H52 p53 (HO.lst [u12, (V.ref p47)]) p53 = some (HO.lst [u12, (V.ref p47)]) := upd_same
      generalize upd H52 p53 (HO.lst [u12, (V.ref p47)]) = H58 at e54 hp55 ⊢
      have h56 : rep ms H58 (D.lst (([r1.2, (some ([(D.v (V.str ("number" : Str))), r42] : List D))] : List (Option (List D))).map (fun y_ : (Option (List D)) => (encO (fun y_ : (List D) => (D.lst (y_.map (fun y_ : D => y_)))) y_)))) (.ref p53) := rep_lst_mk hW n57 e54 hp55 (repL_cons h14 (repL_cons h50 repL_nil))
      replace h2 := rep_ext e54 h2
      replace h10 := rep_ext e54 h10
      replace h14 := rep_ext e54 h14
      replace h24 := rep_ext e54 h24
      replace h43 := rep_ext e54 h43
      replace h50 := rep_ext e54 h50
      replace hW := hW.ret0 e54
      apply rep_iter h56
      intro a59 xs60 _ an61 hp62 hl63
      refine fun L64 nl65 => ?_
      have nm79 := nm_new hW nl65
      refine lf_listG (L := L64) (fun n_ ys_ h_ => Wd (L64 :: ms) ((ap, none) :: A.tbs) [] H_0 h_ ∧ Keep (L64 :: ms) H58 h_ ∧ MutO (L64 :: ms) ((ap, none) :: A.tbs) H_0 h_ L64 (D.lst (ys_.map (fun y_ : (List D) => (D.lst (y_.map (fun y_ : D => y_)))))) ∧ ys_.length ≤ n_) (items := ([r1.2, (some ([(D.v (V.str ("number" : Str))), r42] : List D))] : List (Option (List D)))) (e := (fun y_ : (Option (List D)) => (encO (fun y_ : (List D) => (D.lst (y_.map (fun y_ : D => y_)))) y_))) an61 hp62 hl63 nl65 (fun _ _ _ q_ => q_.2.1) hM ⟨wd_cell hW nl65, keep_cell nl65 Keep.refl, mo_newL (ds := []) hW nl65 repL_nil, Nat.le_refl _⟩ ?_ ?_
      · skip
        rintro x75 u76 n66 ys67 k68 H80 hn ⟨hW, hk69, mu70, ln71⟩ h77 hM Nx74 hN72 hNn73
        replace h2 := rep_keep hk69 (rep_new nl65 h2)
        replace h10 := rep_keep hk69 (rep_new nl65 h10)
        replace h14 := rep_keep hk69 (rep_new nl65 h14)
        replace h24 := rep_keep hk69 (rep_new nl65 h24)
        replace h43 := rep_keep hk69 (rep_new nl65 h43)
        replace h50 := rep_keep hk69 (rep_new nl65 h50)
        replace h56 := rep_keep hk69 (rep_new nl65 h56)
        refine ⟨rfl, ?_⟩
        refine ⟨_, rfl, ?_⟩
        refine ⟨rfl, ?_⟩
        rw [rep_isSomeL (fun _ => ⟨_, rfl⟩) h77]
        refine ⟨_, rfl, ?_⟩
        refine ite3 hM (fun hM => ?_) (fun hM => ?_)
        · skip
          obtain ⟨y81, hy82, hM⟩ := hM
          have h83 := rep_some hy82 h77
          refine ⟨_, rfl, ?_⟩
          refine mo_end mu70 hn (by rw [List.length_map]; exact ln71) fun vs84 hr85 => ?_
          have mk87 := mo_setL mu70 (repL_snoc (e := (fun y_ : (List D) => (D.lst (y_.map (fun y_ : D => y_))))) (xs := ys67) (y := y81) hr85 h83)
          replace h2 := rep_put (o := .lst (vs84 ++ [u76])) mu70.im h2
          replace h10 := rep_put (o := .lst (vs84 ++ [u76])) mu70.im h10
          replace h14 := rep_put (o := .lst (vs84 ++ [u76])) mu70.im h14
          replace h24 := rep_put (o := .lst (vs84 ++ [u76])) mu70.im h24
          replace h43 := rep_put (o := .lst (vs84 ++ [u76])) mu70.im h43
          replace h50 := rep_put (o := .lst (vs84 ++ [u76])) mu70.im h50
          replace h56 := rep_put (o := .lst (vs84 ++ [u76])) mu70.im h56
          replace hk69 := keep_put (o := .lst (vs84 ++ [u76])) mu70.im hk69
          replace h77 := rep_put (o := .lst (vs84 ++ [u76])) mu70.im h77
          replace h83 := rep_put (o := .lst (vs84 ++ [u76])) mu70.im h83
          replace hW := wd_put (o := .lst (vs84 ++ [u76])) hW mu70
          replace mu70 := mk87
          generalize upd H80 L64 (.lst (vs84 ++ [u76])) = H88 at *
          replace mu70 : MutO (L64 :: ms) ((ap, none) :: A.tbs) H_0 H88 L64 (D.lst ((ys67 ++ [y81]).map (fun y_ : (List D) => (D.lst (y_.map (fun y_ : D => y_)))))) := mu70
          clear mk87
          exact hN72 y81 _ hM ⟨hW, hk69, mu70, by rw [List.length_append]; exact Nat.add_le_add_right ln71 1⟩
        · skip
          exact hNn73 _ hM ⟨hW, hk69, mu70, Nat.le_succ_of_le ln71⟩
      · skip
        rintro n66 ys89 H90 hM ⟨hW, hk69, mu70, ln71⟩
        replace h2 := rep_keep hk69 (rep_new nl65 h2)
        replace h10 := rep_keep hk69 (rep_new nl65 h10)
        replace h14 := rep_keep hk69 (rep_new nl65 h14)
        replace h24 := rep_keep hk69 (rep_new nl65 h24)
        replace h43 := rep_keep hk69 (rep_new nl65 h43)
        replace h50 := rep_keep hk69 (rep_new nl65 h50)
        replace h56 := rep_keep hk69 (rep_new nl65 h56)
        clear hk69 ln71
        have h91 := mo_rep_dr dr_here nm79 mu70
        replace hW := wd_dr dr_here mu70.hp hW
        replace h2 := rep_dr dr_here h2
        replace h10 := rep_dr dr_here h10
        replace h14 := rep_dr dr_here h14
        replace h24 := rep_dr dr_here h24
        replace h43 := rep_dr dr_here h43
        replace h50 := rep_dr dr_here h50
        replace h56 := rep_dr dr_here h56
        clear mu70
        refine ⟨(by show 1 ≤ sizeLine; decide), ?_⟩
        intro p92 n96
        have e93 := Rx.Ext.new (H := H90) (o := (HO.lst [V.str ("taken" : Str)])) n96
        have hp94 : upd H90 p92 (HO.lst [V.str ("taken" : Str)]) p92 = some (HO.lst [V.str ("taken" : Str)]) := upd_same
        generalize upd H90 p92 (HO.lst [V.str ("taken" : Str)]) = H97 at e93 hp94 ⊢
        have h95 : rep ms H97 (D.lst (([(D.v (V.str ("taken" : Str)))] : List D).map (fun y_ : D => y_))) (.ref p92) := rep_lst_mk hW n96 e93 hp94 (repL_cons rep_v repL_nil)
        replace h2 := rep_ext e93 h2
        replace h10 := rep_ext e93 h10
        replace h14 := rep_ext e93 h14
        replace h24 := rep_ext e93 h24
        replace h43 := rep_ext e93 h43
        replace h50 := rep_ext e93 h50
        replace h56 := rep_ext e93 h56
        replace h91 := rep_ext e93 h91
        replace hW := hW.ret0 e93
        refine ⟨(by show 1 ≤ sizeLine; decide), ?_⟩
        intro p98 n102
        have e99 := Rx.Ext.new (H := H97) (o := (HO.lst [(V.ref p92)])) n102
        have hp100 : upd H97 p98 (HO.lst [(V.ref p92)]) p98 = some (HO.lst [(V.ref p92)]) := upd_same
        generalize upd H97 p98 (HO.lst [(V.ref p92)]) = H103 at e99 hp100 ⊢
        have h101 : rep ms H103 (D.lst (([([(D.v (V.str ("taken" : Str)))] : List D)] : List (List D)).map (fun y_ : (List D) => (D.lst (y_.map (fun y_ : D => y_)))))) (.ref p98) := rep_lst_mk hW n102 e99 hp100 (repL_cons h95 repL_nil)
        replace h2 := rep_ext e99 h2
        replace h10 := rep_ext e99 h10
        replace h14 := rep_ext e99 h14
        replace h24 := rep_ext e99 h24
        replace h43 := rep_ext e99 h43
        replace h50 := rep_ext e99 h50
        replace h56 := rep_ext e99 h56
        replace h91 := rep_ext e99 h91
        replace h95 := rep_ext e99 h95
        replace hW := hW.ret0 e99
        obtain ⟨g104, hM⟩ := hM
        apply rep_cat (xs := ys89) (ys := ([([(D.v (V.str ("taken" : Str)))] : List D)] : List (List D))) (e := (fun y_ : (List D) => (D.lst (y_.map (fun y_ : D => y_))))) hW h91 h101 g104
        intro p105 H108 e107 h106
        replace h2 := rep_ext e107 h2
        replace h10 := rep_ext e107 h10
        replace h14 := rep_ext e107 h14
        replace h24 := rep_ext e107 h24
        replace h43 := rep_ext e107 h43
        replace h50 := rep_ext e107 h50
        replace h56 := rep_ext e107 h56
        replace h91 := rep_ext e107 h91
        replace h95 := rep_ext e107 h95
        replace h101 := rep_ext e107 h101
        replace hW := hW.ret0 e107
        obtain ⟨g109, g110, hM⟩ := hM
        apply rep_ixL (e := (fun y_ : (List D) => (D.lst (y_.map (fun y_ : D => y_))))) (xs := (ys89 ++ ([([(D.v (V.str ("taken" : Str)))] : List D)] : List (List D)))) h106 g109 g110
        intro u113 h111
        obtain ⟨x112, x112e⟩ : ∃ x_, x_ = (ys89 ++ ([([(D.v (V.str ("taken" : Str)))] : List D)] : List (List D)))[Int.toNat (0 : Int)]'g110 := ⟨_, rfl⟩
        rw [← x112e] at h111
        replace hM := hM x112 x112e
        refine ⟨hW.pot (A.t_is_level_right, some ((("_law_is_level_right" : Str) ++ (".<locals>." : Str)) ++ ("<lambda>" : Str))) (List.mem_cons_of_mem _ (tm_is_level_right A)), _, rfl, fun H114 e115_ t116 => ?_⟩
        have e115 : Ret ((ap, none) :: A.tbs) H108 H114 := Ret.upN (sub1 (List.mem_cons_of_mem _ (tm_is_level_right A))) (tabN T.nd_tb (tm_is_level_right A)) hW (ret_tab (q := ((("_law_is_level_right" : Str) ++ (".<locals>." : Str)) ++ ("<lambda>" : Str))) e115_ t116)
        clear e115_ t116
        replace h2 := rep_ret hW e115 h2
        replace h10 := rep_ret hW e115 h10
        replace h14 := rep_ret hW e115 h14
        replace h24 := rep_ret hW e115 h24
        replace h43 := rep_ret hW e115 h43
        replace h50 := rep_ret hW e115 h50
        replace h56 := rep_ret hW e115 h56
        replace h91 := rep_ret hW e115 h91
        replace h95 := rep_ret hW e115 h95
        replace h101 := rep_ret hW e115 h101
        replace h106 := rep_ret hW e115 h106
        replace h111 := rep_ret hW e115 h111
        replace hW := hW.retP e115
        refine ⟨ms, _, x112, _, hW.enter0, h111, fun ms_l H122 E Q KN_ KE_InvalidFirst KE_InvalidNumber hs_ el_ hWl_ hMl_ hQl_ hE_InvalidFirst hE_InvalidNumber => ?_, hM, fun r117 u120 H121 hM e119 h118 => ?_⟩
        · skip
          replace h2 := rep_lam hs_ el_ h2
          replace h10 := rep_lam hs_ el_ h10
          replace h14 := rep_lam hs_ el_ h14
          replace h24 := rep_lam hs_ el_ h24
          replace h43 := rep_lam hs_ el_ h43
          replace h50 := rep_lam hs_ el_ h50
          replace h56 := rep_lam hs_ el_ h56
          replace h91 := rep_lam hs_ el_ h91
          replace h95 := rep_lam hs_ el_ h95
          replace h101 := rep_lam hs_ el_ h101
          replace h106 := rep_lam hs_ el_ h106
          replace h111 := rep_lam hs_ el_ h111
          clear hW hM
          have hW := hWl_; have hM := hMl_; have hQ := hQl_; clear hWl_ hMl_ hQl_
          refine ⟨rfl, ?_⟩
          refine ⟨_, rfl, ?_⟩
          refine ⟨_, rfl, ?_⟩
          refine ⟨ms_l, _, _, r1.1, r42, _, _, _, rfl, hW.enter0, h10, h43, hM, fun r128 u131 H132 hM e130 h129 => ?_, fun x133 cl134 d135 H136 hM er137 ex138 => ?_, fun x139 cl140 d141 H142 hM er143 ex144 => ?_⟩
          · skip
            replace h2 := rep_ext e130 h2
            replace h10 := rep_ext e130 h10
            replace h14 := rep_ext e130 h14
            replace h24 := rep_ext e130 h24
            replace h43 := rep_ext e130 h43
            replace h50 := rep_ext e130 h50
            replace h56 := rep_ext e130 h56
            replace h91 := rep_ext e130 h91
            replace h95 := rep_ext e130 h95
            replace h101 := rep_ext e130 h101
            replace h106 := rep_ext e130 h106
            replace h111 := rep_ext e130 h111
            replace hW := hW.ret0 e130
            exact hQ r128 _ _ hM hW.out h129
          · skip
            replace h2 := rep_ext er137 h2
            replace h10 := rep_ext er137 h10
            replace h14 := rep_ext er137 h14
            replace h24 := rep_ext er137 h24
            replace h43 := rep_ext er137 h43
            replace h50 := rep_ext er137 h50
            replace h56 := rep_ext er137 h56
            replace h91 := rep_ext er137 h91
            replace h95 := rep_ext er137 h95
            replace h101 := rep_ext er137 h101
            replace h106 := rep_ext er137 h106
            replace h111 := rep_ext er137 h111
            replace hW := hW.ret0 er137
            exact hE_InvalidFirst x133 _ _ _ hM hW.out (excR_sub (by intro a_ h_; simp [h_]) ex138)
          · skip
            replace h2 := rep_ext er143 h2
            replace h10 := rep_ext er143 h10
            replace h14 := rep_ext er143 h14
            replace h24 := rep_ext er143 h24
            replace h43 := rep_ext er143 h43
            replace h50 := rep_ext er143 h50
            replace h56 := rep_ext er143 h56
            replace h91 := rep_ext er143 h91
            replace h95 := rep_ext er143 h95
            replace h101 := rep_ext er143 h101
            replace h106 := rep_ext er143 h106
            replace h111 := rep_ext er143 h111
            replace hW := hW.ret0 er143
            exact hE_InvalidNumber x139 _ _ _ hM hW.out (excR_sub (by intro a_ h_; simp [h_]) ex144)
        · skip
          replace h2 := rep_ext e119 h2
          replace h10 := rep_ext e119 h10
          replace h14 := rep_ext e119 h14
          replace h24 := rep_ext e119 h24
          replace h43 := rep_ext e119 h43
          replace h50 := rep_ext e119 h50
          replace h56 := rep_ext e119 h56
          replace h91 := rep_ext e119 h91
          replace h95 := rep_ext e119 h95
          replace h101 := rep_ext e119 h101
          replace h106 := rep_ext e119 h106
          replace h111 := rep_ext e119 h111
          replace hW := hW.ret0 e119
          obtain rfl := of_v h118
          refine ⟨_, rfl, ?_⟩
          refine ite3 hM (fun hM => ?_) (fun hM => ?_)
          · skip
            exact hQ false _ _ hM hW.out rep_v
          · skip
            refine ⟨hW.pot (A.t_is_level_right, some ((("_law_is_level_right" : Str) ++ (".<locals>." : Str)) ++ ("<lambda>" : Str))) (List.mem_cons_of_mem _ (tm_is_level_right A)), _, rfl, fun H145 e146_ t147 => ?_⟩
            have e146 : Ret ((ap, none) :: A.tbs) H121 H145 := Ret.upN (sub1 (List.mem_cons_of_mem _ (tm_is_level_right A))) (tabN T.nd_tb (tm_is_level_right A)) hW (ret_tab (q := ((("_law_is_level_right" : Str) ++ (".<locals>." : Str)) ++ ("<lambda>" : Str))) e146_ t147)
            clear e146_ t147
            replace h2 := rep_ret hW e146 h2
            replace h10 := rep_ret hW e146 h10
            replace h14 := rep_ret hW e146 h14
            replace h24 := rep_ret hW e146 h24
            replace h43 := rep_ret hW e146 h43
            replace h50 := rep_ret hW e146 h50
            replace h56 := rep_ret hW e146 h56
            replace h91 := rep_ret hW e146 h91
            replace h95 := rep_ret hW e146 h95
            replace h101 := rep_ret hW e146 h101
            replace h106 := rep_ret hW e146 h106
            replace h111 := rep_ret hW e146 h111
            replace hW := hW.retP e146
            refine ⟨ms, _, x112, _, hW.enter0, h111, fun ms_l H153 E Q KN_ KE_InvalidFirst KE_InvalidNumber hs_ el_ hWl_ hMl_ hQl_ hE_InvalidFirst hE_InvalidNumber => ?_, hM, fun r148 u151 H152 hM e150 h149 => ?_⟩
            · skip
              replace h2 := rep_lam hs_ el_ h2
              replace h10 := rep_lam hs_ el_ h10
              replace h14 := rep_lam hs_ el_ h14
              replace h24 := rep_lam hs_ el_ h24
              replace h43 := rep_lam hs_ el_ h43
              replace h50 := rep_lam hs_ el_ h50
              replace h56 := rep_lam hs_ el_ h56
              replace h91 := rep_lam hs_ el_ h91
              replace h95 := rep_lam hs_ el_ h95
              replace h101 := rep_lam hs_ el_ h101
              replace h106 := rep_lam hs_ el_ h106
              replace h111 := rep_lam hs_ el_ h111
              clear hW hM
              have hW := hWl_; have hM := hMl_; have hQ := hQl_; clear hWl_ hMl_ hQl_
              refine ⟨rfl, ?_⟩
              refine ⟨_, rfl, ?_⟩
              refine ⟨_, rfl, ?_⟩
              refine ⟨rfl, ?_⟩
              refine ⟨ms_l, _, _, r1.1, r42, _, _, _, rfl, hW.enter0, h10, h43, hM, fun r159 u162 H163 hM e161 h160 => ?_, fun x164 cl165 d166 H167 hM er168 ex169 => ?_, fun x170 cl171 d172 H173 hM er174 ex175 => ?_⟩
              · skip
                replace h2 := rep_ext e161 h2
                replace h10 := rep_ext e161 h10
                replace h14 := rep_ext e161 h14
                replace h24 := rep_ext e161 h24
                replace h43 := rep_ext e161 h43
                replace h50 := rep_ext e161 h50
                replace h56 := rep_ext e161 h56
                replace h91 := rep_ext e161 h91
                replace h95 := rep_ext e161 h95
                replace h101 := rep_ext e161 h101
                replace h106 := rep_ext e161 h106
                replace h111 := rep_ext e161 h111
                replace hW := hW.ret0 e161
                exact hQ r159 _ _ hM hW.out h160
              · skip
                replace h2 := rep_ext er168 h2
                replace h10 := rep_ext er168 h10
                replace h14 := rep_ext er168 h14
                replace h24 := rep_ext er168 h24
                replace h43 := rep_ext er168 h43
                replace h50 := rep_ext er168 h50
                replace h56 := rep_ext er168 h56
                replace h91 := rep_ext er168 h91
                replace h95 := rep_ext er168 h95
                replace h101 := rep_ext er168 h101
                replace h106 := rep_ext er168 h106
                replace h111 := rep_ext er168 h111
                replace hW := hW.ret0 er168
                exact hE_InvalidFirst x164 _ _ _ hM hW.out (excR_sub (by intro a_ h_; simp [h_]) ex169)
              · skip
                replace h2 := rep_ext er174 h2
                replace h10 := rep_ext er174 h10
                replace h14 := rep_ext er174 h14
                replace h24 := rep_ext er174 h24
                replace h43 := rep_ext er174 h43
                replace h50 := rep_ext er174 h50
                replace h56 := rep_ext er174 h56
                replace h91 := rep_ext er174 h91
                replace h95 := rep_ext er174 h95
                replace h101 := rep_ext er174 h101
                replace h106 := rep_ext er174 h106
                replace h111 := rep_ext er174 h111
                replace hW := hW.ret0 er174
                exact hE_InvalidNumber x170 _ _ _ hM hW.out (excR_sub (by intro a_ h_; simp [h_]) ex175)
            · skip
              replace h2 := rep_ext e150 h2
              replace h10 := rep_ext e150 h10
              replace h14 := rep_ext e150 h14
              replace h24 := rep_ext e150 h24
              replace h43 := rep_ext e150 h43
              replace h50 := rep_ext e150 h50
              replace h56 := rep_ext e150 h56
              replace h91 := rep_ext e150 h91
              replace h95 := rep_ext e150 h95
              replace h101 := rep_ext e150 h101
              replace h106 := rep_ext e150 h106
              replace h111 := rep_ext e150 h111
              replace hW := hW.ret0 e150
              obtain rfl := of_v h149
              exact hQ r148 _ _ hM hW.out rep_v
    · skip
      refine ⟨_, rfl, ?_⟩
      refine ⟨_, rfl, ?_⟩
      refine ⟨(by show 2 ≤ sizeLine; decide), ?_⟩
      intro p176 n180
      have e177 := Rx.Ext.new (H := H41) (o := (HO.lst [u12, (V.non)])) n180
      have hp178 : upd H41 p176 (HO.lst [u12, (V.non)]) p176 = some (HO.lst [u12, (V.non)]) := upd_same
      generalize upd H41 p176 (HO.lst [u12, (V.non)]) = H181 at e177 hp178 ⊢
      have h179 : rep ms H181 (D.lst (([r1.2, (none : (Option (List D)))] : List (Option (List D))).map (fun y_ : (Option (List D)) => (encO (fun y_ : (List D) => (D.lst (y_.map (fun y_ : D => y_)))) y_)))) (.ref p176) := rep_lst_mk hW n180 e177 hp178 (repL_cons h14 (repL_cons rep_v repL_nil))
      replace h2 := rep_ext e177 h2
      replace h10 := rep_ext e177 h10
      replace h14 := rep_ext e177 h14
      replace h24 := rep_ext e177 h24
      replace hW := hW.ret0 e177
      apply rep_iter h179
      intro a182 xs183 _ an184 hp185 hl186
      refine fun L187 nl188 => ?_
      have nm202 := nm_new hW nl188
      refine lf_listG (L := L187) (fun n_ ys_ h_ => Wd (L187 :: ms) ((ap, none) :: A.tbs) [] H_0 h_ ∧ Keep (L187 :: ms) H181 h_ ∧ MutO (L187 :: ms) ((ap, none) :: A.tbs) H_0 h_ L187 (D.lst (ys_.map (fun y_ : (List D) => (D.lst (y_.map (fun y_ : D => y_)))))) ∧ ys_.length ≤ n_) (items := ([r1.2, (none : (Option (List D)))] : List (Option (List D)))) (e := (fun y_ : (Option (List D)) => (encO (fun y_ : (List D) => (D.lst (y_.map (fun y_ : D => y_)))) y_))) an184 hp185 hl186 nl188 (fun _ _ _ q_ => q_.2.1) hM ⟨wd_cell hW nl188, keep_cell nl188 Keep.refl, mo_newL (ds := []) hW nl188 repL_nil, Nat.le_refl _⟩ ?_ ?_
      · skip
        rintro x198 u199 n189 ys190 k191 H203 hn ⟨hW, hk192, mu193, ln194⟩ h200 hM Nx197 hN195 hNn196
        replace h2 := rep_keep hk192 (rep_new nl188 h2)
        replace h10 := rep_keep hk192 (rep_new nl188 h10)
        replace h14 := rep_keep hk192 (rep_new nl188 h14)
        replace h24 := rep_keep hk192 (rep_new nl188 h24)
        replace h179 := rep_keep hk192 (rep_new nl188 h179)
        refine ⟨rfl, ?_⟩
        refine ⟨_, rfl, ?_⟩
        refine ⟨rfl, ?_⟩
        rw [rep_isSomeL (fun _ => ⟨_, rfl⟩) h200]
        refine ⟨_, rfl, ?_⟩
        refine ite3 hM (fun hM => ?_) (fun hM => ?_)
        · skip
          obtain ⟨y204, hy205, hM⟩ := hM
          have h206 := rep_some hy205 h200
          refine ⟨_, rfl, ?_⟩
          refine mo_end mu193 hn (by rw [List.length_map]; exact ln194) fun vs207 hr208 => ?_
          have mk210 := mo_setL mu193 (repL_snoc (e := (fun y_ : (List D) => (D.lst (y_.map (fun y_ : D => y_))))) (xs := ys190) (y := y204) hr208 h206)
          replace h2 := rep_put (o := .lst (vs207 ++ [u199])) mu193.im h2
          replace h10 := rep_put (o := .lst (vs207 ++ [u199])) mu193.im h10
          replace h14 := rep_put (o := .lst (vs207 ++ [u199])) mu193.im h14
          replace h24 := rep_put (o := .lst (vs207 ++ [u199])) mu193.im h24
          replace h179 := rep_put (o := .lst (vs207 ++ [u199])) mu193.im h179
          replace hk192 := keep_put (o := .lst (vs207 ++ [u199])) mu193.im hk192
          replace h200 := rep_put (o := .lst (vs207 ++ [u199])) mu193.im h200
          replace h206 := rep_put (o := .lst (vs207 ++ [u199])) mu193.im h206
          replace hW := wd_put (o := .lst (vs207 ++ [u199])) hW mu193
          replace mu193 := mk210
          generalize upd H203 L187 (.lst (vs207 ++ [u199])) = H211 at *
          replace mu193 : MutO (L187 :: ms) ((ap, none) :: A.tbs) H_0 H211 L187 (D.lst ((ys190 ++ [y204]).map (fun y_ : (List D) => (D.lst (y_.map (fun y_ : D => y_)))))) := mu193
          clear mk210
          exact hN195 y204 _ hM ⟨hW, hk192, mu193, by rw [List.length_append]; exact Nat.add_le_add_right ln194 1⟩
        · skip
          exact hNn196 _ hM ⟨hW, hk192, mu193, Nat.le_succ_of_le ln194⟩
      · skip
        rintro n189 ys212 H213 hM ⟨hW, hk192, mu193, ln194⟩
        replace h2 := rep_keep hk192 (rep_new nl188 h2)
        replace h10 := rep_keep hk192 (rep_new nl188 h10)
        replace h14 := rep_keep hk192 (rep_new nl188 h14)
        replace h24 := rep_keep hk192 (rep_new nl188 h24)
        replace h179 := rep_keep hk192 (rep_new nl188 h179)
        clear hk192 ln194
        have h214 := mo_rep_dr dr_here nm202 mu193
        replace hW := wd_dr dr_here mu193.hp hW
        replace h2 := rep_dr dr_here h2
        replace h10 := rep_dr dr_here h10
        replace h14 := rep_dr dr_here h14
        replace h24 := rep_dr dr_here h24
        replace h179 := rep_dr dr_here h179
        clear mu193
        refine ⟨(by show 1 ≤ sizeLine; decide), ?_⟩
        intro p215 n219
        have e216 := Rx.Ext.new (H := H213) (o := (HO.lst [V.str ("taken" : Str)])) n219
        have hp217 : upd H213 p215 (HO.lst [V.str ("taken" : Str)]) p215 = some (HO.lst [V.str ("taken" : Str)]) := upd_same
        generalize upd H213 p215 (HO.lst [V.str ("taken" : Str)]) = H220 at e216 hp217 ⊢
        have h218 : rep ms H220 (D.lst (([(D.v (V.str ("taken" : Str)))] : List D).map (fun y_ : D => y_))) (.ref p215) := rep_lst_mk hW n219 e216 hp217 (repL_cons rep_v repL_nil)
        replace h2 := rep_ext e216 h2
        replace h10 := rep_ext e216 h10
        replace h14 := rep_ext e216 h14
        replace h24 := rep_ext e216 h24
        replace h179 := rep_ext e216 h179
        replace h214 := rep_ext e216 h214
        replace hW := hW.ret0 e216
        refine ⟨(by show 1 ≤ sizeLine; decide), ?_⟩
        intro p221 n225
        have e222 := Rx.Ext.new (H := H220) (o := (HO.lst [(V.ref p215)])) n225
        have hp223 : upd H220 p221 (HO.lst [(V.ref p215)]) p221 = some (HO.lst [(V.ref p215)]) := upd_same
        generalize upd H220 p221 (HO.lst [(V.ref p215)]) = H226 at e222 hp223 ⊢
        have h224 : rep ms H226 (D.lst (([([(D.v (V.str ("taken" : Str)))] : List D)] : List (List D)).map (fun y_ : (List D) => (D.lst (y_.map (fun y_ : D => y_)))))) (.ref p221) := rep_lst_mk hW n225 e222 hp223 (repL_cons h218 repL_nil)
        replace h2 := rep_ext e222 h2
        replace h10 := rep_ext e222 h10
        replace h14 := rep_ext e222 h14
        replace h24 := rep_ext e222 h24
        replace h179 := rep_ext e222 h179
        replace h214 := rep_ext e222 h214
        replace h218 := rep_ext e222 h218
        replace hW := hW.ret0 e222
        obtain ⟨g227, hM⟩ := hM
        apply rep_cat (xs := ys212) (ys := ([([(D.v (V.str ("taken" : Str)))] : List D)] : List (List D))) (e := (fun y_ : (List D) => (D.lst (y_.map (fun y_ : D => y_))))) hW h214 h224 g227
        intro p228 H231 e230 h229
        replace h2 := rep_ext e230 h2
        replace h10 := rep_ext e230 h10
        replace h14 := rep_ext e230 h14
        replace h24 := rep_ext e230 h24
        replace h179 := rep_ext e230 h179
        replace h214 := rep_ext e230 h214
        replace h218 := rep_ext e230 h218
        replace h224 := rep_ext e230 h224
        replace hW := hW.ret0 e230
        obtain ⟨g232, g233, hM⟩ := hM
        apply rep_ixL (e := (fun y_ : (List D) => (D.lst (y_.map (fun y_ : D => y_))))) (xs := (ys212 ++ ([([(D.v (V.str ("taken" : Str)))] : List D)] : List (List D)))) h229 g232 g233
        intro u236 h234
        obtain ⟨x235, x235e⟩ : ∃ x_, x_ = (ys212 ++ ([([(D.v (V.str ("taken" : Str)))] : List D)] : List (List D)))[Int.toNat (0 : Int)]'g233 := ⟨_, rfl⟩
        rw [← x235e] at h234
        replace hM := hM x235 x235e
        refine ⟨hW.pot (A.t_is_level_right, some ((("_law_is_level_right" : Str) ++ (".<locals>." : Str)) ++ ("<lambda>" : Str))) (List.mem_cons_of_mem _ (tm_is_level_right A)), _, rfl, fun H237 e238_ t239 => ?_⟩
        have e238 : Ret ((ap, none) :: A.tbs) H231 H237 := Ret.upN (sub1 (List.mem_cons_of_mem _ (tm_is_level_right A))) (tabN T.nd_tb (tm_is_level_right A)) hW (ret_tab (q := ((("_law_is_level_right" : Str) ++ (".<locals>." : Str)) ++ ("<lambda>" : Str))) e238_ t239)
        clear e238_ t239
        replace h2 := rep_ret hW e238 h2
        replace h10 := rep_ret hW e238 h10
        replace h14 := rep_ret hW e238 h14
        replace h24 := rep_ret hW e238 h24
        replace h179 := rep_ret hW e238 h179
        replace h214 := rep_ret hW e238 h214
        replace h218 := rep_ret hW e238 h218
        replace h224 := rep_ret hW e238 h224
        replace h229 := rep_ret hW e238 h229
        replace h234 := rep_ret hW e238 h234
        replace hW := hW.retP e238
        refine ⟨ms, _, x235, _, hW.enter0, h234, fun ms_l H245 E Q KN_ KE_InvalidFirst KE_InvalidNumber hs_ el_ hWl_ hMl_ hQl_ hE_InvalidFirst hE_InvalidNumber => ?_, hM, fun r240 u243 H244 hM e242 h241 => ?_⟩
        · skip
          replace h2 := rep_lam hs_ el_ h2
          replace h10 := rep_lam hs_ el_ h10
          replace h14 := rep_lam hs_ el_ h14
          replace h24 := rep_lam hs_ el_ h24
          replace h179 := rep_lam hs_ el_ h179
          replace h214 := rep_lam hs_ el_ h214
          replace h218 := rep_lam hs_ el_ h218
          replace h224 := rep_lam hs_ el_ h224
          replace h229 := rep_lam hs_ el_ h229
          replace h234 := rep_lam hs_ el_ h234
          clear hW hM
          have hW := hWl_; have hM := hMl_; have hQ := hQl_; clear hWl_ hMl_ hQl_
          refine ⟨rfl, ?_⟩
          refine ⟨_, rfl, ?_⟩
          refine ⟨_, rfl, ?_⟩
          refine ⟨ms_l, _, _, r1.1, (D.v (V.int (r16 - (4 : Int)))), _, _, _, rfl, hW.enter0, h10, rep_v, hM, fun r251 u254 H255 hM e253 h252 => ?_, fun x256 cl257 d258 H259 hM er260 ex261 => ?_, fun x262 cl263 d264 H265 hM er266 ex267 => ?_⟩
          · skip
            replace h2 := rep_ext e253 h2
            replace h10 := rep_ext e253 h10
            replace h14 := rep_ext e253 h14
            replace h24 := rep_ext e253 h24
            replace h179 := rep_ext e253 h179
            replace h214 := rep_ext e253 h214
            replace h218 := rep_ext e253 h218
            replace h224 := rep_ext e253 h224
            replace h229 := rep_ext e253 h229
            replace h234 := rep_ext e253 h234
            replace hW := hW.ret0 e253
            exact hQ r251 _ _ hM hW.out h252
          · skip
            replace h2 := rep_ext er260 h2
            replace h10 := rep_ext er260 h10
            replace h14 := rep_ext er260 h14
            replace h24 := rep_ext er260 h24
            replace h179 := rep_ext er260 h179
            replace h214 := rep_ext er260 h214
            replace h218 := rep_ext er260 h218
            replace h224 := rep_ext er260 h224
            replace h229 := rep_ext er260 h229
            replace h234 := rep_ext er260 h234
            replace hW := hW.ret0 er260
            exact hE_InvalidFirst x256 _ _ _ hM hW.out (excR_sub (by intro a_ h_; simp [h_]) ex261)
          · skip
            replace h2 := rep_ext er266 h2
            replace h10 := rep_ext er266 h10
            replace h14 := rep_ext er266 h14
            replace h24 := rep_ext er266 h24
            replace h179 := rep_ext er266 h179
            replace h214 := rep_ext er266 h214
            replace h218 := rep_ext er266 h218
            replace h224 := rep_ext er266 h224
            replace h229 := rep_ext er266 h229
            replace h234 := rep_ext er266 h234
            replace hW := hW.ret0 er266
            exact hE_InvalidNumber x262 _ _ _ hM hW.out (excR_sub (by intro a_ h_; simp [h_]) ex267)
        · skip
          replace h2 := rep_ext e242 h2
          replace h10 := rep_ext e242 h10
          replace h14 := rep_ext e242 h14
          replace h24 := rep_ext e242 h24
          replace h179 := rep_ext e242 h179
          replace h214 := rep_ext e242 h214
          replace h218 := rep_ext e242 h218
          replace h224 := rep_ext e242 h224
          replace h229 := rep_ext e242 h229
          replace h234 := rep_ext e242 h234
          replace hW := hW.ret0 e242
          obtain rfl := of_v h241
          refine ⟨_, rfl, ?_⟩
          refine ite3 hM (fun hM => ?_) (fun hM => ?_)
          · skip
            exact hQ false _ _ hM hW.out rep_v
          · skip
            refine ⟨hW.pot (A.t_is_level_right, some ((("_law_is_level_right" : Str) ++ (".<locals>." : Str)) ++ ("<lambda>" : Str))) (List.mem_cons_of_mem _ (tm_is_level_right A)), _, rfl, fun H268 e269_ t270 => ?_⟩
            have e269 : Ret ((ap, none) :: A.tbs) H244 H268 := Ret.upN (sub1 (List.mem_cons_of_mem _ (tm_is_level_right A))) (tabN T.nd_tb (tm_is_level_right A)) hW (ret_tab (q := ((("_law_is_level_right" : Str) ++ (".<locals>." : Str)) ++ ("<lambda>" : Str))) e269_ t270)
            clear e269_ t270
            replace h2 := rep_ret hW e269 h2
            replace h10 := rep_ret hW e269 h10
            replace h14 := rep_ret hW e269 h14
            replace h24 := rep_ret hW e269 h24
            replace h179 := rep_ret hW e269 h179
            replace h214 := rep_ret hW e269 h214
            replace h218 := rep_ret hW e269 h218
            replace h224 := rep_ret hW e269 h224
            replace h229 := rep_ret hW e269 h229
            replace h234 := rep_ret hW e269 h234
            replace hW := hW.retP e269
            refine ⟨ms, _, x235, _, hW.enter0, h234, fun ms_l H276 E Q KN_ KE_InvalidFirst KE_InvalidNumber hs_ el_ hWl_ hMl_ hQl_ hE_InvalidFirst hE_InvalidNumber => ?_, hM, fun r271 u274 H275 hM e273 h272 => ?_⟩
            · skip
              replace h2 := rep_lam hs_ el_ h2
              replace h10 := rep_lam hs_ el_ h10
              replace h14 := rep_lam hs_ el_ h14
              replace h24 := rep_lam hs_ el_ h24
              replace h179 := rep_lam hs_ el_ h179
              replace h214 := rep_lam hs_ el_ h214
              replace h218 := rep_lam hs_ el_ h218
              replace h224 := rep_lam hs_ el_ h224
              replace h229 := rep_lam hs_ el_ h229
              replace h234 := rep_lam hs_ el_ h234
              clear hW hM
              have hW := hWl_; have hM := hMl_; have hQ := hQl_; clear hWl_ hMl_ hQl_
              refine ⟨rfl, ?_⟩
              refine ⟨_, rfl, ?_⟩
              refine ⟨_, rfl, ?_⟩
              refine ⟨rfl, ?_⟩
              refine ⟨ms_l, _, _, r1.1, (D.v (V.int (r16 - (4 : Int)))), _, _, _, rfl, hW.enter0, h10, rep_v, hM, fun r282 u285 H286 hM e284 h283 => ?_, fun x287 cl288 d289 H290 hM er291 ex292 => ?_, fun x293 cl294 d295 H296 hM er297 ex298 => ?_⟩
              · skip
                replace h2 := rep_ext e284 h2
                replace h10 := rep_ext e284 h10
                replace h14 := rep_ext e284 h14
                replace h24 := rep_ext e284 h24
                replace h179 := rep_ext e284 h179
                replace h214 := rep_ext e284 h214
                replace h218 := rep_ext e284 h218
                replace h224 := rep_ext e284 h224
                replace h229 := rep_ext e284 h229
                replace h234 := rep_ext e284 h234
                replace hW := hW.ret0 e284
                exact hQ r282 _ _ hM hW.out h283
              · skip
                replace h2 := rep_ext er291 h2
                replace h10 := rep_ext er291 h10
                replace h14 := rep_ext er291 h14
                replace h24 := rep_ext er291 h24
                replace h179 := rep_ext er291 h179
                replace h214 := rep_ext er291 h214
                replace h218 := rep_ext er291 h218
                replace h224 := rep_ext er291 h224
                replace h229 := rep_ext er291 h229
                replace h234 := rep_ext er291 h234
                replace hW := hW.ret0 er291
                exact hE_InvalidFirst x287 _ _ _ hM hW.out (excR_sub (by intro a_ h_; simp [h_]) ex292)
              · skip
                replace h2 := rep_ext er297 h2
                replace h10 := rep_ext er297 h10
                replace h14 := rep_ext er297 h14
                replace h24 := rep_ext er297 h24
                replace h179 := rep_ext er297 h179
                replace h214 := rep_ext er297 h214
                replace h218 := rep_ext er297 h218
                replace h224 := rep_ext er297 h224
                replace h229 := rep_ext er297 h229
                replace h234 := rep_ext er297 h234
                replace hW := hW.ret0 er297
                exact hE_InvalidNumber x293 _ _ _ hM hW.out (excR_sub (by intro a_ h_; simp [h_]) ex298)
            · skip
              replace h2 := rep_ext e273 h2
              replace h10 := rep_ext e273 h10
              replace h14 := rep_ext e273 h14
              replace h24 := rep_ext e273 h24
              replace h179 := rep_ext e273 h179
              replace h214 := rep_ext e273 h214
              replace h218 := rep_ext e273 h218
              replace h224 := rep_ext e273 h224
              replace h229 := rep_ext e273 h229
              replace h234 := rep_ext e273 h234
              replace hW := hW.ret0 e273
              obtain rfl := of_v h272
              exact hQ r271 _ _ hM hW.out rep_v
def M_right (KM : Bool → Prop) : Prop :=
  ((rangeI (0 : Int) (12 : Int)).length < 100000 ∧ mapC (fun (x12 : Int) (k5 : Bool → Prop) => (M_is_form_right  fun r18 => (k5 r18))) (rangeI (0 : Int) (12 : Int)) [] fun ys28 => (if (!(List.all ys28 id)) = true then (KM false) else ((rangeI (0 : Int) (6 : Int)).length < 100000 ∧ mapC (fun (x42 : Int) (k35 : Bool → Prop) => (M_is_level_right  fun r48 => (k35 r48))) (rangeI (0 : Int) (6 : Int)) [] fun ys58 => (KM (List.all ys58 id)))))
def sp_right (A : Ad) : Sp := fun vs H Q _ => ∃ (ms : List Addr) (ap : Addr) (KM : Bool → Prop), vs = [.ref ap] ∧ Wd ms ((ap, none) :: A.tbs) [] H H ∧ M_right  KM ∧ ∀ (r : Bool) (u : V) (H1 : Hp), KM r → Ret ((ap, none) :: A.tbs) H H1 → rep ms H1 (D.v (V.bl r)) u → Q u H1
set_option maxHeartbeats 16000000 in
theorem ok_right {P : Program} {w : World} {K : PySem.W.Frag} {mg : Str → Option Value} {base : Heap} {A : Ad} (T : Txt w K mg base A) : FnG P w K mg base 15 A.a_right A.d_right ["_law_pot_here"] (sp_right A) := by
  refine okG T.F_right sc_right (fun vs H Q E h => ?_) (fun cdv A_ outer s_ H_0 vs Q E gu hr h => ?_)
  · obtain ⟨ms, ap, KM, rfl, _⟩ := h
    rfl
  · obtain ⟨ms, ap, KM, rfl, hW, hM, hQ⟩ := h
    unfold M_right at hM
    refine ⟨_, (pss_cons (ps_if (pt_not (pt_val (pe_callB (cr_allK (K := K) rfl rfl) (by rfl) T.z_all (by decide +kernel) (pa_cons (pe_lc (own := [("_law_turn", 1)]) (g := gName 1) rfl sc_right.nd (pi_rangeW1 (by rfl) T.z_range (pa_cons pe_int pa_nil)) (blkOk_by (N := ["_law_pot_here", "_law_turn"]) (sc := defScope s_right) (by decide +kernel)) (fun _ _ _ _ _ => pg_name (i := 1) sc_right.nd rfl (by first | exact Or.inl rfl | exact Or.inr rfl)) (fun _ _ _ _ _ => pts_nil) (fun _ _ _ _ _ => (pe_callG (ok_is_form_right T) gu (hr.mono (by decide)) (by rfl) T.g_is_form_right T.F_is_form_right.kp T.b_is_form_right (pa_cons (pv 0) pa_nil)))) pa_nil)))) (pss_one (ps_ret pe_bl)) pss_nil) (pss_one (ps_ret (pe_callB (cr_allK (K := K) rfl rfl) (by rfl) T.z_all (by decide +kernel) (pa_cons (pe_lc (own := [("_law_turn", 1)]) (g := gName 1) rfl sc_right.nd (pi_rangeW1 (by rfl) T.z_range (pa_cons pe_int pa_nil)) (blkOk_by (N := ["_law_pot_here", "_law_turn"]) (sc := defScope s_right) (by decide +kernel)) (fun _ _ _ _ _ => pg_name (i := 1) sc_right.nd rfl (by first | exact Or.inl rfl | exact Or.inr rfl)) (fun _ _ _ _ _ => pts_nil) (fun _ _ _ _ _ => (pe_callG (ok_is_level_right T) gu (hr.mono (by decide)) (by rfl) T.g_is_level_right T.F_is_level_right.kp T.b_is_level_right (pa_cons (pv 0) pa_nil)))) pa_nil))))), ?_⟩
    refine ⟨_, rfl, ?_⟩
    refine fun L1 nl2 => ?_
    have nm16 := nm_new hW nl2
    refine lc_rangeG (L := L1) (fun n_ ys_ h_ => Wd (L1 :: ms) ((ap, none) :: A.tbs) [] H_0 h_ ∧ Keep (L1 :: ms) H_0 h_ ∧ MutO (L1 :: ms) ((ap, none) :: A.tbs) H_0 h_ L1 (D.lst (ys_.map (fun y_ : Bool => (D.v (V.bl y_))))) ∧ ys_.length ≤ n_) (lo := (0 : Int)) (hi := (12 : Int)) (N := Int.toNat (12 : Int)) (by simp) hM ⟨wd_cell hW nl2, keep_cell nl2 Keep.refl, mo_newL (ds := []) hW nl2 repL_nil, Nat.le_refl _⟩ ?_ ?_
    · skip
      rintro x12  n3 ys4 k5 H17 hn ⟨hW, hk6, mu7, ln8⟩ hM Nx11 hN9
      refine ⟨rfl, ?_⟩
      refine tyes_of ?_
      refine ⟨_, rfl, ?_⟩
      refine ⟨(L1 :: ms), ap, _, rfl, hW.enterP, hM, fun r18 u21 H22 hM e20 h19 => ?_⟩
      replace hk6 := keep_ret hW e20 hk6
      replace mu7 := mo_ret hW e20 mu7
      replace hW := hW.retP e20
      obtain rfl := of_v h19
      refine mo_end mu7 hn (by rw [List.length_map]; exact ln8) fun vs23 hr24 => ?_
      have mk26 := mo_setL mu7 (repL_snoc (e := (fun y_ : Bool => (D.v (V.bl y_)))) (xs := ys4) (y := r18) hr24 rep_v)
      replace hk6 := keep_put (o := .lst (vs23 ++ [V.bl r18])) mu7.im hk6
      replace hW := wd_put (o := .lst (vs23 ++ [V.bl r18])) hW mu7
      replace mu7 := mk26
      generalize upd H22 L1 (.lst (vs23 ++ [V.bl r18])) = H27 at *
      replace mu7 : MutO (L1 :: ms) ((ap, none) :: A.tbs) H_0 H27 L1 (D.lst ((ys4 ++ [r18]).map (fun y_ : Bool => (D.v (V.bl y_))))) := mu7
      clear mk26
      exact hN9 r18 _ hM ⟨hW, hk6, mu7, by rw [List.length_append]; exact Nat.add_le_add_right ln8 1⟩
    · skip
      rintro n3 ys28 H29 hM ⟨hW, hk6, mu7, ln8⟩
      clear hk6 ln8
      have h30 := mo_rep_dr dr_here nm16 mu7
      replace hW := wd_dr dr_here mu7.hp hW
      clear mu7
      apply rep_all h30
      refine ⟨_, rfl, ?_⟩
      refine ite3 hM (fun hM => ?_) (fun hM => ?_)
      · skip
        exact hQ false _ _ hM hW.out rep_v
      · skip
        refine ⟨_, rfl, ?_⟩
        refine fun L31 nl32 => ?_
        have nm46 := nm_new hW nl32
        refine lc_rangeG (L := L31) (fun n_ ys_ h_ => Wd (L31 :: ms) ((ap, none) :: A.tbs) [] H_0 h_ ∧ Keep (L31 :: ms) H29 h_ ∧ MutO (L31 :: ms) ((ap, none) :: A.tbs) H_0 h_ L31 (D.lst (ys_.map (fun y_ : Bool => (D.v (V.bl y_))))) ∧ ys_.length ≤ n_) (lo := (0 : Int)) (hi := (6 : Int)) (N := Int.toNat (6 : Int)) (by simp) hM ⟨wd_cell hW nl32, keep_cell nl32 Keep.refl, mo_newL (ds := []) hW nl32 repL_nil, Nat.le_refl _⟩ ?_ ?_
        · skip
          rintro x42  n33 ys34 k35 H47 hn ⟨hW, hk36, mu37, ln38⟩ hM Nx41 hN39
          replace h30 := rep_keep hk36 (rep_new nl32 h30)
          refine ⟨rfl, ?_⟩
          refine tyes_of ?_
          refine ⟨_, rfl, ?_⟩
          refine ⟨(L31 :: ms), ap, _, rfl, hW.enterP, hM, fun r48 u51 H52 hM e50 h49 => ?_⟩
          replace h30 := rep_ret hW e50 h30
          replace hk36 := keep_ret hW e50 hk36
          replace mu37 := mo_ret hW e50 mu37
          replace hW := hW.retP e50
          obtain rfl := of_v h49
          refine mo_end mu37 hn (by rw [List.length_map]; exact ln38) fun vs53 hr54 => ?_
          have mk56 := mo_setL mu37 (repL_snoc (e := (fun y_ : Bool => (D.v (V.bl y_)))) (xs := ys34) (y := r48) hr54 rep_v)
          replace h30 := rep_put (o := .lst (vs53 ++ [V.bl r48])) mu37.im h30
          replace hk36 := keep_put (o := .lst (vs53 ++ [V.bl r48])) mu37.im hk36
          replace hW := wd_put (o := .lst (vs53 ++ [V.bl r48])) hW mu37
          replace mu37 := mk56
          generalize upd H52 L31 (.lst (vs53 ++ [V.bl r48])) = H57 at *
          replace mu37 : MutO (L31 :: ms) ((ap, none) :: A.tbs) H_0 H57 L31 (D.lst ((ys34 ++ [r48]).map (fun y_ : Bool => (D.v (V.bl y_))))) := mu37
          clear mk56
          exact hN39 r48 _ hM ⟨hW, hk36, mu37, by rw [List.length_append]; exact Nat.add_le_add_right ln38 1⟩
        · skip
          rintro n33 ys58 H59 hM ⟨hW, hk36, mu37, ln38⟩
          replace h30 := rep_keep hk36 (rep_new nl32 h30)
          clear hk36 ln38
          have h60 := mo_rep_dr dr_here nm46 mu37
          replace hW := wd_dr dr_here mu37.hp hW
          replace h30 := rep_dr dr_here h30
          clear mu37
          apply rep_all h60
          exact hQ (List.all ys58 id) _ _ hM hW.out rep_v
/-! ### the pot of a cell, and the law -/
def sp_pot (K : PySem.W.Frag) : Sp := fun vs H Q _ => ∃ (a : Addr) (ns : List Int) (k : Int), vs = [.ref a, .int k] ∧ SqL K H a (ns.map V.int) ∧ ns.length ≤ 63 ∧ 0 ≤ k ∧ k ≤ 100 ∧
  ∀ (p : Addr) (H1 : Hp) (i j : Int), H p = none → Rx.Ext H H1 → H1 p = some (.lst [.int i, .int j]) → j.natAbs < 4294967296 → Q (.ref p) H1
theorem ok_pot {P : Program} {w : World} {K : PySem.W.Frag} {mg : Str → Option Value} {base : Heap} {A : Ad} (T : Txt w K mg base A) : FnOk P w K mg base CX0 1 A.a_pot A.d_pot ["_law_script", "_law_k"] (sp_pot K) := by
  refine T.F_pot.ok sc_pot (fun vs H Q E h => ?_) (fun cdv A_ outer s_ H_0 vs Q E hr h => ?_)
  · obtain ⟨a, ns, k, rfl, _⟩ := h
    rfl
  · obtain ⟨a, ns, k, rfl, hS, hl, k0, k1, hQ⟩ := h
    refine ⟨_, pss_cons (ps_set (i := 2) sc_pot.nd rfl (.inl rfl) (pe_op op_add (pe_op op_mul pe_int (pv 1)) pe_int))
      (pss_cons (ps_if (pt_cmpR op_lt (pv 1) (pe_callB call_len (by rfl) T.z_len PySem.boot_len (pa_cons (pv 0) pa_nil)) (nomark _))
        (pss_one (ps_set (i := 2) sc_pot.nd rfl (.inl rfl) (pe_callB call_abs (by rfl) T.z_abs (by decide +kernel) (pa_cons (pe_ix ix_list (pv 0) (pv 1) (fun _ _ => rfl)) pa_nil)))) pss_nil)
      (pss_one (ps_ret (pe_lst (pa_cons (pe_callB (call_max2 rfl) (by rfl) T.z_max (by decide +kernel) (pa_cons pe_int (pa_cons (pe_op op_sub (pv 2) (pe_op op_pow pe_int pe_int)) pa_nil)))
        (pa_cons (pe_op op_add (pe_op op_mod (pe_op op_mul (pe_callTy call_int1 (by rfl) T.z_int (by decide +kernel) (pa_cons (pe_op op_add (pe_op op_mod (pe_callTy call_int1 (by rfl) T.z_int (by decide +kernel) (pa_cons (pv 2) pa_nil)) pe_int) pe_int) pa_nil))
          (pe_op op_pow (pe_op op_add (pe_op op_mul pe_int (pv 1)) pe_int) pe_int)) pe_int) pe_int) pa_nil)))))), ?_⟩
    refine ⟨_, rfl, _, _, rfl, rfl, .inl ⟨by decide, by decide⟩, _, _, rfl, rfl, ?_⟩
    refine ⟨_, rfl, _, rfl, _, ns.length, rfl, .inl ⟨_, hS, by rw [List.length_map]⟩, _, _, rfl, rfl, _, rfl, ?_⟩
    have fin : ∀ (c : Int) (p : Addr) (x y : Int), H_0 p = none → Q (.ref p) (upd H_0 p (.lst [.int x, .int (y % 2147483477 + 1)])) := fun c p x y np =>
      hQ p _ _ _ np (Rx.Ext.new np) upd_same (by omega)
    refine ite2 (fun c => ?_) (fun c => ?_)
    · have hk : k.toNat < ns.length := by
        have := of_decide_eq_true c
        omega
      refine ⟨_, rfl, _, rfl, a, _, k, .int (ns[k.toNat]), rfl, rfl, hS, at_of (j := k.toNat) (by omega) (by rw [List.getElem?_map, List.getElem?_eq_getElem hk]; rfl), _, rfl, ?_⟩
      refine ⟨_, rfl, _, _, rfl, rfl, ⟨by decide, by decide, by decide⟩, _, _, rfl, rfl, _, _, rfl, _, rfl, .inl ⟨_, rfl, _, _, rfl, rfl, (by show (0 : Int) < 2147483549; decide), _, _, rfl, rfl, .inl ⟨_, rfl, _, rfl, _, _, rfl, rfl, .inl ⟨by decide, by decide⟩, _, _, rfl, rfl, _, _, rfl, rfl, ⟨by decide, by decide, by show (2 * k + 3).natAbs < 2 ^ 64; omega⟩, _, _, rfl, rfl, ?_, _, _, rfl, rfl, (by show (0 : Int) < 2147483477; decide), _, _, rfl, rfl, (by show 2 ≤ sizeLine; decide), fun p np => fin 0 p _ _ np⟩⟩⟩
      exact .inl ⟨by omega, by omega⟩
    · refine ⟨_, rfl, _, _, rfl, rfl, ⟨by decide, by decide, by decide⟩, _, _, rfl, rfl, _, _, rfl, _, rfl, .inl ⟨_, rfl, _, _, rfl, rfl, (by show (0 : Int) < 2147483549; decide), _, _, rfl, rfl, .inl ⟨_, rfl, _, rfl, _, _, rfl, rfl, .inl ⟨by decide, by decide⟩, _, _, rfl, rfl, _, _, rfl, rfl, ⟨by decide, by decide, by show (2 * k + 3).natAbs < 2 ^ 64; omega⟩, _, _, rfl, rfl, ?_, _, _, rfl, rfl, (by show (0 : Int) < 2147483477; decide), _, _, rfl, rfl, (by show 2 ≤ sizeLine; decide), fun p np => fin 0 p _ _ np⟩⟩⟩
      exact .inl ⟨by omega, by omega⟩

open Wm
set_option exponentiation.threshold 20000
open Wm
set_option exponentiation.threshold 20000
abbrev Row := Int × Int × Int
theorem len_app (a b : Str) : (a ++ b).length = a.length + b.length := by
  rw [len_L, len_L, len_L, L_app, List.length_append]
theorem textFrom_le : ∀ {ts : List Str} {i : Nat} {acc : Str} {n : Nat}, (∀ t ∈ ts, t.length ≤ n) → (textFrom i acc ts).length ≤ acc.length + ts.length * (n + 2)
  | [], i, acc, n, _ => by
    show acc.length ≤ acc.length + 0 * (n + 2)
    omega
  | t :: ts, i, acc, n, h => by
    have h1 := h t List.mem_cons_self
    have ih := textFrom_le (ts := ts) (i := i + 1) (acc := acc ++ (if i > 0 then ", " else "" : String) ++ t) (n := n) fun t ht => h t (List.mem_cons_of_mem _ ht)
    show (textFrom (i + 1) (acc ++ (if i > 0 then ", " else "" : String) ++ t) ts).length ≤ _
    refine Nat.le_trans ih ?_
    have e : ((if i > 0 then ", " else "" : String) : Str).length ≤ 2 := by
      split <;> decide +kernel
    rw [len_app, len_app, List.length_cons, Nat.succ_mul]
    omega
theorem piled_le : ∀ {ts : List Str} {n : Nat}, (∀ t ∈ ts, t.length ≤ n) → piled ts ≤ ts.length * (n + 2)
  | [], n, _ => by
    rw [piled_nil]
    exact Nat.zero_le _
  | t :: ts, n, h => by
    have := piled_le (ts := ts) (n := n) fun x hx => h x (List.mem_cons_of_mem _ hx)
    have := h t List.mem_cons_self
    rw [piled_cons, List.length_cons, Nat.succ_mul]
    omega
theorem tup_text (ts : List Str) : (tupleText ts).length ≤ piled ts + 2 := by
  have e3 : (((if ts.length == 1 then ",)" else ")" : String) : Str)).length ≤ 2 := by split <;> decide +kernel
  have e1 : ((("(" : String) : Str)).length = 1 := rfl
  unfold tupleText
  rw [strLen_append, strLen_append, e1]
  by_cases h : ts = []
  · subst h
    decide +kernel
  · have := join_length_add ts h
    omega
theorem bd_mono {x : Int} {a b : Nat} (hx : x.natAbs < 2 ^ a) (h : a ≤ b) : x.natAbs < 2 ^ b := Nat.lt_of_lt_of_le hx (Nat.pow_le_pow_right (by decide) h)
def RBr (r : Row) (k : Nat) : Prop := r.1.natAbs < 2 ^ k ∧ r.2.1.natAbs < 2 ^ k ∧ r.2.2.natAbs < 2 ^ k
theorem getE {α : Type} {xs : List α} {j : Nat} {d : α} (h : j < xs.length) : xs[j]'h = xs.getD j d := by
  rw [List.getD_eq_getElem?_getD, List.getElem?_eq_getElem h]
  rfl
theorem rng0 (n : Nat) : rangeI 0 (n : Int) = (List.range n).map fun i : Nat => (i : Int) := by
  unfold rangeI
  simp
theorem rangeI_cons {lo hi : Int} (h : lo < hi) : rangeI lo hi = lo :: rangeI (lo + 1) hi := by
  apply List.ext_getElem?
  intro i
  cases i with
  | zero => rw [rangeI_get (by omega)]; simp
  | succ i =>
    rw [List.getElem?_cons_succ]
    by_cases c : i < (hi - (lo + 1)).toNat
    · rw [rangeI_get (by omega), rangeI_get c]
      congr 1
      omega
    · rw [List.getElem?_eq_none (by rw [rangeI_len]; omega), List.getElem?_eq_none (by rw [rangeI_len]; omega)]
theorem log_lt {x : Int} {a : Nat} (h0 : 0 < a) (h : x.natAbs < 2 ^ a) (ha : a ≤ 9000) : x.natAbs.log2 < 9000 := Nat.lt_of_lt_of_le (PySem.Flt.log2_lt_of h0 h) ha
theorem drawW_ok {n : Int} {K : Int → Prop} (h0 : 0 < n) (h1 : n.natAbs < 2 ^ 100) (q : ∀ d, 0 ≤ d → d < n → K d) : M_draw n K := ⟨⟨h0, log_lt (by decide) h1 (by decide)⟩, q⟩
theorem pick_ok {xs : List Int} {K : Int → Prop} (h0 : 0 < xs.length) (h1 : xs.length < 1000) (q : ∀ x ∈ xs, K x) : M_pick xs K := by
  refine drawW_ok (by omega) (by rw [Int.natAbs_natCast]; omega) fun d d0 d1 => ⟨d0, by omega, fun x hx => ?_⟩
  rw [hx]
  exact q _ (List.getElem_mem _)
theorem pickD_ok {xs : List D} {K : D → Prop} (h0 : 0 < xs.length) (h1 : xs.length < 1000) (q : ∀ x ∈ xs, K x) : M_pick_plD xs K := by
  refine drawW_ok (by omega) (by rw [Int.natAbs_natCast]; omega) fun d d0 d1 => ⟨d0, by omega, fun x hx => ?_⟩
  rw [hx]
  exact q _ (List.getElem_mem _)

/-! values of any kind, and how long their texts are -/
abbrev TX (x : D) : Prop := plainX x = true ∧ (pyX x).showable = true ∧ (pyX x).depth ≤ 60 ∧ (pyX x).shown.length ≤ sizeLine
structure OkX (d : D) (k n : Nat) : Prop where
  pl : plainX d = true
  sw : (pyX d).showable = true
  dp : (pyX d).depth ≤ k
  ln : (pyX d).shown.length ≤ n
theorem OkX.tx {d : D} {k n : Nat} (h : OkX d k n) (hk : k ≤ 60) (hn : n ≤ 16777216) : TX d := ⟨h.pl, h.sw, Nat.le_trans h.dp hk, by rw [sizeLine_eq]; exact Nat.le_trans h.ln hn⟩
theorem OkX.mono {d : D} {k n k' n' : Nat} (h : OkX d k n) (hk : k ≤ k') (hn : n ≤ n') : OkX d k' n' := ⟨h.pl, h.sw, Nat.le_trans h.dp hk, Nat.le_trans h.ln hn⟩
theorem okx_int {i : Int} (h : i.natAbs < 2 ^ 1920) : OkX (D.v (V.int i)) 1 1921 := by
  have l : i.natAbs.log2 < 1920 := PySem.Flt.log2_lt_of (by decide) h
  refine ⟨rfl, decide_eq_true l, ?_, int_text_len_1921 l⟩
  simp [pyX, PyData.depth]
theorem shownXs_len : ∀ ds : List D, (PyData.shownAll (pyXs ds)).length = ds.length
  | [] => rfl
  | d :: ds => by
    simp only [pyXs, PyData.shownAll, List.length_cons, shownXs_len ds]
theorem okx_all {k n : Nat} : ∀ {ds : List D}, (∀ d ∈ ds, OkX d k n) → plainXs ds = true ∧ PyData.showableAll (pyXs ds) = true ∧ PyData.depthAll (pyXs ds) ≤ k ∧ (∀ t ∈ PyData.shownAll (pyXs ds), t.length ≤ n)
  | [], _ => ⟨rfl, rfl, by simp [pyXs, PyData.depthAll], fun t ht => by simp [pyXs, PyData.shownAll] at ht⟩
  | d :: ds, h => by
    obtain ⟨a1, a2, a4, a5⟩ := okx_all (ds := ds) fun e he => h e (List.mem_cons_of_mem _ he)
    have hd := h d List.mem_cons_self
    refine ⟨?_, ?_, ?_, ?_⟩
    · simp only [plainXs, hd.pl, a1, Bool.and_self]
    · simp only [pyXs, PyData.showableAll, hd.sw, a2, Bool.and_self]
    · simp only [pyXs, PyData.depthAll]
      have := hd.dp
      omega
    · intro t ht
      simp only [pyXs, PyData.shownAll, List.mem_cons] at ht
      rcases ht with rfl | ht
      · exact hd.ln
      · exact a5 t ht
theorem okx_lst {ds : List D} {k n m : Nat} (h : ∀ d ∈ ds, OkX d k n) (hm : ds.length ≤ m) : OkX (D.lst ds) (k + 1) (m * (n + 2) + 2) := by
  obtain ⟨a1, a2, a4, a5⟩ := okx_all h
  refine ⟨?_, ?_, ?_, ?_⟩
  · simp only [plainX]; exact a1
  · simp only [pyX, PyData.showable]; exact a2
  · simp only [pyX, PyData.depth]; omega
  · simp only [pyX, PyData.shown]
    unfold listText
    rw [len_app]
    have t := textFrom_le (i := 0) (acc := "[") a5
    rw [shownXs_len] at t
    have l1 : (("[" : String) : Str).length = 1 := by decide +kernel
    have l2 : (("]" : String) : Str).length = 1 := by decide +kernel
    have : ds.length * (n + 2) ≤ m * (n + 2) := Nat.mul_le_mul_right _ hm
    first
      | omega
      | (show (textFrom 0 ("[" : Str) _).length + ("]" : Str).length ≤ _; have l3 : ("[" : Str).length = 1 := by decide +kernel; have l4 : ("]" : Str).length = 1 := by decide +kernel; omega)
theorem okx_tup {ds : List D} {k n m : Nat} (h : ∀ d ∈ ds, OkX d k n) (hm : ds.length ≤ m) : OkX (D.tup ds) (k + 1) (m * (n + 2) + 2) := by
  obtain ⟨a1, a2, a4, a5⟩ := okx_all h
  refine ⟨?_, ?_, ?_, ?_⟩
  · simp only [plainX]; exact a1
  · simp only [pyX, PyData.showable]; exact a2
  · simp only [pyX, PyData.depth]; omega
  · simp only [pyX, PyData.shown]
    have t := tup_text (PyData.shownAll (pyXs ds))
    have p := piled_le a5
    rw [shownXs_len] at p
    have : ds.length * (n + 2) ≤ m * (n + 2) := Nat.mul_le_mul_right _ hm
    omega
theorem okx_sq {α : Type} {f : α → D} {m : Bool × List α} {k n l : Nat} (h : ∀ x ∈ m.2, OkX (f x) k n) (hl : m.2.length ≤ l) : OkX (eSq f m) (k + 1) (l * (n + 2) + 2) := by
  obtain ⟨b, xs⟩ := m
  have h' : ∀ d ∈ xs.map f, OkX d k n := fun d hd => by
    obtain ⟨x, hx, rfl⟩ := List.mem_map.mp hd
    exact h x hx
  cases b with
  | true => exact okx_tup h' (by rw [List.length_map]; exact hl)
  | false => exact okx_lst h' (by rw [List.length_map]; exact hl)
/-- the odd values that the law draws -/
def okb (k n : Nat) (d : D) : Bool := plainX d && ((pyX d).showable && (decide ((pyX d).depth ≤ k) && decide ((pyX d).shown.length ≤ n)))
theorem okb_ok {k n : Nat} {d : D} (h : okb k n d = true) : OkX d k n := by
  unfold okb at h
  simp only [Bool.and_eq_true, decide_eq_true_eq] at h
  exact ⟨h.1, h.2.1, h.2.2.1, h.2.2.2⟩
def intOf : D → Option Int
  | .v (.int i) => some i
  | _ => none
theorem intOf_is {d : D} {i : Int} (h : intOf d = some i) : d = D.v (V.int i) := by
  unfold intOf at h
  split at h
  · cases h
    rfl
  · cases h
theorem isT_at {d : D} {t b : String} (e : tyN d = t) : isT d b = (kitB t b).getD false := by
  unfold isT
  rw [e]
theorem isInt_is {d : D} (h : tyOk d = true) : (isT d "int" && !isT d "bool") = (intOf d).isSome := by
  cases d with
  | v x =>
    cases x with
    | non => rw [isT_at (t := "NoneType") rfl, isT_at (t := "NoneType") rfl]; show _ = false; decide +kernel
    | bl b => rw [isT_at (t := "bool") rfl, isT_at (t := "bool") rfl]; show _ = false; decide +kernel
    | int i => rw [isT_at (t := "int") rfl, isT_at (t := "int") rfl]; show _ = true; decide +kernel
    | str s => rw [isT_at (t := "str") rfl, isT_at (t := "str") rfl]; show _ = false; decide +kernel
    | _ => cases h
  | lst _ => rw [isT_at (t := "list") rfl, isT_at (t := "list") rfl]; show _ = false; decide +kernel
  | tup _ => rw [isT_at (t := "tuple") rfl, isT_at (t := "tuple") rfl]; show _ = false; decide +kernel
  | dct _ _ => rw [isT_at (t := "dict") rfl, isT_at (t := "dict") rfl]; show _ = false; decide +kernel
  | dcT _ _ => rw [isT_at (t := "dict") rfl, isT_at (t := "dict") rfl]; show _ = false; decide +kernel
  | ins _ _ _ => cases h
theorem int_ok {d : D} (h : tyOk d = true) {k : Bool → Prop} (q : k (intOf d).isSome) : M_is_integer d k := by
  rw [← isInt_is h] at q
  refine ⟨h, ?_⟩
  by_cases c : isT d "int" = true
  · rw [if_pos c]
    rw [c, Bool.true_and] at q
    exact ⟨h, q⟩
  · rw [if_neg c]
    rw [Bool.not_eq_true] at c
    rw [c, Bool.false_and] at q
    exact q
def cntB (d : D) : Bool := match intOf d with
  | some i => decide (0 ≤ i)
  | none => false
theorem count_ok {d : D} (h : tyOk d = true) {k : Bool → Prop} (q : k (cntB d)) : M_is_count d k := by
  refine int_ok h ?_
  unfold cntB at q
  cases e : intOf d with
  | none =>
    rw [e] at q
    exact q
  | some i =>
    rw [e] at q
    exact ⟨i, intOf_is e, q⟩
theorem first_any {d : D} (h : tyOk d = true) {km : Unit → Prop} {ke : D → Prop} (q1 : cntB d = true → km ()) (q2 : cntB d = false → ke d) : M_check_first d km ke := by
  unfold M_check_first
  refine count_ok h ?_
  cases e : cntB d with
  | true =>
    rw [if_neg (by decide)]
    exact q1 e
  | false =>
    rw [if_pos (by decide)]
    exact q2 e
theorem cntB_of {d : D} (h : cntB d = true) : ∃ i, d = D.v (V.int i) ∧ 0 ≤ i := by
  unfold cntB at h
  cases e : intOf d with
  | none =>
    rw [e] at h
    cases h
  | some i =>
    rw [e] at h
    exact ⟨i, intOf_is e, of_decide_eq_true h⟩
/-! rows -/
abbrev eI (y : Int) : D := D.v (V.int y)
abbrev eR (y : Row) : D := D.tup [D.v (V.int y.1), D.v (V.int y.2.1), D.v (V.int y.2.2)]
def isI (d : D) : Bool := (intOf d).isSome
def rowB : D → Bool
  | .tup [a, b, c] => isI a && (isI b && isI c)
  | _ => false
def okT : D → Bool
  | .tup [a, b, c] => tyOk a && tyOk b && tyOk c
  | d => tyOk d
theorem okT_ty {d : D} (h : okT d = true) : tyOk d = true := by
  unfold okT at h
  split at h
  · rfl
  · exact h
theorem not_tup {d : D} (h : tyOk d = true) (n : ∀ ds, d ≠ D.tup ds) : isT d "tuple" = false := by
  cases d with
  | v x =>
    cases x with
    | str s => rw [isT_at (t := "str") rfl]; decide +kernel
    | non => rw [isT_at (t := "NoneType") rfl]; decide +kernel
    | bl b => rw [isT_at (t := "bool") rfl]; decide +kernel
    | int i => rw [isT_at (t := "int") rfl]; decide +kernel
    | _ => cases h
  | lst _ => rw [isT_at (t := "list") rfl]; decide +kernel
  | tup ds => exact absurd rfl (n ds)
  | dct _ _ => rw [isT_at (t := "dict") rfl]; decide +kernel
  | dcT _ _ => rw [isT_at (t := "dict") rfl]; decide +kernel
  | ins _ _ _ => cases h
theorem row_any {d : D} (h : okT d = true) {k : Bool → Prop} (q : k (rowB d)) : M_is_row d k := by
  refine ⟨okT_ty h, ?_⟩
  by_cases t : ∃ ds, d = D.tup ds
  · obtain ⟨ds, rfl⟩ := t
    rw [if_pos (by rw [isT_at (t := "tuple") rfl]; decide +kernel)]
    refine ⟨ds, by rw [List.map_id'], ?_⟩
    by_cases l3 : ds.length = 3
    · rw [if_pos (by rw [l3]; decide)]
      match ds, l3 with
      | [a, b, c], _ =>
        have h' : (tyOk a && tyOk b && tyOk c) = true := h
        simp only [Bool.and_eq_true] at h'
        obtain ⟨⟨ha, hb⟩, hc⟩ := h'
        refine ⟨by simp, mapC_ok isI (fun x hx k' hk => int_ok ?_ hk) ?_⟩
        · simp only [List.mem_cons, List.not_mem_nil, or_false] at hx
          rcases hx with rfl | rfl | rfl
          · exact ha
          · exact hb
          · exact hc
        · have q' : k (isI a && (isI b && isI c)) := q
          have e : List.all ([] ++ [a, b, c].map isI) id = (isI a && (isI b && isI c)) := by simp
          rw [e]
          exact q'
    · rw [if_neg (by
        have : decide (V.int (ds.length : Int) = V.int 3) = false := decide_eq_false fun z => l3 (by have := V.int.inj z; omega)
        rw [this]
        decide)]
      have : rowB (D.tup ds) = false := by
        unfold rowB
        split
        · rename_i e
          cases e
          exact absurd rfl l3
        · rfl
      rw [this] at q
      exact q
  · rw [not_tup (okT_ty h) fun ds z => t ⟨ds, z⟩]
    rw [if_neg (by decide)]
    have : rowB d = false := by
      unfold rowB
      split
      · exact absurd ⟨_, rfl⟩ t
      · rfl
    rw [this] at q
    exact q
/-! a list or a tuple of such values -/
structure IsSq (x : D) (ds : List D) : Prop where
  ex : ∃ t : Bool, x = eSq (fun y_ : D => y_) (t, ds)
theorem sq_list {x : D} {ds : List D} (h : IsSq x ds) {k : Bool → Prop} (q : k true) : M_is_list x k := by
  obtain ⟨t, rfl⟩ := h
  cases t with
  | false =>
    refine ⟨rfl, ?_⟩
    have e1 : isT (eSq (fun y_ : D => y_) (false, ds)) "list" = true := by rw [isT_at (t := "list") rfl]; decide +kernel
    rw [e1]
    exact q
  | true =>
    refine ⟨rfl, ?_⟩
    have e1 : isT (eSq (fun y_ : D => y_) (true, ds)) "tuple" = true := by rw [isT_at (t := "tuple") rfl]; decide +kernel
    rw [e1, Bool.or_true]
    exact q
theorem sq_noI {α : Type} {f : α → D} {m : Bool × List α} : noI (eSq f m) = true := by
  obtain ⟨b, l⟩ := m
  cases b <;> rfl
theorem sq_of {α : Type} {f : α → D} {t : Bool} {xs : List α} : IsSq (eSq f (t, xs)) (xs.map f) := ⟨t, by
  unfold eSq
  dsimp only
  rw [List.map_id']⟩
theorem rangeI_step {a b : Int} (h : a < b) : rangeI a b = a :: rangeI (a + 1) b := by
  unfold rangeI
  have e : (b - a).toNat = (b - (a + 1)).toNat + 1 := by omega
  rw [e, List.range_succ_eq_map, List.map_cons, List.map_map]
  congr 1
  · simp
  · refine List.map_congr_left fun i _ => ?_
    simp only [Function.comp]
    omega
theorem forC_hd {α S : Type} {body : α → S → (S → Prop) → Prop} {x : α} {xs : List α} {s : S} {k : S → Prop} (q : body x s fun s' => forC body xs s' k) : forC body (x :: xs) s k := q
/-- a walk over a list with its places: all are right so far -/
theorem walk_pre {body : (Int × D) → Unit → (Unit → Prop) → Prop} {good : D → Prop} {rest : List D} {k : Unit → Prop} {b : Int} (hg : ∀ (i : Int) (d : D) (k' : Unit → Prop), good d → k' () → body (i, d) () k') :
    ∀ (ds : List D) (a : Int), a + ds.length ≤ b → (∀ d ∈ ds, good d) → forC body ((rangeI (a + ds.length) b).zip rest) () k → forC body ((rangeI a b).zip (ds ++ rest)) () k
  | [], a, _, _, q => by
    rw [show a + (([] : List D).length : Int) = a by simp] at q
    exact q
  | d :: ds, a, hb, hv, q => by
    rw [List.length_cons] at hb
    rw [rangeI_step (show a < b by omega), List.cons_append, List.zip_cons_cons]
    refine hg a d _ (hv d List.mem_cons_self) (walk_pre hg ds (a + 1) (by omega) (fun e he => hv e (List.mem_cons_of_mem _ he)) ?_)
    rw [show a + 1 + (ds.length : Int) = a + ((d :: ds).length : Int) by rw [List.length_cons]; omega]
    exact q
section
variable {x : D} {KM : Unit → Prop} {KE : D → Prop}
theorem vals_no (h : tyOk x = true) (n : (isT x "list" || isT x "tuple") = false) (q : KE (D.v V.non)) : M_check_values x KM KE := by
  refine ⟨h, ?_⟩
  rw [n]
  exact q
theorem vals_step (i : Int) (d : D) (k' : Unit → Prop) (hd : tyOk d = true ∧ isI d = true) (q : k' ()) : M_is_integer d fun r41 => (if (!r41) = true then (KE (D.v (V.int i))) else (k' ())) := by
  refine int_ok hd.1 ?_
  rw [show (intOf d).isSome = true from hd.2, if_neg (by decide)]
  exact q
theorem vals_bad {pre post : List D} {d : D} (h : IsSq x (pre ++ d :: post)) (hp : ∀ e ∈ pre, tyOk e = true ∧ isI e = true) (hd : tyOk d = true ∧ isI d = false) (q : KE (D.v (V.int pre.length))) : M_check_values x KM KE := by
  refine sq_list h ?_
  show if (!true) = true then _ else _
  rw [if_neg (by decide)]
  obtain ⟨t, e⟩ := h
  refine ⟨(t, _), e, ?_⟩
  refine walk_pre (good := fun d => tyOk d = true ∧ isI d = true) vals_step pre 0 (by dsimp only; rw [List.length_append]; omega) hp ?_
  rw [Int.zero_add, rangeI_step (by dsimp only; rw [List.length_append, List.length_cons]; omega), List.zip_cons_cons]
  refine forC_hd (int_ok hd.1 ?_)
  rw [show (intOf d).isSome = false from hd.2, if_pos (by decide)]
  exact q
theorem vals_all {ds : List D} (h : IsSq x ds) (hp : ∀ e ∈ ds, tyOk e = true ∧ isI e = true) (q : KM ()) : M_check_values x KM KE := by
  refine sq_list h ?_
  show if (!true) = true then _ else _
  rw [if_neg (by decide)]
  obtain ⟨t, e⟩ := h
  refine ⟨(t, ds), e, ?_⟩
  dsimp only
  have z : ds = ds ++ [] := (List.append_nil ds).symm
  rw [z]
  refine walk_pre (good := fun d => tyOk d = true ∧ isI d = true) vals_step ds 0 (by rw [List.append_nil]; omega) hp ?_
  rw [List.zip_nil_right]
  exact q
theorem rows_no (h : tyOk x = true) (n : (isT x "list" || isT x "tuple") = false) (q : KE (D.v V.non)) : M_check_rows x KM KE := by
  refine ⟨h, ?_⟩
  rw [n]
  exact q
theorem rows_empty (h : IsSq x []) (q : KE (D.v V.non)) : M_check_rows x KM KE := by
  refine sq_list h ?_
  show if (!true) = true then _ else _
  rw [if_neg (by decide)]
  obtain ⟨t, e⟩ := h
  refine ⟨(t, []), e, ?_⟩
  rw [if_pos (show decide (V.int (((t, ([] : List D)).2.length : Nat) : Int) = V.int 0) = true from decide_eq_true rfl)]
  exact q
theorem rows_step (i : Int) (d : D) (k' : Unit → Prop) (hd : okT d = true ∧ rowB d = true) (q : k' ()) : M_is_row d fun r48 => (if (!r48) = true then (KE (D.v (V.int i))) else (k' ())) := by
  refine row_any hd.1 ?_
  rw [hd.2, if_neg (by decide)]
  exact q
theorem rows_top {ds : List D} (h : IsSq x ds) (n0 : ds ≠ []) (q : forC (fun (x25 : (Int × D)) (s27 : Unit) (k28 : Unit → Prop) => (M_is_row x25.2 fun r48 => (if (!r48) = true then (KE (D.v (V.int x25.1))) else (k28 ())))) ((rangeI 0 (ds.length : Int)).zip ds) () fun s57 => (KM ())) : M_check_rows x KM KE := by
  refine sq_list h ?_
  show if (!true) = true then _ else _
  rw [if_neg (by decide)]
  obtain ⟨t, e⟩ := h
  refine ⟨(t, ds), e, ?_⟩
  have n1 : ds.length ≠ 0 := fun z => n0 (List.length_eq_zero_iff.mp z)
  rw [if_neg (by
    rw [decide_eq_true_eq]
    intro z
    have := V.int.inj z
    dsimp only at this
    omega)]
  exact ⟨(t, ds), e, q⟩
theorem rows_bad {pre post : List D} {d : D} (h : IsSq x (pre ++ d :: post)) (hp : ∀ e ∈ pre, okT e = true ∧ rowB e = true) (hd : okT d = true ∧ rowB d = false) (q : KE (D.v (V.int pre.length))) : M_check_rows x KM KE := by
  refine rows_top h (by simp) ?_
  refine walk_pre (good := fun d => okT d = true ∧ rowB d = true) rows_step pre 0 (by rw [List.length_append]; omega) hp ?_
  rw [Int.zero_add, rangeI_step (by rw [List.length_append, List.length_cons]; omega), List.zip_cons_cons]
  refine forC_hd (row_any hd.1 ?_)
  rw [hd.2, if_pos (by decide)]
  exact q
theorem rows_all {ds : List D} (h : IsSq x ds) (n0 : ds ≠ []) (hp : ∀ e ∈ ds, okT e = true ∧ rowB e = true) (q : KM ()) : M_check_rows x KM KE := by
  refine rows_top h n0 ?_
  have z : ds = ds ++ [] := (List.append_nil ds).symm
  rw [z]
  refine walk_pre (good := fun d => okT d = true ∧ rowB d = true) rows_step ds 0 (by rw [List.append_nil]; omega) hp ?_
  rw [List.zip_nil_right]
  exact q
end
/-! the odd values -/
structure Odd (d : D) : Prop where
  ni : isI d = false
  ty : tyOk d = true
  ot : okT d = true
  nr : rowB d = false
  ok : OkX d 3 30
  noi : noI d = true
def oddb (d : D) : Bool := !isI d && (tyOk d && (okT d && (!rowB d && (okb 3 30 d && noI d))))
theorem oddb_ok {d : D} (h : oddb d = true) : Odd d := by
  unfold oddb at h
  simp only [Bool.and_eq_true, Bool.not_eq_true'] at h
  exact ⟨h.1, h.2.1, h.2.2.1, h.2.2.2.1, okb_ok h.2.2.2.2.1, h.2.2.2.2.2⟩
theorem odds {l : List D} (h : l.all oddb = true) : ∀ d ∈ l, Odd d := fun d hd => oddb_ok (List.all_eq_true.mp h d hd)
theorem nointeger_ok {K : D → Prop} (q : ∀ d, Odd d → K d) : M_no_integer K := by
  unfold M_no_integer
  exact pickD_ok (by simp) (by simp) fun x hx => q x (odds (l := _) (by decide +kernel) x hx)
/-! what is no COUNT -/
structure NoC (d : D) : Prop where
  nc : cntB d = false
  ty : tyOk d = true
  ok : OkX d 3 1921
theorem odd_noc {d : D} (h : Odd d) : NoC d := by
  refine ⟨?_, h.ty, h.ok.mono (by decide) (by decide)⟩
  unfold cntB
  have := h.ni
  unfold isI at this
  cases e : intOf d with
  | none => rfl
  | some i =>
    rw [e] at this
    cases this
theorem nocount_ok {K : D → Prop} (q : ∀ d, NoC d → K d) : M_no_count K := by
  unfold M_no_count
  refine nointeger_ok fun a ha => nointeger_ok fun b hb => pickD_ok (by simp) (by simp) fun x hx => q x ?_
  simp only [List.mem_cons, List.not_mem_nil, or_false] at hx
  rcases hx with rfl | rfl | rfl | rfl
  · exact ⟨by decide +kernel, rfl, (okx_int (by decide +kernel)).mono (by decide) (by decide)⟩
  · exact ⟨by decide +kernel, rfl, (okx_int (by decide +kernel)).mono (by decide) (by decide)⟩
  · exact odd_noc ha
  · exact odd_noc hb
/-! what is no row -/
structure NoR (d : D) : Prop where
  ot : okT d = true
  nr : rowB d = false
  ok : OkX d 4 5800
def norb (d : D) : Bool := okT d && (!rowB d && okb 4 5800 d)
theorem norb_ok {d : D} (h : norb d = true) : NoR d := by
  unfold norb at h
  simp only [Bool.and_eq_true, Bool.not_eq_true'] at h
  exact ⟨h.1, h.2.1, okb_ok h.2.2⟩
theorem nors {l : List D} (h : l.all norb = true) : ∀ d ∈ l, NoR d := fun d hd => norb_ok (List.all_eq_true.mp h d hd)
theorem norow_ok {K : D → Prop} (q : ∀ d, NoR d → K d) : M_no_row K := by
  unfold M_no_row
  refine nointeger_ok fun a ha => nointeger_ok fun b hb => ⟨by rw [sizeLine_eq]; simp, pickD_ok (by simp) (by simp) fun x hx => q x ?_⟩
  rcases List.mem_append.mp hx with h | h
  · exact nors (l := _) (by decide +kernel) x h
  · simp only [List.mem_cons, List.not_mem_nil, or_false] at h
    rcases h with rfl | rfl
    · exact ⟨ha.ot, ha.nr, ha.ok.mono (by decide) (by decide)⟩
    · refine ⟨?_, ?_, (okx_tup (k := 3) (n := 1921) (m := 3) (fun d hd => ?_) (by simp)).mono (by decide) (by decide)⟩
      · show (tyOk b && tyOk (D.v (V.int 0)) && tyOk (D.v (V.int 0))) = true
        rw [hb.ty]
        rfl
      · show (isI b && (isI (D.v (V.int 0)) && isI (D.v (V.int 0)))) = false
        rw [hb.ni]
        rfl
      · simp only [List.mem_cons, List.not_mem_nil, or_false] at hd
        rcases hd with rfl | rfl | rfl
        · exact hb.ok.mono (by decide) (by decide)
        · exact (okx_int (by decide +kernel)).mono (by decide) (by decide)
        · exact (okx_int (by decide +kernel)).mono (by decide) (by decide)
/-! the first place -/
abbrev tF (x : D) : List D := [D.v (V.str ("first" : Str)), x]
structure FirstOk (r : D × Option (List D)) : Prop where
  ty : tyOk r.1 = true
  ok : OkX r.1 3 1921
  is : (r.2 = none ∧ cntB r.1 = true) ∨ (r.2 = some (tF r.1) ∧ cntB r.1 = false)
theorem first_ok {K : (D × Option (List D)) → Prop} (q : ∀ r, FirstOk r → K r) : M_first K := by
  unfold M_first
  refine drawW_ok (by decide) (by decide) fun d d0 d1 => ?_
  split
  · refine pick_ok (by simp) (by simp) fun x hx => q _ ?_
    have e50 : (10 : Int) ^ Int.toNat 50 = 100000000000000000000000000000000000000000000000000 := by decide
    rw [e50] at hx
    simp only [List.mem_cons, List.not_mem_nil, or_false] at hx
    rcases hx with rfl | rfl | rfl | rfl
    all_goals exact ⟨rfl, (okx_int (by decide +kernel)).mono (by decide) (by decide), .inl ⟨rfl, by decide +kernel⟩⟩
  · exact nocount_ok fun x hx => q _ ⟨hx.ty, hx.ok, .inr ⟨rfl, hx.nc⟩⟩
/-! right parts with wrong ones among them -/
theorem insert_two {α : Type} (ds : List α) (w : α) (a b : Nat) (ha : a ≤ ds.length) (hb : a + 1 ≤ b) (hb2 : b ≤ ds.length + 1) :
    ∃ post, (ds.take a ++ [w] ++ ds.drop a).take b ++ [w] ++ (ds.take a ++ [w] ++ ds.drop a).drop b = ds.take a ++ w :: post ∧ (∀ d ∈ post, d ∈ ds ∨ d = w) := by
  obtain ⟨c, rfl⟩ : ∃ c, b = a + 1 + c := ⟨b - (a + 1), by omega⟩
  have e0 : ds.take a ++ [w] ++ ds.drop a = (ds.take a ++ [w]) ++ ds.drop a := rfl
  have l0 : (ds.take a ++ [w]).length = a + 1 := by rw [List.length_append, List.length_take, List.length_singleton]; omega
  have t1 : ((ds.take a ++ [w]) ++ ds.drop a).take (a + 1 + c) = (ds.take a ++ [w]) ++ (ds.drop a).take c := by
    rw [List.take_append, l0, List.take_of_length_le (by omega), show a + 1 + c - (a + 1) = c by omega]
  have t2 : ((ds.take a ++ [w]) ++ ds.drop a).drop (a + 1 + c) = (ds.drop a).drop c := by
    rw [List.drop_append, l0, List.drop_of_length_le (by omega), show a + 1 + c - (a + 1) = c by omega, List.nil_append]
  refine ⟨(ds.drop a).take c ++ [w] ++ (ds.drop a).drop c, ?_, fun d hd => ?_⟩
  · rw [t1, t2]
    simp
  · rw [List.append_assoc] at hd
    rcases List.mem_append.mp hd with h | h
    · exact .inl (List.mem_of_mem_drop (List.mem_of_mem_take h))
    · rcases List.mem_append.mp h with h | h
      · exact .inr (List.mem_singleton.mp h)
      · exact .inl (List.mem_of_mem_drop (List.mem_of_mem_drop h))
structure Spoilt (ds : List D) (w : D) (r : (Bool × List D) × Int) : Prop where
  ex : ∃ (a : Nat) (post : List D), a ≤ ds.length ∧ r.1.2 = ds.take a ++ w :: post ∧ r.2 = (a : Int) ∧ ∀ d ∈ post, d ∈ ds ∨ d = w
  ln : r.1.2.length ≤ ds.length + 2
theorem spoilt_core {ds : List D} {w : D} {n : Int} (hn : n = (ds.length : Int)) (hl : ds.length ≤ 1000) {KM : ((Bool × List D) × Int) → Prop} (q : ∀ r, Spoilt ds w r → KM r) :
    (M_draw (n + (1 : Int)) fun r14 => ((ds.length < 16777216 ∧ 0 ≤ r14 ∧ r14 < 2 ^ 63) ∧ (M_draw (2 : Int) fun r24 => (if (decide (V.int r24 = V.int (0 : Int))) = true then (M_draw (((ds.take (Int.toNat r14) ++ [w] ++ ds.drop (Int.toNat r14)).length : Int) - r14) fun r29 => (((ds.take (Int.toNat r14) ++ [w] ++ ds.drop (Int.toNat r14)).length < 16777216 ∧ 0 ≤ ((r14 + (1 : Int)) + r29) ∧ ((r14 + (1 : Int)) + r29) < 2 ^ 63) ∧ (∃ KB40 : (Bool × List D) → Prop, (M_draw (2 : Int) fun r43 => (if (decide (V.int r43 = V.int (0 : Int))) = true then (KB40 ((false, ((ds.take (Int.toNat r14) ++ [w] ++ ds.drop (Int.toNat r14)).take (Int.toNat ((r14 + (1 : Int)) + r29)) ++ [w] ++ (ds.take (Int.toNat r14) ++ [w] ++ ds.drop (Int.toNat r14)).drop (Int.toNat ((r14 + (1 : Int)) + r29)))) : (Bool × List D))) else (KB40 ((true, ((ds.take (Int.toNat r14) ++ [w] ++ ds.drop (Int.toNat r14)).take (Int.toNat ((r14 + (1 : Int)) + r29)) ++ [w] ++ (ds.take (Int.toNat r14) ++ [w] ++ ds.drop (Int.toNat r14)).drop (Int.toNat ((r14 + (1 : Int)) + r29)))) : (Bool × List D))))) ∧ ∀ r56 : (Bool × List D), KB40 r56 → (KM (r56, r14))))) else (∃ KB66 : (Bool × List D) → Prop, (M_draw (2 : Int) fun r69 => (if (decide (V.int r69 = V.int (0 : Int))) = true then (KB66 ((false, (ds.take (Int.toNat r14) ++ [w] ++ ds.drop (Int.toNat r14))) : (Bool × List D))) else (KB66 ((true, (ds.take (Int.toNat r14) ++ [w] ++ ds.drop (Int.toNat r14))) : (Bool × List D))))) ∧ ∀ r82 : (Bool × List D), KB66 r82 → (KM (r82, r14))))))) := by
  refine drawW_ok (by omega) (by omega) fun a a0 a1 => ⟨⟨by omega, a0, by omega⟩, drawW_ok (by decide) (by decide) fun c _ _ => ?_⟩
  obtain ⟨m, rfl⟩ := Int.eq_ofNat_of_zero_le a0
  have e1 : Int.toNat (m : Int) = m := rfl
  have hm : m ≤ ds.length := by omega
  rw [e1]
  have l1 : (ds.take m ++ [w] ++ ds.drop m).length = ds.length + 1 := by
    rw [List.length_append, List.length_append, List.length_take, List.length_singleton, List.length_drop]
    omega
  split
  · refine drawW_ok (by rw [l1]; omega) (by rw [l1]; omega) fun b b0 b1 => ?_
    rw [l1] at b1
    obtain ⟨p, rfl⟩ := Int.eq_ofNat_of_zero_le b0
    have e2 : Int.toNat ((m : Int) + 1 + (p : Int)) = m + 1 + p := by omega
    rw [e2]
    obtain ⟨post, e3, hp⟩ := insert_two ds w m (m + 1 + p) hm (by omega) (by omega)
    have l2 : ((ds.take m ++ [w] ++ ds.drop m).take (m + 1 + p) ++ [w] ++ (ds.take m ++ [w] ++ ds.drop m).drop (m + 1 + p)).length = ds.length + 2 := by
      rw [List.length_append, List.length_append, List.length_take, List.length_singleton, List.length_drop, l1]
      omega
    refine ⟨⟨by rw [l1]; omega, by omega, by omega⟩, fun r => r.2 = (ds.take m ++ [w] ++ ds.drop m).take (m + 1 + p) ++ [w] ++ (ds.take m ++ [w] ++ ds.drop m).drop (m + 1 + p), drawW_ok (by decide) (by decide) fun _ _ _ => ?_, fun r hr => q _ ⟨⟨m, post, hm, hr.trans e3, rfl, hp⟩, ?_⟩⟩
    · split <;> rfl
    · show r.2.length ≤ _
      rw [hr, l2]
      exact Nat.le_refl _
  · refine ⟨fun r => r.2 = ds.take m ++ [w] ++ ds.drop m, drawW_ok (by decide) (by decide) fun _ _ _ => ?_, fun r hr => q _ ⟨⟨m, ds.drop m, hm, by rw [hr]; simp, rfl, fun d hd => .inl (List.mem_of_mem_drop hd)⟩, ?_⟩⟩
    · split <;> rfl
    · show r.2.length ≤ _
      rw [hr, l1]
      omega
theorem spoiltI_ok {ns : List Int} {w : D} (hl : ns.length ≤ 1000) {KM : ((Bool × List D) × Int) → Prop} (q : ∀ r, Spoilt (ns.map eI) w r → KM r) : M_spoilt ns w KM :=
  spoilt_core (n := (ns.length : Int)) (by rw [List.length_map]) (by rw [List.length_map]; exact hl) q
theorem spoiltR_ok {ns : List Row} {w : D} (hl : ns.length ≤ 1000) {KM : ((Bool × List D) × Int) → Prop} (q : ∀ r, Spoilt (ns.map eR) w r → KM r) : M_spoilt_pltiiiD ns w KM :=
  spoilt_core (n := (ns.length : Int)) (by rw [List.length_map]) (by rw [List.length_map]; exact hl) q
/-! the early values and the rows that the law draws -/
theorem rng_in {x n : Int} (h : x ∈ rangeI 0 n) : 0 ≤ x ∧ x < n := by
  unfold rangeI at h
  obtain ⟨i, hi, rfl⟩ := List.mem_map.mp h
  have := List.mem_range.mp hi
  constructor <;> omega
abbrev tV (x : D) : List D := [D.v (V.str ("values" : Str)), x]
abbrev tR (x : D) : List D := [D.v (V.str ("rows" : Str)), x]
structure EarlyOk (r : D × Option (List D) × Int) : Prop where
  ok : OkX r.1 4 400000
  noi : noI r.1 = true
  is : (r.2.1 = some (tV (D.v V.non)) ∧ tyOk r.1 = true ∧ (isT r.1 "list" || isT r.1 "tuple") = false) ∨
    (∃ (pre : List D) (d : D) (post : List D), IsSq r.1 (pre ++ d :: post) ∧ (∀ e ∈ pre, tyOk e = true ∧ isI e = true) ∧ (tyOk d = true ∧ isI d = false) ∧ r.2.1 = some (tV (D.v (V.int pre.length))) ∧ pre.length < 1000) ∨
    (∃ (t : Bool) (ns : List Int), r.1 = eSq (fun y_ : Int => (D.v (V.int y_))) (t, ns) ∧ r.2.1 = none ∧ r.2.2 = (ns.length : Int))
structure RowsOk (r : D × Option (List D) × Int) : Prop where
  ok : OkX r.1 5 400000
  is : (r.2.1 = some (tR (D.v V.non)) ∧ ((tyOk r.1 = true ∧ (isT r.1 "list" || isT r.1 "tuple") = false) ∨ IsSq r.1 [])) ∨
    (∃ (pre : List D) (d : D) (post : List D), IsSq r.1 (pre ++ d :: post) ∧ (∀ e ∈ pre, okT e = true ∧ rowB e = true) ∧ (okT d = true ∧ rowB d = false) ∧ r.2.1 = some (tR (D.v (V.int pre.length))) ∧ pre.length < 1000) ∨
    (∃ (t : Bool) (ns : List Row), r.1 = eSq (fun y_ : (Int × Int × Int) => (D.tup [(D.v (V.int y_.1)), (D.v (V.int y_.2.1)), (D.v (V.int y_.2.2))])) (t, ns) ∧ 0 < ns.length ∧ ns.length < 100000 ∧ r.2.1 = none ∧ r.2.2 = (ns.length : Int))
def noSb (d : D) : Bool := tyOk d && (!(isT d "list" || isT d "tuple") && (okb 3 30 d && noI d))
theorem noSb_ok {l : List D} (h : l.all noSb = true) : ∀ d ∈ l, tyOk d = true ∧ (isT d "list" || isT d "tuple") = false ∧ OkX d 3 30 ∧ noI d = true := fun d hd => by
  have h := List.all_eq_true.mp h d hd
  unfold noSb at h
  simp only [Bool.and_eq_true, Bool.not_eq_true'] at h
  exact ⟨h.1, h.2.1, okb_ok h.2.2.1, h.2.2.2⟩
theorem sq_id (m : Bool × List D) {ds : List D} (h : m.2 = ds) : IsSq (eSq (fun y_ : D => y_) m) ds := by
  obtain ⟨t, l⟩ := m
  cases h
  exact ⟨t, rfl⟩
theorem flat_rep {α : Type} (k : Nat) (a : α) : List.flatten (List.replicate k [a]) = List.replicate k a := by
  induction k with
  | zero => rfl
  | succ k ih => rw [List.replicate_succ, List.flatten_cons, ih]; rfl
abbrev Sm (y : Int) : Prop := y.natAbs < 2 ^ 1920
theorem sm_of {y : Int} (h : y.natAbs < 1000) : Sm y := Nat.lt_of_lt_of_le h (Nat.le_trans (show 1000 ≤ 2 ^ 10 by decide) (Nat.pow_le_pow_right (by decide) (by decide)))
theorem earlyC {m : Bool × List Int} {ns : List Int} {n : Int} (hm : m.2 = ns) (hs : ∀ y ∈ ns, Sm y) (hl : ns.length ≤ 201) (hn : n = (ns.length : Int)) : EarlyOk (eSq (fun y_ : Int => (D.v (V.int y_))) m, none, n) := by
  obtain ⟨t, l⟩ := m
  cases hm
  exact ⟨(okx_sq (k := 1) (n := 1921) (l := 201) (fun x hx => okx_int (hs x hx)) hl).mono (by decide) (by decide), sq_noI, .inr (.inr ⟨t, l, rfl, rfl, hn⟩)⟩
theorem early_ok {K : (D × Option (List D) × Int) → Prop} (q : ∀ r, EarlyOk r → K r) : M_early K := by
  unfold M_early
  refine pick_ok (by simp) (by simp) fun n hn => ?_
  have hb : 0 ≤ n ∧ n ≤ 200 := by
    simp only [List.mem_cons, List.not_mem_nil, or_false] at hn
    rcases hn with rfl | rfl | rfl | rfl | rfl <;> decide
  refine ⟨by rw [rangeI_len]; omega, mapC_any Sm (fun x hx k' hk => drawW_ok (by decide) (by decide) fun d d0 d1 => hk _ (sm_of (by omega))) fun ys hl hs => ?_⟩
  rw [List.nil_append]
  rw [rangeI_len] at hl
  have ly : ys.length ≤ 200 := by omega
  refine drawW_ok (by decide) (by decide) fun w _ _ => ?_
  split
  · refine pickD_ok (by simp) (by simp) fun x hx => q _ ?_
    obtain ⟨h1, h2, h3, h4⟩ := noSb_ok (l := _) (by decide +kernel) x hx
    exact ⟨h3.mono (by decide) (by decide), h4, .inl ⟨rfl, h1, h2⟩⟩
  · split
    · refine nointeger_ok fun x hx => spoiltI_ok (by omega) fun r hr => q _ ?_
      obtain ⟨⟨a, post, ha, e1, e2, hp⟩, ln⟩ := hr
      rw [List.length_map] at ha ln
      have lt : ((ys.map eI).take a).length = a := by rw [List.length_take, List.length_map]; omega
      have el : ∀ d ∈ r.1.2, OkX d 3 1921 := fun d hd => by
        have key : d ∈ ys.map eI ∨ d = x := by
          rw [e1] at hd
          rcases List.mem_append.mp hd with h | h
          · exact .inl (List.mem_of_mem_take h)
          · rcases List.mem_cons.mp h with h | h
            · exact .inr h
            · exact hp d h
        rcases key with h | rfl
        · obtain ⟨y, hy, rfl⟩ := List.mem_map.mp h
          exact (okx_int (hs y hy)).mono (by decide) (by decide)
        · exact hx.ok.mono (by decide) (by decide)
      refine ⟨(okx_sq (f := fun y_ : D => y_) (k := 3) (n := 1921) (l := 202) el (by omega)).mono (by decide) (by decide), sq_noI, .inr (.inl ⟨_, x, post, sq_id _ e1, fun e he => ?_, ⟨hx.ty, hx.ni⟩, ?_, by rw [lt]; omega⟩)⟩
      · obtain ⟨y, _, rfl⟩ := List.mem_map.mp (List.mem_of_mem_take he)
        exact ⟨rfl, rfl⟩
      · show some _ = some _
        rw [lt, e2]
    · split
      · have e9 : (List.flatten (List.replicate (Int.toNat ((201 : Int) - (ys.length : Int))) ([(0 : Int)] : List Int))) = List.replicate (201 - ys.length) 0 := by
          rw [flat_rep]
          congr 1
          omega
        rw [e9]
        have l9 : (ys ++ List.replicate (201 - ys.length) (0 : Int)).length = 201 := by rw [List.length_append, List.length_replicate]; omega
        refine ⟨⟨by omega, by omega, by rw [sizeLine_eq, List.length_singleton]; omega⟩, by rw [List.length_replicate, sizeLine_eq]; omega, fun r => r.2 = ys ++ List.replicate (201 - ys.length) 0, drawW_ok (by decide) (by decide) fun _ _ _ => ?_, fun r hr => q _ (earlyC hr (fun y hy => ?_) (by omega) rfl)⟩
        · split <;> rfl
        · rcases List.mem_append.mp hy with h | h
          · exact hs y h
          · rw [List.eq_of_mem_replicate h]
            exact sm_of (by decide)
      · refine ⟨fun r => r.2 = ys, drawW_ok (by decide) (by decide) fun _ _ _ => ?_, fun r hr => q _ (earlyC hr hs (by omega) rfl)⟩
        split <;> rfl
theorem okx_row {r : Row} (h : RBr r 1920) : OkX (eR r) 2 5771 := okx_tup (k := 1) (n := 1921) (m := 3) (fun d hd => by
  simp only [List.mem_cons, List.not_mem_nil, or_false] at hd
  rcases hd with rfl | rfl | rfl
  · exact okx_int h.1
  · exact okx_int h.2.1
  · exact okx_int h.2.2) (by simp)
theorem rowsC {m : Bool × List Row} {ns : List Row} {n : Int} (hm : m.2 = ns) (hs : ∀ y ∈ ns, RBr y 1920) (h0 : 0 < ns.length) (hl : ns.length ≤ 25) (hn : n = (ns.length : Int)) : RowsOk (eSq (fun y_ : (Int × Int × Int) => (D.tup [(D.v (V.int y_.1)), (D.v (V.int y_.2.1)), (D.v (V.int y_.2.2))])) m, none, n) := by
  obtain ⟨t, l⟩ := m
  cases hm
  exact ⟨(okx_sq (k := 2) (n := 5771) (l := 25) (fun x hx => okx_row (hs x hx)) hl).mono (by decide) (by decide), .inr (.inr ⟨t, l, rfl, h0, Nat.lt_of_le_of_lt hl (by decide), rfl, hn⟩)⟩
theorem rows_ok {K : (D × Option (List D) × Int) → Prop} (q : ∀ r, RowsOk r → K r) : M_rows K := by
  unfold M_rows
  refine pick_ok (by simp) (by simp) fun n hn => ?_
  have hb : 1 ≤ n ∧ n ≤ 24 := by
    simp only [List.mem_cons, List.not_mem_nil, or_false] at hn
    rcases hn with rfl | rfl | rfl | rfl <;> decide
  refine ⟨by rw [rangeI_len]; omega, mapC_any (fun y : Row => RBr y 1920) (fun x hx k' hk => drawW_ok (by decide) (by decide) fun d d0 d1 => drawW_ok (by decide) (by decide) fun e e0 e1 => hk _ ?_) fun ys hl hs => ?_⟩
  · have := rng_in hx
    exact ⟨sm_of (y := d) (by omega), sm_of (y := e - 4) (by omega), sm_of (y := x) (by omega)⟩
  rw [List.nil_append]
  rw [rangeI_len] at hl
  have ly : ys.length ≤ 24 := by omega
  have l0 : 0 < ys.length := by omega
  refine drawW_ok (by decide) (by decide) fun w _ _ => ?_
  split
  · refine pickD_ok (by simp) (by simp) fun x hx => q _ ?_
    have hx' : x ∈ ([(D.v V.non), (D.v (V.int (3 : Int))), (D.v (V.bl false)), (D.v (V.str ("" : Str))), (D.v (V.str ("12" : Str))), (D.dct [] []), (D.dct [(Sum.inl (0 : Int) : Key)] [(D.v (V.int (1 : Int)))])] : List D) ∨ x = D.lst [] ∨ x = D.tup [] := by
      simp only [List.mem_cons, List.not_mem_nil, or_false, List.map_nil] at hx ⊢
      rcases hx with h | h | h | h | h | h | h | h | h
      all_goals simp only [h, true_or, or_true]
    rcases hx' with h | rfl | rfl
    · obtain ⟨h1, h2, h3, h4⟩ := noSb_ok (l := _) (by decide +kernel) x h
      exact ⟨h3.mono (by decide) (by decide), .inl ⟨rfl, .inl ⟨h1, h2⟩⟩⟩
    · exact ⟨(okb_ok (k := 3) (n := 30) (by decide +kernel)).mono (by decide) (by decide), .inl ⟨rfl, .inr ⟨false, rfl⟩⟩⟩
    · exact ⟨(okb_ok (k := 3) (n := 30) (by decide +kernel)).mono (by decide) (by decide), .inl ⟨rfl, .inr ⟨true, rfl⟩⟩⟩
  · split
    · refine norow_ok fun x hx => spoiltR_ok (by omega) fun r hr => q _ ?_
      obtain ⟨⟨a, post, ha, e1, e2, hp⟩, ln⟩ := hr
      rw [List.length_map] at ha ln
      have lt : ((ys.map eR).take a).length = a := by rw [List.length_take, List.length_map]; omega
      have el : ∀ d ∈ r.1.2, OkX d 4 5800 := fun d hd => by
        have key : d ∈ ys.map eR ∨ d = x := by
          rw [e1] at hd
          rcases List.mem_append.mp hd with h | h
          · exact .inl (List.mem_of_mem_take h)
          · rcases List.mem_cons.mp h with h | h
            · exact .inr h
            · exact hp d h
        rcases key with h | rfl
        · obtain ⟨y, hy, rfl⟩ := List.mem_map.mp h
          exact (okx_row (hs y hy)).mono (by decide) (by decide)
        · exact hx.ok
      refine ⟨(okx_sq (f := fun y_ : D => y_) (k := 4) (n := 5800) (l := 26) el (by omega)).mono (by decide) (by decide), .inr (.inl ⟨_, x, post, sq_id _ e1, fun e he => ?_, ⟨hx.ot, hx.nr⟩, ?_, by rw [lt]; omega⟩)⟩
      · obtain ⟨y, _, rfl⟩ := List.mem_map.mp (List.mem_of_mem_take he)
        exact ⟨rfl, rfl⟩
      · show some _ = some _
        rw [lt, e2]
    · split
      · have e9 : (List.flatten (List.replicate (Int.toNat ((25 : Int) - (ys.length : Int))) ([((0 : Int), (0 : Int), (1 : Int))] : List (Int × Int × Int)))) = List.replicate (25 - ys.length) ((0 : Int), (0 : Int), (1 : Int)) := by
          rw [flat_rep]
          congr 1
          omega
        rw [e9]
        have l9 : (ys ++ List.replicate (25 - ys.length) ((0 : Int), (0 : Int), (1 : Int))).length = 25 := by rw [List.length_append, List.length_replicate]; omega
        refine ⟨⟨by omega, by omega, by rw [sizeLine_eq, List.length_singleton]; omega⟩, by rw [List.length_replicate, sizeLine_eq]; omega, fun r => r.2 = ys ++ List.replicate (25 - ys.length) ((0 : Int), (0 : Int), (1 : Int)), drawW_ok (by decide) (by decide) fun _ _ _ => ?_, fun r hr => q _ (rowsC hr (fun y hy => ?_) (by omega) (by omega) rfl)⟩
        · split <;> rfl
        · rcases List.mem_append.mp hy with h | h
          · exact hs y h
          · rw [List.eq_of_mem_replicate h]
            exact ⟨sm_of (by decide), sm_of (by decide), sm_of (by decide)⟩
      · refine ⟨fun r => r.2 = ys, drawW_ok (by decide) (by decide) fun _ _ _ => ?_, fun r hr => q _ (rowsC hr hs l0 (by omega) rfl)⟩
        split <;> rfl
/-! what is due -/
abbrev tk : List D := [D.v (V.str ("taken" : Str))]
abbrev tM (w : Str) (n : Int) : List D := [D.v (V.str ("many" : Str)), D.v (V.str w), D.v (V.int n)]
def DueIs (a : D × Option (List D)) (b c : D × Option (List D) × Int) (due : List D) : Prop :=
  a.2 = some due ∨ (a.2 = none ∧ (b.2.1 = some due ∨ (b.2.1 = none ∧ (c.2.1 = some due ∨ (c.2.1 = none ∧
    ((200 < b.2.2 ∧ due = tM ("values" : Str) 200) ∨ (¬ 200 < b.2.2 ∧ ((24 < c.2.2 ∧ due = tM ("rows" : Str) 24) ∨ (¬ 24 < c.2.2 ∧ due = tk)))))))))
theorem finit_due {a : D × Option (List D)} {b c : D × Option (List D) × Int} {due : List D} (ha : FirstOk a) (hb : EarlyOk b) (hc : RowsOk c) (hd : DueIs a b c due) {KN : (Int × List Int × List (Int × Int × Int)) → Prop} {K1 K2 K3 : D → Prop} {K4 : D → D → Prop}
    (q0 : due = tk → ∀ r, KN r) (q1 : ∀ x, due = tF x → K1 x) (q2 : ∀ x, due = tV x → K2 x) (q3 : ∀ x, due = tR x → K3 x) (q4 : ∀ x y, due = [D.v (V.str ("many" : Str)), x, y] → K4 x y) : M_Form_init a.1 b.1 c.1 KN K1 K2 K3 K4 := by
  refine ⟨hb.noi, first_any ha.ty (fun c0 => ?_) fun c0 => ?_⟩
  · have a0 : a.2 = none := by
      rcases ha.is with h | h
      · exact h.1
      · rw [h.2] at c0
        cases c0
    have d1 : (b.2.1 = some due ∨ (b.2.1 = none ∧ (c.2.1 = some due ∨ (c.2.1 = none ∧ ((200 < b.2.2 ∧ due = tM ("values" : Str) 200) ∨ (¬ 200 < b.2.2 ∧ ((24 < c.2.2 ∧ due = tM ("rows" : Str) 24) ∨ (¬ 24 < c.2.2 ∧ due = tk)))))))) := by
      rcases hd with h | h
      · rw [a0] at h
        cases h
      · exact h.2
    rcases hb.is with ⟨e, t1, t2⟩ | ⟨pre, d, post, sq, hp, hbad, e, _⟩ | ⟨t, ns, ex, e, en⟩
    · refine vals_no t1 t2 (q2 _ ?_)
      rcases d1 with h | h
      · rw [e] at h
        exact (Option.some.inj h).symm
      · rw [e] at h
        cases h.1
    · refine vals_bad sq hp hbad (q2 _ ?_)
      rcases d1 with h | h
      · rw [e] at h
        exact (Option.some.inj h).symm
      · rw [e] at h
        cases h.1
    · have d2 : (c.2.1 = some due ∨ (c.2.1 = none ∧ ((200 < b.2.2 ∧ due = tM ("values" : Str) 200) ∨ (¬ 200 < b.2.2 ∧ ((24 < c.2.2 ∧ due = tM ("rows" : Str) 24) ∨ (¬ 24 < c.2.2 ∧ due = tk)))))) := by
        rcases d1 with h | h
        · rw [e] at h
          cases h
        · exact h.2
      refine vals_all (ds := ns.map eI) (ex ▸ sq_of) (fun x hx => by
        obtain ⟨y, _, rfl⟩ := List.mem_map.mp hx
        exact ⟨rfl, rfl⟩) ⟨(t, ns), ex, ?_⟩
      rcases hc.is with ⟨e3, t3⟩ | ⟨pre, d, post, sq, hp, hbad, e3, _⟩ | ⟨u, R, ex3, r0, r1, e3, en3⟩
      · have z : due = tR (D.v V.non) := by
          rcases d2 with h | h
          · rw [e3] at h
            exact (Option.some.inj h).symm
          · rw [e3] at h
            cases h.1
        rcases t3 with ⟨t4, t5⟩ | sq
        · exact rows_no t4 t5 (q3 _ z)
        · exact rows_empty sq (q3 _ z)
      · refine rows_bad sq hp hbad (q3 _ ?_)
        rcases d2 with h | h
        · rw [e3] at h
          exact (Option.some.inj h).symm
        · rw [e3] at h
          cases h.1
      · have d3 : ((200 < b.2.2 ∧ due = tM ("values" : Str) 200) ∨ (¬ 200 < b.2.2 ∧ ((24 < c.2.2 ∧ due = tM ("rows" : Str) 24) ∨ (¬ 24 < c.2.2 ∧ due = tk)))) := by
          rcases d2 with h | h
          · rw [e3] at h
            cases h
          · exact h.2
        refine rows_all (ds := R.map eR) (ex3 ▸ sq_of) (fun z => by rw [List.map_eq_nil_iff] at z; rw [z] at r0; exact absurd r0 (by decide)) (fun x hx => by
          obtain ⟨y, _, rfl⟩ := List.mem_map.mp hx
          exact ⟨rfl, rfl⟩) ⟨(u, R), ex3, ?_⟩
        dsimp only
        rw [en, en3] at d3
        by_cases c2 : 200 < (ns.length : Int)
        · rw [if_pos (decide_eq_true c2)]
          rcases d3 with h | h
          · exact q4 _ _ h.2
          · exact absurd c2 h.1
        · rw [if_neg (by rw [decide_eq_true_eq]; exact c2)]
          have d4 : ((24 < (R.length : Int) ∧ due = tM ("rows" : Str) 24) ∨ (¬ 24 < (R.length : Int) ∧ due = tk)) := by
            rcases d3 with h | h
            · exact absurd h.1 c2
            · exact h.2
          by_cases c3 : 24 < (R.length : Int)
          · rw [if_pos (decide_eq_true c3)]
            rcases d4 with h | h
            · exact q4 _ _ h.2
            · exact absurd c3 h.1
          · rw [if_neg (by rw [decide_eq_true_eq]; exact c3)]
            have z : due = tk := by
              rcases d4 with h | h
              · exact absurd h.1 c3
              · exact h.2
            obtain ⟨i, ei, _⟩ := cntB_of c0
            refine ⟨i, ei, (t, ns), ex, (u, R), ex3, r1, mapC_ok (fun x => x) (fun x hx k' hk => hk) ?_⟩
            exact q0 z _
  · refine q1 _ ?_
    rcases ha.is with h | h
    · rw [h.2] at c0
      cases c0
    · rcases hd with g | g
      · rw [h.1] at g
        exact (Option.some.inj g).symm
      · rw [h.1] at g
        cases g.1
/-! what is heard, and what is due -/
structure DueT (due d' : List D) : Prop where
  is : (due = tk ∧ d' = tk) ∨ (1 < due.length ∧ due.length < 100 ∧ d' = due ++ [D.v (V.bl true)])
  tx : TX (D.lst (d'.map fun y_ : D => y_))
theorem due_rest {due d' : List D} (h : DueT due d') {KM : Bool → Prop} (q : KM true) : ((plainX (D.lst (d'.map (fun y_ : D => y_))) = true ∧ (pyX (D.lst (d'.map (fun y_ : D => y_)))).showable = true ∧ (pyX (D.lst (d'.map (fun y_ : D => y_)))).depth ≤ 60 ∧ (pyX (D.lst (d'.map (fun y_ : D => y_)))).shown.length ≤ sizeLine) ∧ (∃ KB7 : (List D) → Prop, (((due.map (fun y_ : D => y_)).length = (([("taken" : Str)] : List Str).map (fun y_ : Str => (D.v (V.str y_)))).length → plainD (D.lst (due.map (fun y_ : D => y_))) = true ∧ plainD (D.lst (([("taken" : Str)] : List Str).map (fun y_ : Str => (D.v (V.str y_))))) = true ∧ SeqAt.shaped (pyOf (D.lst (due.map (fun y_ : D => y_)))) = true ∧ SeqAt.shaped (pyOf (D.lst (([("taken" : Str)] : List Str).map (fun y_ : Str => (D.v (V.str y_)))))) = true) ∧ (if (decide ((due.map (fun y_ : D => y_)).length = (([("taken" : Str)] : List Str).map (fun y_ : Str => (D.v (V.str y_)))).length) && PyData.eqv (pyOf (D.lst (due.map (fun y_ : D => y_)))) (pyOf (D.lst (([("taken" : Str)] : List Str).map (fun y_ : Str => (D.v (V.str y_))))))) = true then (KB7 due) else (due.length + ([(D.v (V.bl true))] : List D).length ≤ sizeLine ∧ (KB7 (due ++ ([(D.v (V.bl true))] : List D)))))) ∧ ∀ r28 : (List D), KB7 r28 → ((plainX (D.lst (r28.map (fun y_ : D => y_))) = true ∧ (pyX (D.lst (r28.map (fun y_ : D => y_)))).showable = true ∧ (pyX (D.lst (r28.map (fun y_ : D => y_)))).depth ≤ 60 ∧ (pyX (D.lst (r28.map (fun y_ : D => y_)))).shown.length ≤ sizeLine) ∧ (KM (decide (V.str (pyX (D.lst (d'.map (fun y_ : D => y_)))).shown = V.str (pyX (D.lst (r28.map (fun y_ : D => y_)))).shown)))))) := by
  refine ⟨h.tx, fun r => r = d', ?_, fun r hr => ?_⟩
  · rcases h.is with ⟨rfl, rfl⟩ | ⟨l1, l2, rfl⟩
    · refine ⟨fun _ => by decide +kernel, ?_⟩
      rw [if_pos (by decide +kernel)]
    · have ne : ¬ (due.map (fun y_ : D => y_)).length = (([("taken" : Str)] : List Str).map (fun y_ : Str => (D.v (V.str y_)))).length := by
        rw [List.length_map]
        show ¬ due.length = 1
        omega
      refine ⟨fun z => absurd z ne, ?_⟩
      rw [decide_eq_false ne, Bool.false_and, if_neg (by decide)]
      exact ⟨by rw [sizeLine_eq, List.length_singleton]; omega, rfl⟩
  · cases hr
    exact ⟨h.tx, by rw [decide_eq_true rfl]; exact q⟩
theorem due_ok {ML : ((Int × List Int × List (Int × Int × Int)) → Prop) → (D → Prop) → (D → Prop) → (D → Prop) → (D → D → Prop) → Prop} {due d' : List D} (h : DueT due d')
    (hM : ∀ {KN : (Int × List Int × List (Int × Int × Int)) → Prop} {K1 K2 K3 : D → Prop} {K4 : D → D → Prop}, (due = tk → ∀ r, KN r) → (∀ x, due = tF x → K1 x) → (∀ x, due = tV x → K2 x) → (∀ x, due = tR x → K3 x) → (∀ x y, due = [D.v (V.str ("many" : Str)), x, y] → K4 x y) → ML KN K1 K2 K3 K4)
    {KM : Bool → Prop} (q : KM true) : M_is_due ML due KM := by
  have r : ∀ d1, d1 = d' → _ := fun d1 e => e ▸ due_rest h q
  have long : ∀ {d1 : List D}, due = d1 → 1 < d1.length → d' = d1 ++ [D.v (V.bl true)] := fun {d1} e l => by
    rcases h.is with ⟨z, _⟩ | ⟨_, _, z⟩
    · rw [e] at z
      rw [z] at l
      exact absurd l (by decide)
    · rw [z, e]
  refine hM (fun z _ => r _ ?_) (fun x z => r _ ?_) (fun x z => r _ ?_) (fun x z => r _ ?_) (fun x y z => r _ ?_)
  · rcases h.is with ⟨_, g⟩ | ⟨l, _, _⟩
    · exact g.symm
    · rw [z] at l
      exact absurd l (by decide)
  · exact (long z (by simp)).symm
  · exact (long z (by simp)).symm
  · exact (long z (by simp)).symm
  · exact (long z (by simp)).symm
/-! forms -/
theorem str_okx {w : Str} (h : okb 3 1921 (D.v (V.str w)) = true) : OkX (D.v (V.str w)) 3 1921 := okb_ok h
theorem duet {due : List D} (l : 1 < due.length) (l2 : due.length < 100) (h : ∀ d ∈ due, OkX d 3 1921) : DueT due (due ++ [D.v (V.bl true)]) := by
  refine ⟨.inr ⟨l, l2, rfl⟩, ?_⟩
  rw [List.map_id']
  refine (okx_lst (k := 3) (n := 1921) (m := 101) (fun d hd => ?_) (by rw [List.length_append, List.length_singleton]; omega)).tx (by decide) (by decide)
  rcases List.mem_append.mp hd with z | z
  · exact h d z
  · rw [List.mem_singleton.mp z]
    exact okb_ok (by decide +kernel)
theorem duetk : DueT tk tk := ⟨.inl ⟨rfl, rfl⟩, (okb_ok (k := 60) (n := 1000) (by decide +kernel)).tx (by decide) (by decide)⟩
theorem duet2 {w : Str} {x : D} (hw : okb 3 1921 (D.v (V.str w)) = true) (hx : OkX x 3 1921) : DueT [D.v (V.str w), x] ([D.v (V.str w), x] ++ [D.v (V.bl true)]) := duet (by simp) (by simp) fun d hd => by
  simp only [List.mem_cons, List.not_mem_nil, or_false] at hd
  rcases hd with rfl | rfl
  · exact okb_ok hw
  · exact hx
theorem duet3 {w v : Str} {n : Int} (hw : okb 3 1921 (D.v (V.str w)) = true) (hv : okb 3 1921 (D.v (V.str v)) = true) (hn : n.natAbs < 1000) : DueT [D.v (V.str w), D.v (V.str v), D.v (V.int n)] ([D.v (V.str w), D.v (V.str v), D.v (V.int n)] ++ [D.v (V.bl true)]) := duet (by simp) (by simp) fun d hd => by
  simp only [List.mem_cons, List.not_mem_nil, or_false] at hd
  rcases hd with rfl | rfl | rfl
  · exact okb_ok hw
  · exact okb_ok hv
  · exact (okx_int (sm_of hn)).mono (by decide) (by decide)
theorem non_okx : OkX (D.v V.non) 3 1921 := okb_ok (by decide +kernel)
theorem due_t {a : D × Option (List D)} {b c : D × Option (List D) × Int} {due : List D} (ha : FirstOk a) (hb : EarlyOk b) (hc : RowsOk c) (hd : DueIs a b c due) : ∃ d', DueT due d' := by
  rcases hd with h | ⟨_, h | ⟨_, h | ⟨_, h | ⟨_, h | h⟩⟩⟩⟩
  · rcases ha.is with g | g
    · rw [g.1] at h
      cases h
    · rw [g.1] at h
      cases h
      exact ⟨_, duet2 (by decide +kernel) ha.ok⟩
  · rcases hb.is with ⟨e, _⟩ | ⟨pre, d, post, _, _, _, e, lp⟩ | ⟨t, ns, _, e, _⟩
    · rw [e] at h
      cases h
      exact ⟨_, duet2 (by decide +kernel) non_okx⟩
    · rw [e] at h
      cases h
      exact ⟨_, duet2 (by decide +kernel) ((okx_int (sm_of (by omega))).mono (by decide) (by decide))⟩
    · rw [e] at h
      cases h
  · rcases hc.is with ⟨e, _⟩ | ⟨pre, d, post, _, _, _, e, lp⟩ | ⟨t, ns, _, _, _, e, _⟩
    · rw [e] at h
      cases h
      exact ⟨_, duet2 (by decide +kernel) non_okx⟩
    · rw [e] at h
      cases h
      exact ⟨_, duet2 (by decide +kernel) ((okx_int (sm_of (by omega))).mono (by decide) (by decide))⟩
    · rw [e] at h
      cases h
  · rw [h.2]
    exact ⟨_, duet3 (by decide +kernel) (by decide +kernel) (by decide)⟩
  · rw [h.2]
    exact ⟨_, duet3 (by decide +kernel) (by decide +kernel) (by decide)⟩
  · rw [h.2]
    exact ⟨_, duetk⟩
theorem tx3 {a : D × Option (List D)} {b c : D × Option (List D) × Int} (ha : FirstOk a) (hb : EarlyOk b) (hc : RowsOk c) : TX (D.lst (([a.1, b.1, c.1] : List D).map (fun y_ : D => y_))) := by
  rw [List.map_id']
  refine (okx_lst (k := 5) (n := 400000) (m := 3) (fun d hd => ?_) (by simp)).tx (by decide) (by decide)
  simp only [List.mem_cons, List.not_mem_nil, or_false] at hd
  rcases hd with rfl | rfl | rfl
  · exact ha.ok.mono (by decide) (by decide)
  · exact hb.ok.mono (by decide) (by decide)
  · exact hc.ok
theorem tailF {a : D × Option (List D)} {b c : D × Option (List D) × Int} {due : List D} (ha : FirstOk a) (hb : EarlyOk b) (hc : RowsOk c) (hd : DueIs a b c due) {KM : Bool → Prop} (q : KM true) :
    TX (D.lst (([a.1, b.1, c.1] : List D).map (fun y_ : D => y_))) ∧ (M_is_due (fun KN_ KE_InvalidFirst KE_InvalidValues KE_InvalidRows KE_TooMany => (M_Form_init a.1 b.1 c.1 (fun r168 => (KN_ r168)) (fun x169 => (KE_InvalidFirst x169)) (fun x175 => (KE_InvalidValues x175)) (fun x181 => (KE_InvalidRows x181)) (fun x187 x188 => (KE_TooMany x187 x188)))) due fun r159 => (if (!r159) = true then (KM false) else (M_is_due (fun KN_ KE_InvalidFirst KE_InvalidValues KE_InvalidRows KE_TooMany => (M_Form_init a.1 b.1 c.1 (fun r207 => (KN_ r207)) (fun x208 => (KE_InvalidFirst x208)) (fun x214 => (KE_InvalidValues x214)) (fun x220 => (KE_InvalidRows x220)) (fun x226 x227 => (KE_TooMany x226 x227)))) due fun r198 => (if r198 = true then (TX (D.lst (([a.1, b.1, c.1] : List D).map (fun y_ : D => y_))) ∧ (KM (decide (V.str (pyX (D.lst (([a.1, b.1, c.1] : List D).map (fun y_ : D => y_)))).shown = V.str (pyX (D.lst (([a.1, b.1, c.1] : List D).map (fun y_ : D => y_)))).shown)))) else (KM false))))) := by
  obtain ⟨d', ht⟩ := due_t ha hb hc hd
  have t := tx3 ha hb hc
  refine ⟨t, due_ok ht (fun q0 q1 q2 q3 q4 => finit_due ha hb hc hd q0 q1 q2 q3 q4) ?_⟩
  rw [if_neg (by decide)]
  refine due_ok ht (fun q0 q1 q2 q3 q4 => finit_due ha hb hc hd q0 q1 q2 q3 q4) ?_
  rw [if_pos rfl, decide_eq_true rfl]
  exact ⟨t, q⟩
theorem head_ok {o1 o2 o3 : Option (List D)} {L M : List (List D)} {m : List D} (hL : L = ([o1, o2, o3].filterMap fun x => x) ++ m :: M) {T : List D → Prop} (q : ∀ x, (o1 = some x ∨ (o1 = none ∧ (o2 = some x ∨ (o2 = none ∧ (o3 = some x ∨ (o3 = none ∧ x = m)))))) → T x) :
    (0 ≤ (0 : Int) ∧ ∃ g : Int.toNat (0 : Int) < L.length, ∀ x, x = L[Int.toNat (0 : Int)]'g → T x) := by
  subst hL
  refine ⟨by decide, by rw [List.length_append, List.length_cons]; show 0 < _; omega, fun x hx => q x ?_⟩
  cases o1 with
  | some y => exact .inl (by rw [hx]; rfl)
  | none =>
    refine .inr ⟨rfl, ?_⟩
    cases o2 with
    | some y => exact .inl (by rw [hx]; rfl)
    | none =>
      refine .inr ⟨rfl, ?_⟩
      cases o3 with
      | some y => exact .inl (by rw [hx]; rfl)
      | none => exact .inr ⟨rfl, by rw [hx]; rfl⟩
theorem some_step (x : Option (List D)) (k' : Option (List D) → Prop) (hk : k' x) : (if (Option.isSome x) = true then (∃ y82, x = some y82 ∧ (k' (some y82))) else (k' none)) := by
  cases x with
  | some y => exact ⟨y, rfl, hk⟩
  | none => exact hk
theorem three {o1 o2 o3 : Option (List D)} : ([o1, o2, o3].filterMap fun x => x).length ≤ 3 := List.length_filterMap_le _ _
theorem form_ok {KM : Bool → Prop} (q : KM true) : M_is_form_right KM := by
  unfold M_is_form_right
  refine first_ok fun a ha => early_ok fun b hb => rows_ok fun c hc => ⟨by simp, filC_ok (fun x => x) (fun x hx k' hk => some_step x k' hk) ?_⟩
  rw [List.nil_append]
  have l3 := three (o1 := a.2) (o2 := b.2.1) (o3 := c.2.1)
  have due : ∀ {x m : List D}, (a.2 = some x ∨ (a.2 = none ∧ (b.2.1 = some x ∨ (b.2.1 = none ∧ (c.2.1 = some x ∨ (c.2.1 = none ∧ x = m)))))) → ((200 < b.2.2 ∧ m = tM ("values" : Str) 200) ∨ (¬ 200 < b.2.2 ∧ ((24 < c.2.2 ∧ m = tM ("rows" : Str) 24) ∨ (¬ 24 < c.2.2 ∧ m = tk)))) → DueIs a b c x := by
    intro x m h g
    rcases h with h | ⟨h1, h | ⟨h2, h | ⟨h3, h⟩⟩⟩
    · exact .inl h
    · exact .inr ⟨h1, .inl h⟩
    · exact .inr ⟨h1, .inr ⟨h2, .inl h⟩⟩
    · rw [h]
      exact .inr ⟨h1, .inr ⟨h2, .inr ⟨h3, g⟩⟩⟩
  by_cases c1 : 200 < b.2.2
  · rw [if_pos (decide_eq_true c1)]
    refine ⟨by rw [sizeLine_eq, List.length_singleton]; omega, ?_⟩
    by_cases c2 : 24 < c.2.2
    · rw [if_pos (decide_eq_true c2)]
      refine ⟨by rw [sizeLine_eq, List.length_append, List.length_singleton, List.length_singleton]; omega, by rw [sizeLine_eq, List.length_append, List.length_append, List.length_singleton, List.length_singleton, List.length_singleton]; omega, ?_⟩
      exact head_ok (by rw [List.append_assoc, List.append_assoc]; rfl) fun x hx => tailF ha hb hc (due hx (.inl ⟨c1, rfl⟩)) q
    · rw [if_neg (by rw [decide_eq_true_eq]; exact c2)]
      refine ⟨by rw [sizeLine_eq, List.length_append, List.length_singleton, List.length_singleton]; omega, ?_⟩
      exact head_ok (by rw [List.append_assoc]; rfl) fun x hx => tailF ha hb hc (due hx (.inl ⟨c1, rfl⟩)) q
  · rw [if_neg (by rw [decide_eq_true_eq]; exact c1)]
    by_cases c2 : 24 < c.2.2
    · rw [if_pos (decide_eq_true c2)]
      refine ⟨by rw [sizeLine_eq, List.length_singleton]; omega, by rw [sizeLine_eq, List.length_append, List.length_singleton, List.length_singleton]; omega, ?_⟩
      exact head_ok (by rw [List.append_assoc]; rfl) fun x hx => tailF ha hb hc (due hx (.inr ⟨c1, .inl ⟨c2, rfl⟩⟩)) q
    · rw [if_neg (by rw [decide_eq_true_eq]; exact c2)]
      refine ⟨by rw [sizeLine_eq, List.length_singleton]; omega, ?_⟩
      exact head_ok rfl fun x hx => tailF ha hb hc (due hx (.inr ⟨c1, .inr ⟨c2, rfl⟩⟩)) q
/-! level -/
abbrev tN (x : D) : List D := [D.v (V.str ("number" : Str)), x]
structure NumOk (x : D) (o : Option (List D)) : Prop where
  ty : tyOk x = true
  ok : OkX x 3 1921
  is : (o = some (tN x) ∧ isI x = false) ∨ (o = none ∧ isI x = true)
def DueL (a : D × Option (List D)) (o : Option (List D)) (due : List D) : Prop := a.2 = some due ∨ (a.2 = none ∧ (o = some due ∨ (o = none ∧ due = tk)))
theorem zip1 (x : Row) : (rangeI 0 (([x] : List Row).length : Int)).zip [x] = [(0, x)] := by
  show (rangeI 0 1).zip [x] = _
  rw [rangeI_step (by decide)]
  rfl
theorem cf_lev {i : Int} (h : 0 ≤ i) {k : Unit → Prop} (q : k ()) : M_check_first_i i k := by
  show if (!false) = true then (if (!decide ((0 : Int) ≤ i)) = true then False else k ()) else (if (!false) = true then False else k ())
  rw [if_pos (by decide), if_neg (by simpa using h)]
  exact q
theorem cv_lev {k : Unit → Prop} (q : k ()) : M_check_values_li [] k := by
  show if (!true) = true then False else k ()
  rw [if_neg (by decide)]
  exact q
theorem row_lev {r : Row} {k : Bool → Prop} (q : k true) : M_is_row_tiii r k := by
  unfold M_is_row_tiii
  rw [if_pos (by decide)]
  exact ⟨by simp, q⟩
theorem cr_lev {r : Row} {k : Unit → Prop} (q : k ()) : M_check_rows_ltiii [r] k := by
  unfold M_check_rows_ltiii M_is_list_ltiii
  dsimp only
  rw [if_neg (by decide : ¬ (!true) = true), if_neg (by simp), zip1]
  refine forC_hd (row_lev ?_)
  rw [if_neg (by decide)]
  exact q
theorem init_level {i n : Int} (h : 0 ≤ i) {K : (Int × List Int × List (Int × Int × Int)) → Prop} (q : K (i, [], [(0, 0, n)])) : M_Form_init_nililtiii i [] [((0 : Int), (0 : Int), n)] K := by
  unfold M_Form_init_nililtiii M_check_parts_ililtiii
  refine cf_lev h ?_
  refine cv_lev ?_
  refine cr_lev ?_
  rw [if_neg (by simp), if_neg (by simp)]
  exact ⟨by simp, mapC_ok (fun x => x) (fun x hx k' hk => hk) q⟩
theorem level_due {a : D × Option (List D)} {x : D} {o : Option (List D)} {due : List D} (ha : FirstOk a) (hx : NumOk x o) (hd : DueL a o due) {KN : (Int × List Int × List (Int × Int × Int)) → Prop} {K1 K2 : D → Prop}
    (q0 : due = tk → ∀ r, KN r) (q1 : ∀ x, due = tF x → K1 x) (q2 : ∀ x, due = tN x → K2 x) : M_Form_level a.1 x KN K1 K2 := by
  refine first_any ha.ty (fun c0 => ?_) fun c0 => ?_
  · have a0 : a.2 = none := by
      rcases ha.is with h | h
      · exact h.1
      · rw [h.2] at c0
        cases c0
    have d1 : (o = some due ∨ (o = none ∧ due = tk)) := by
      rcases hd with h | h
      · rw [a0] at h
        cases h
      · exact h.2
    obtain ⟨i, ei, i0⟩ := cntB_of c0
    refine ⟨i, ei, int_ok hx.ty ?_⟩
    rcases hx.is with ⟨e, n⟩ | ⟨e, n⟩
    · rw [show (intOf x).isSome = false from n, if_pos (by decide)]
      refine q2 _ ?_
      rcases d1 with h | h
      · rw [e] at h
        exact (Option.some.inj h).symm
      · rw [e] at h
        cases h.1
    · rw [show (intOf x).isSome = true from n, if_neg (by decide)]
      have z : due = tk := by
        rcases d1 with h | h
        · rw [e] at h
          cases h
        · exact h.2
      obtain ⟨j, ej⟩ := Option.isSome_iff_exists.mp (show (intOf x).isSome = true from n)
      exact ⟨j, intOf_is ej, init_level i0 (q0 z _)⟩
  · refine q1 _ ?_
    rcases ha.is with h | h
    · rw [h.2] at c0
      cases c0
    · rcases hd with g | g
      · rw [h.1] at g
        exact (Option.some.inj g).symm
      · rw [h.1] at g
        cases g.1
theorem due_l {a : D × Option (List D)} {x : D} {o : Option (List D)} {due : List D} (ha : FirstOk a) (hx : NumOk x o) (hd : DueL a o due) : ∃ d', DueT due d' := by
  rcases hd with h | ⟨_, h | ⟨_, h⟩⟩
  · rcases ha.is with g | g
    · rw [g.1] at h
      cases h
    · rw [g.1] at h
      cases h
      exact ⟨_, duet2 (by decide +kernel) ha.ok⟩
  · rcases hx.is with ⟨e, _⟩ | ⟨e, _⟩
    · rw [e] at h
      cases h
      exact ⟨_, duet2 (by decide +kernel) hx.ok⟩
    · rw [e] at h
      cases h
  · rw [h]
    exact ⟨_, duetk⟩
theorem dueL_ok {ML : ((Int × List Int × List (Int × Int × Int)) → Prop) → (D → Prop) → (D → Prop) → Prop} {due d' : List D} (h : DueT due d')
    (hM : ∀ {KN : (Int × List Int × List (Int × Int × Int)) → Prop} {K1 K2 : D → Prop}, (due = tk → ∀ r, KN r) → (∀ x, due = tF x → K1 x) → (∀ x, due = tN x → K2 x) → ML KN K1 K2)
    {KM : Bool → Prop} (q : KM true) : M_is_due_LoFormInvalidFirstInvalidNumberlD ML due KM := by
  have r : ∀ d1, d1 = d' → _ := fun d1 e => e ▸ due_rest h q
  have long : ∀ {d1 : List D}, due = d1 → 1 < d1.length → d' = d1 ++ [D.v (V.bl true)] := fun {d1} e l => by
    rcases h.is with ⟨z, _⟩ | ⟨_, _, z⟩
    · rw [e] at z
      rw [z] at l
      exact absurd l (by decide)
    · rw [z, e]
  refine hM (fun z _ => r _ ?_) (fun x z => r _ ?_) (fun x z => r _ ?_)
  · rcases h.is with ⟨_, g⟩ | ⟨l, _, _⟩
    · exact g.symm
    · rw [z] at l
      exact absurd l (by decide)
  · exact (long z (by simp)).symm
  · exact (long z (by simp)).symm
theorem tailL {a : D × Option (List D)} {x : D} {o : Option (List D)} {due : List D} (ha : FirstOk a) (hx : NumOk x o) (hd : DueL a o due) {KM : Bool → Prop} (q : KM true) :
    (M_is_due_LoFormInvalidFirstInvalidNumberlD (fun KN_ KE_InvalidFirst KE_InvalidNumber => (M_Form_level a.1 x (fun r128 => (KN_ r128)) (fun x133 => (KE_InvalidFirst x133)) (fun x139 => (KE_InvalidNumber x139)))) due fun r117 => (if (!r117) = true then (KM false) else (M_is_due_LoFormInvalidFirstInvalidNumberlD (fun KN_ KE_InvalidFirst KE_InvalidNumber => (M_Form_level a.1 x (fun r159 => (KN_ r159)) (fun x164 => (KE_InvalidFirst x164)) (fun x170 => (KE_InvalidNumber x170)))) due fun r148 => (KM r148)))) := by
  obtain ⟨d', ht⟩ := due_l ha hx hd
  refine dueL_ok ht (fun q0 q1 q2 => level_due ha hx hd q0 q1 q2) ?_
  rw [if_neg (by decide)]
  exact dueL_ok ht (fun q0 q1 q2 => level_due ha hx hd q0 q1 q2) q
theorem head2 {o1 o2 : Option (List D)} {L M : List (List D)} {m : List D} (hL : L = ([o1, o2].filterMap fun x => x) ++ m :: M) {T : List D → Prop} (q : ∀ x, (o1 = some x ∨ (o1 = none ∧ (o2 = some x ∨ (o2 = none ∧ x = m)))) → T x) :
    (0 ≤ (0 : Int) ∧ ∃ g : Int.toNat (0 : Int) < L.length, ∀ x, x = L[Int.toNat (0 : Int)]'g → T x) := by
  subst hL
  refine ⟨by decide, by rw [List.length_append, List.length_cons]; show 0 < _; omega, fun x hx => q x ?_⟩
  cases o1 with
  | some y => exact .inl (by rw [hx]; rfl)
  | none =>
    refine .inr ⟨rfl, ?_⟩
    cases o2 with
    | some y => exact .inl (by rw [hx]; rfl)
    | none => exact .inr ⟨rfl, by rw [hx]; rfl⟩
theorem two {o1 o2 : Option (List D)} : ([o1, o2].filterMap fun x => x).length ≤ 2 := List.length_filterMap_le _ _
theorem level_ok {KM : Bool → Prop} (q : KM true) : M_is_level_right KM := by
  unfold M_is_level_right
  refine first_ok fun a ha => drawW_ok (by decide) (by decide) fun n n0 n1 => drawW_ok (by decide) (by decide) fun w _ _ => ?_
  split
  · refine nointeger_ok fun x hx => ⟨by simp, filC_ok (fun x => x) (fun x hx k' hk => some_step x k' hk) ?_⟩
    rw [List.nil_append]
    have nx : NumOk x (some (tN x)) := ⟨hx.ty, hx.ok.mono (by decide) (by decide), .inl ⟨rfl, hx.ni⟩⟩
    refine ⟨Nat.le_trans (Nat.add_le_add_right two _) (by rw [sizeLine_eq]; decide), ?_⟩
    exact head2 rfl fun y hy => tailL ha nx hy q
  · refine ⟨by simp, filC_ok (fun x => x) (fun x hx k' hk => some_step x k' hk) ?_⟩
    rw [List.nil_append]
    have nx : NumOk (D.v (V.int (n - 4))) none := ⟨rfl, (okx_int (sm_of (by omega))).mono (by decide) (by decide), .inr ⟨rfl, rfl⟩⟩
    refine ⟨Nat.le_trans (Nat.add_le_add_right two _) (by rw [sizeLine_eq]; decide), ?_⟩
    exact head2 rfl fun y hy => tailL ha nx hy q
theorem right_true : M_right fun r => r = true := by
  unfold M_right
  refine ⟨by rw [rangeI_len]; decide, mapC_any (fun b => b = true) (fun x hx k' hk => form_ok (hk true rfl)) fun ys _ hy => ?_⟩
  rw [List.nil_append, if_neg (by
    rw [Bool.not_eq_true', Bool.not_eq_false, List.all_eq_true]
    exact fun x hx => hy x hx)]
  refine ⟨by rw [rangeI_len]; decide, mapC_any (fun b => b = true) (fun x hx k' hk => level_ok (hk true rfl)) fun zs _ hz => ?_⟩
  rw [List.nil_append]
  show zs.all id = true
  rw [List.all_eq_true]
  exact fun x hx => hz x hx

def sp_law (A : Ad) (K : PySem.W.Frag) : Sp := fun vs H Q _ => ∃ (a : Addr) (ns : List Int), vs = [.ref a] ∧ SqL K H a (ns.map V.int) ∧ ns.length ≤ 63 ∧ (∀ p ∈ A.tbs, H p.1 = some (.tbl #[])) ∧ ∀ H1 : Hp, Q (.bl true) H1
theorem law_enter {A : Ad} {K : PySem.W.Frag} {H : Hp} {a : Addr} {ns : List Int} (hl : ns.length ≤ 63) (ht : ∀ p ∈ A.tbs, H p.1 = some (.tbl #[])) (hS : SqL K H a (ns.map V.int)) : sp_law A K [.ref a] H (fun v _ => v = .bl true) fun _ _ _ => False := ⟨a, ns, rfl, hS, hl, ht, fun _ => rfl⟩
theorem tbs_some (A : Ad) : ∀ p ∈ A.tbs, p.2 ≠ none := by simp [Ad.tbs]
theorem tbs_tab {A : Ad} {H : Hp} {p : PEn} (hp : p ∈ A.tbs) (h : EntH H p) : ∃ xs, H p.1 = some (.tbl xs) := by
  have n := tbs_some A p hp
  obtain ⟨a, k⟩ := p
  cases k with
  | none => exact absurd rfl n
  | some q =>
    obtain ⟨xs, h1, _⟩ := h
    exact ⟨xs, h1⟩
theorem sq_keep {K : PySem.W.Frag} {H H1 : Hp} {a : Addr} {xs : List V} (k : ∀ b o, H b = some o → H1 b = some o) (h : SqL K H a xs) : SqL K H1 a xs := by
  rcases h with (h | ⟨o, h⟩) | h
  · exact .inl (.inl (k _ _ h))
  · exact .inl (.inr ⟨o, k _ _ h⟩)
  · exact .inr h
theorem ok_law {P : Program} {w : World} {K : PySem.W.Frag} {mg : Str → Option Value} {base : Heap} {A : Ad} (T : Txt w K mg base A) : FnG P w K mg base 16 A.a_law A.d_law ["_law_script"] (sp_law A K) := by
  refine okG T.F_law sc_law (fun vs H Q E h => ?_) (fun cdv A_ outer s_ H_0 vs Q E gu hr h => ?_)
  · obtain ⟨a, ns, rfl, _⟩ := h
    rfl
  · obtain ⟨a, ns, rfl, hS, hl, ht0, hQ⟩ := h
    refine ⟨_, pss_one (ps_ret (pe_callB (cr_all rfl) (by rfl) T.z_all (by decide +kernel) (pa_cons (pe_lc (own := [("_law_k", 1)]) (g := gName 1) rfl sc_law.nd
      (pi_range1 (by rfl) T.z_range (pa_cons (pe_callB (call_max2 rfl) (by rfl) T.z_max (by decide +kernel) (pa_cons pe_int (pa_cons (pe_callB (call_min2 rfl) (by rfl) T.z_min (by decide +kernel) (pa_cons pe_int (pa_cons (pe_callB call_len (by rfl) T.z_len PySem.boot_len (pa_cons (pv 0) pa_nil)) pa_nil))) pa_nil))) pa_nil))
      (blkOk_by (N := ["_law_script", "_law_k"]) (sc := defScope s_law) (by decide +kernel)) (fun _ _ _ _ _ => pg_name (i := 1) sc_law.nd rfl (by first | exact Or.inl rfl | exact Or.inr rfl)) (fun _ _ _ _ _ => pts_nil)
      (fun _ _ _ _ _ => pe_callG (ok_right T) gu (hr.mono (by decide)) (by rfl) T.g_right T.F_right.kp T.b_right (pa_cons (pe_call (ok_pot T) (hr.mono (by decide)) (by rfl) T.g_pot T.F_pot.kp T.b_pot .nil pass0 (pa_cons (pv 0) (pa_cons (pv 1) pa_nil))) pa_nil))) pa_nil))), ?_⟩
    refine ⟨_, rfl, _, ns.length, rfl, .inl ⟨_, hS, by rw [List.length_map]⟩, _, _, rfl, _, _, rfl, _, rfl, ?_, ?_, fun L nl => ?_⟩
    · split <;> split <;> omega
    · split <;> split <;> omega
    have hsq : ∀ H : Hp, (∀ o, H_0 a = some o → (∀ xs, o ≠ .tbl xs) → H a = some o) → SqL K H a (ns.map V.int) := fun H k => by
      rcases hS with (h | ⟨o, h⟩) | h
      · exact .inl (.inl (k _ h fun _ z => nomatch z))
      · exact .inl (.inr ⟨o, k _ h fun _ z => nomatch z⟩)
      · exact .inr h
    have e0 := Rx.Ext.new (o := .lst []) nl
    have ht1 : ∀ p ∈ A.tbs, EntH (upd H_0 L (.lst [])) p := fun p hp => by
      have n := tbs_some A p hp
      have h0 := e0.keep (ht0 p hp)
      obtain ⟨b, k⟩ := p
      cases k with
      | none => exact absurd rfl n
      | some q => exact LamX.TabS.nil h0
    refine lc_range (lo := 0) (fun i H => (∀ o, H_0 a = some o → (∀ xs, o ≠ .tbl xs) → H a = some o) ∧ (∀ p ∈ A.tbs, EntH H p) ∧ ∃ n, n ≤ i ∧ H L = some (.lst (List.replicate n (.bl true)))) ⟨fun o h _ => e0.keep h, ht1, 0, Nat.le_refl _, upd_same⟩ (fun i H hi ⟨hS1, hT, n, hn, hL⟩ => ?_) (fun H ⟨hS1, hT, n, hn, hL⟩ => ?_)
    · refine ⟨rfl, ?_⟩
      refine tyes_of ?_
      have hi4 : i < 64 := by
        refine Nat.lt_of_lt_of_le hi ?_
        split <;> split <;> omega
      refine ⟨_, rfl, _, rfl, a, ns, 0 + (i : Int), rfl, hsq H hS1, hl, by omega, by omega, fun p H1 i1 j1 np e1 hp hj => ?_⟩
      have hE : ∀ b ∈ ((p, none) :: A.tbs : List PEn), EntH H1 b := fun b hb => by
        rcases List.mem_cons.mp hb with rfl | hb
        · exact (⟨i1, j1, hp, hj⟩ : PotH _ _)
        · exact ent_stay (hT b hb) (fun o ho => e1.keep ho) fun c q hc => e1.keep hc
      refine ⟨ad ((p, none) :: A.tbs), p, fun r => r = true, rfl, ⟨fun _ _ _ h => h, fun _ h => h, fun m hm => ?_, hE, fun b hb => hb, fun c hc => absurd hc List.not_mem_nil⟩, right_true, fun r u H2 hr2 e2 hu => ?_⟩
      · obtain ⟨x, hx, rfl⟩ := List.mem_map.mp hm
        exact ent_some (hE x hx)
      · obtain rfl := of_v hu
        have e3 : ∀ b o, (∀ xs, o ≠ .tbl xs) → H b = some o → H2 b = some o := fun b o no h => e2.kp b o (fun z => by
          obtain ⟨x, hx, rfl⟩ := List.mem_map.mp z
          rcases List.mem_cons.mp hx with rfl | hx
          · have h' : H p = some o := h
            rw [np] at h'
            cases h'
          · obtain ⟨xs, hxs⟩ := tbs_tab hx (hT x hx)
            rw [hxs] at h
            cases h
            exact no _ rfl) (e1.keep h)
        have hT2 : ∀ b ∈ A.tbs, EntH H2 b := fun b hb => e2.pot b (List.mem_cons_of_mem _ hb)
        have hL2 := e3 L (.lst (List.replicate n (.bl true))) (fun _ z => nomatch z) hL
        refine ⟨_, hL2, ?_, fun o h no => ?_, fun b hb => ?_, n + 1, Nat.succ_le_succ hn, by rw [upd_same, hr2, List.replicate_succ']⟩
        · rw [List.length_replicate]
          exact Nat.lt_of_le_of_lt (show n ≤ 64 by omega) (by decide)
        · rw [upd_ne (ne_of_none h nl)]
          exact e3 _ _ no (hS1 _ h no)
        · obtain ⟨xs, hxs⟩ := tbs_tab hb (hT2 b hb)
          refine ent_stay (hT2 b hb) (fun o ho => ?_) fun c q hc => ?_
          · rw [upd_ne (fun z => by rw [z, hL2] at hxs; cases hxs)]
            exact ho
          · rw [upd_ne (fun z => by rw [z, hL2] at hc; cases hc)]
            exact hc
    · refine ⟨L, List.replicate n true, rfl, .inl (.inl (by rw [List.map_replicate]; exact hL)), ?_⟩
      have : (List.replicate n true).all id = true := by
        rw [List.all_eq_true]
        intro x hx
        rw [(List.mem_replicate.mp hx).2]
        rfl
      rw [this]
      exact hQ _

theorem all_mk {l : PySem.W.OpenLaw} {w : World} {K : PySem.W.Frag} {h : Heap} {mg : Str → Option Value} {fa Adraw Apick Ano_integer Ano_count Afirst Aspoilt Aearly Ano_row Arows Ais_integer Ais_count Acheck_first Ais_list Acheck_values Ais_row Acheck_rows Acheck_parts AForm_init Ais_value Aheard Ais_due Ais_form_right Achecked AForm_level Ais_level_right Aright Apot Alaw AReckoned_init AInvalidFirst_init AInvalidNumber_init AInvalidRows_init AInvalidValues_init ATooMany_init CInvalidFirst CInvalidNumber CInvalidRows CInvalidValues CLeagueError CLimitError CTooMany Kis_form_right TTis_form_right Kis_level_right TTis_level_right CForm CReckoned : Addr} (X : K.In h) (G : h.Ns mainGlobals mg) (hfa : mg "law" = some (.ref fa))
    {oddraw andraw : Option Addr} {sldraw : Array (Option Value)} {ocdraw kVdraw dcdraw pmdraw cddraw ctdraw : Value}
    {odpick anpick : Option Addr} {slpick : Array (Option Value)} {ocpick kVpick dcpick pmpick cdpick ctpick : Value}
    {odno_integer anno_integer : Option Addr} {slno_integer : Array (Option Value)} {ocno_integer kVno_integer dcno_integer pmno_integer cdno_integer ctno_integer : Value}
    {odno_count anno_count : Option Addr} {slno_count : Array (Option Value)} {ocno_count kVno_count dcno_count pmno_count cdno_count ctno_count : Value}
    {odfirst anfirst : Option Addr} {slfirst : Array (Option Value)} {ocfirst kVfirst dcfirst pmfirst cdfirst ctfirst : Value}
    {odspoilt anspoilt : Option Addr} {slspoilt : Array (Option Value)} {ocspoilt kVspoilt dcspoilt pmspoilt cdspoilt ctspoilt : Value}
    {odearly anearly : Option Addr} {slearly : Array (Option Value)} {ocearly kVearly dcearly pmearly cdearly ctearly : Value}
    {odno_row anno_row : Option Addr} {slno_row : Array (Option Value)} {ocno_row kVno_row dcno_row pmno_row cdno_row ctno_row : Value}
    {odrows anrows : Option Addr} {slrows : Array (Option Value)} {ocrows kVrows dcrows pmrows cdrows ctrows : Value}
    {odis_integer anis_integer : Option Addr} {slis_integer : Array (Option Value)} {ocis_integer kVis_integer dcis_integer pmis_integer cdis_integer ctis_integer : Value}
    {odis_count anis_count : Option Addr} {slis_count : Array (Option Value)} {ocis_count kVis_count dcis_count pmis_count cdis_count ctis_count : Value}
    {odcheck_first ancheck_first : Option Addr} {slcheck_first : Array (Option Value)} {occheck_first kVcheck_first dccheck_first pmcheck_first cdcheck_first ctcheck_first : Value}
    {odis_list anis_list : Option Addr} {slis_list : Array (Option Value)} {ocis_list kVis_list dcis_list pmis_list cdis_list ctis_list : Value}
    {odcheck_values ancheck_values : Option Addr} {slcheck_values : Array (Option Value)} {occheck_values kVcheck_values dccheck_values pmcheck_values cdcheck_values ctcheck_values : Value}
    {odis_row anis_row : Option Addr} {slis_row : Array (Option Value)} {ocis_row kVis_row dcis_row pmis_row cdis_row ctis_row : Value}
    {odcheck_rows ancheck_rows : Option Addr} {slcheck_rows : Array (Option Value)} {occheck_rows kVcheck_rows dccheck_rows pmcheck_rows cdcheck_rows ctcheck_rows : Value}
    {odcheck_parts ancheck_parts : Option Addr} {slcheck_parts : Array (Option Value)} {occheck_parts kVcheck_parts dccheck_parts pmcheck_parts cdcheck_parts ctcheck_parts : Value}
    {odForm_init anForm_init : Option Addr} {slForm_init : Array (Option Value)} {ocForm_init kVForm_init dcForm_init pmForm_init cdForm_init ctForm_init : Value}
    {odis_value anis_value : Option Addr} {slis_value : Array (Option Value)} {ocis_value kVis_value dcis_value pmis_value cdis_value ctis_value : Value}
    {odheard anheard : Option Addr} {slheard : Array (Option Value)} {ocheard kVheard dcheard pmheard cdheard ctheard : Value}
    {odis_due anis_due : Option Addr} {slis_due : Array (Option Value)} {ocis_due kVis_due dcis_due pmis_due cdis_due ctis_due : Value}
    {odis_form_right anis_form_right : Option Addr} {slis_form_right : Array (Option Value)} {ocis_form_right kVis_form_right dcis_form_right pmis_form_right ctis_form_right : Value}
    {odchecked anchecked : Option Addr} {slchecked : Array (Option Value)} {occhecked kVchecked dcchecked pmchecked cdchecked ctchecked : Value}
    {PForm_level : Addr}
    {RForm_level : List Value}
    {odForm_level anForm_level : Option Addr} {slForm_level : Array (Option Value)} {ocForm_level kVForm_level dcForm_level pmForm_level cdForm_level ctForm_level : Value}
    {odis_level_right anis_level_right : Option Addr} {slis_level_right : Array (Option Value)} {ocis_level_right kVis_level_right dcis_level_right pmis_level_right ctis_level_right : Value}
    {odright anright : Option Addr} {slright : Array (Option Value)} {ocright kVright dcright pmright cdright ctright : Value}
    {odpot anpot : Option Addr} {slpot : Array (Option Value)} {ocpot kVpot dcpot pmpot cdpot ctpot : Value}
    {odlaw anlaw : Option Addr} {sllaw : Array (Option Value)} {oclaw kVlaw dclaw pmlaw cdlaw ctlaw : Value}
    {odReckoned_init anReckoned_init : Option Addr} {slReckoned_init : Array (Option Value)} {ocReckoned_init kVReckoned_init dcReckoned_init pmReckoned_init cdReckoned_init ctReckoned_init : Value}
    {odInvalidFirst_init anInvalidFirst_init : Option Addr} {slInvalidFirst_init : Array (Option Value)} {ocInvalidFirst_init kVInvalidFirst_init dcInvalidFirst_init pmInvalidFirst_init cdInvalidFirst_init ctInvalidFirst_init : Value}
    {odInvalidNumber_init anInvalidNumber_init : Option Addr} {slInvalidNumber_init : Array (Option Value)} {ocInvalidNumber_init kVInvalidNumber_init dcInvalidNumber_init pmInvalidNumber_init cdInvalidNumber_init ctInvalidNumber_init : Value}
    {odInvalidRows_init anInvalidRows_init : Option Addr} {slInvalidRows_init : Array (Option Value)} {ocInvalidRows_init kVInvalidRows_init dcInvalidRows_init pmInvalidRows_init cdInvalidRows_init ctInvalidRows_init : Value}
    {odInvalidValues_init anInvalidValues_init : Option Addr} {slInvalidValues_init : Array (Option Value)} {ocInvalidValues_init kVInvalidValues_init dcInvalidValues_init pmInvalidValues_init cdInvalidValues_init ctInvalidValues_init : Value}
    {odTooMany_init anTooMany_init : Option Addr} {slTooMany_init : Array (Option Value)} {ocTooMany_init kVTooMany_init dcTooMany_init pmTooMany_init cdTooMany_init ctTooMany_init : Value}
    {xnInvalidFirst xqInvalidFirst : Str} {xNInvalidFirst : Addr} {xbInvalidFirst xmInvalidFirst : List Value} {xsInvalidFirst : List Str} {xuInvalidFirst : List Value} {xaInvalidFirst : Bool} {xlInvalidFirst : Option Bool} {xdInvalidFirst : Option Addr} {x0InvalidFirst x1InvalidFirst x2InvalidFirst x3InvalidFirst x5InvalidFirst : Option Value}
    {xnInvalidNumber xqInvalidNumber : Str} {xNInvalidNumber : Addr} {xbInvalidNumber xmInvalidNumber : List Value} {xsInvalidNumber : List Str} {xuInvalidNumber : List Value} {xaInvalidNumber : Bool} {xlInvalidNumber : Option Bool} {xdInvalidNumber : Option Addr} {x0InvalidNumber x1InvalidNumber x2InvalidNumber x3InvalidNumber x5InvalidNumber : Option Value}
    {xnInvalidRows xqInvalidRows : Str} {xNInvalidRows : Addr} {xbInvalidRows xmInvalidRows : List Value} {xsInvalidRows : List Str} {xuInvalidRows : List Value} {xaInvalidRows : Bool} {xlInvalidRows : Option Bool} {xdInvalidRows : Option Addr} {x0InvalidRows x1InvalidRows x2InvalidRows x3InvalidRows x5InvalidRows : Option Value}
    {xnInvalidValues xqInvalidValues : Str} {xNInvalidValues : Addr} {xbInvalidValues xmInvalidValues : List Value} {xsInvalidValues : List Str} {xuInvalidValues : List Value} {xaInvalidValues : Bool} {xlInvalidValues : Option Bool} {xdInvalidValues : Option Addr} {x0InvalidValues x1InvalidValues x2InvalidValues x3InvalidValues x5InvalidValues : Option Value}
    {kocis_form_right : Value} {kodis_form_right : Option Addr} {kwsis_form_right : Array Value} {kslis_form_right : Array (Option Value)}
    {kocis_level_right : Value} {kodis_level_right : Option Addr} {kwsis_level_right : Array Value} {kslis_level_right : Array (Option Value)}
    {tMOST_ROWS : Tok}
    {tMOST_VALUES : Tok}
    (a_draw : PySem.W.nsIn K mainGlobals "_law_draw" = some (some (.ref Adraw)))
    (l_draw : K.lookup Adraw = some ⟨ocdraw, oddraw, .func (PySem.W.fnOf "_law_draw" "_law_draw" (defArgs s_draw) (defBody s_draw) (defScope s_draw) .none kVdraw dcdraw pmdraw andraw cddraw ctdraw), sldraw⟩)
    (o_draw : PySem.W.codeIn K cddraw "_law_draw" = true)
    (k_draw : PySem.W.keepIn K (.ref Adraw) = true)
    (a_pick : PySem.W.nsIn K mainGlobals "_law_pick" = some (some (.ref Apick)))
    (l_pick : K.lookup Apick = some ⟨ocpick, odpick, .func (PySem.W.fnOf "_law_pick" "_law_pick" (defArgs s_pick) (defBody s_pick) (defScope s_pick) .none kVpick dcpick pmpick anpick cdpick ctpick), slpick⟩)
    (o_pick : PySem.W.codeIn K cdpick "_law_pick" = true)
    (k_pick : PySem.W.keepIn K (.ref Apick) = true)
    (a_no_integer : PySem.W.nsIn K mainGlobals "_law_no_integer" = some (some (.ref Ano_integer)))
    (l_no_integer : K.lookup Ano_integer = some ⟨ocno_integer, odno_integer, .func (PySem.W.fnOf "_law_no_integer" "_law_no_integer" (defArgs s_no_integer) (defBody s_no_integer) (defScope s_no_integer) .none kVno_integer dcno_integer pmno_integer anno_integer cdno_integer ctno_integer), slno_integer⟩)
    (o_no_integer : PySem.W.codeIn K cdno_integer "_law_no_integer" = true)
    (k_no_integer : PySem.W.keepIn K (.ref Ano_integer) = true)
    (a_no_count : PySem.W.nsIn K mainGlobals "_law_no_count" = some (some (.ref Ano_count)))
    (l_no_count : K.lookup Ano_count = some ⟨ocno_count, odno_count, .func (PySem.W.fnOf "_law_no_count" "_law_no_count" (defArgs s_no_count) (defBody s_no_count) (defScope s_no_count) .none kVno_count dcno_count pmno_count anno_count cdno_count ctno_count), slno_count⟩)
    (o_no_count : PySem.W.codeIn K cdno_count "_law_no_count" = true)
    (k_no_count : PySem.W.keepIn K (.ref Ano_count) = true)
    (a_first : PySem.W.nsIn K mainGlobals "_law_first" = some (some (.ref Afirst)))
    (l_first : K.lookup Afirst = some ⟨ocfirst, odfirst, .func (PySem.W.fnOf "_law_first" "_law_first" (defArgs s_first) (defBody s_first) (defScope s_first) .none kVfirst dcfirst pmfirst anfirst cdfirst ctfirst), slfirst⟩)
    (o_first : PySem.W.codeIn K cdfirst "_law_first" = true)
    (k_first : PySem.W.keepIn K (.ref Afirst) = true)
    (a_spoilt : PySem.W.nsIn K mainGlobals "_law_spoilt" = some (some (.ref Aspoilt)))
    (l_spoilt : K.lookup Aspoilt = some ⟨ocspoilt, odspoilt, .func (PySem.W.fnOf "_law_spoilt" "_law_spoilt" (defArgs s_spoilt) (defBody s_spoilt) (defScope s_spoilt) .none kVspoilt dcspoilt pmspoilt anspoilt cdspoilt ctspoilt), slspoilt⟩)
    (o_spoilt : PySem.W.codeIn K cdspoilt "_law_spoilt" = true)
    (k_spoilt : PySem.W.keepIn K (.ref Aspoilt) = true)
    (a_early : PySem.W.nsIn K mainGlobals "_law_early" = some (some (.ref Aearly)))
    (l_early : K.lookup Aearly = some ⟨ocearly, odearly, .func (PySem.W.fnOf "_law_early" "_law_early" (defArgs s_early) (defBody s_early) (defScope s_early) .none kVearly dcearly pmearly anearly cdearly ctearly), slearly⟩)
    (o_early : PySem.W.codeIn K cdearly "_law_early" = true)
    (k_early : PySem.W.keepIn K (.ref Aearly) = true)
    (a_no_row : PySem.W.nsIn K mainGlobals "_law_no_row" = some (some (.ref Ano_row)))
    (l_no_row : K.lookup Ano_row = some ⟨ocno_row, odno_row, .func (PySem.W.fnOf "_law_no_row" "_law_no_row" (defArgs s_no_row) (defBody s_no_row) (defScope s_no_row) .none kVno_row dcno_row pmno_row anno_row cdno_row ctno_row), slno_row⟩)
    (o_no_row : PySem.W.codeIn K cdno_row "_law_no_row" = true)
    (k_no_row : PySem.W.keepIn K (.ref Ano_row) = true)
    (a_rows : PySem.W.nsIn K mainGlobals "_law_rows" = some (some (.ref Arows)))
    (l_rows : K.lookup Arows = some ⟨ocrows, odrows, .func (PySem.W.fnOf "_law_rows" "_law_rows" (defArgs s_rows) (defBody s_rows) (defScope s_rows) .none kVrows dcrows pmrows anrows cdrows ctrows), slrows⟩)
    (o_rows : PySem.W.codeIn K cdrows "_law_rows" = true)
    (k_rows : PySem.W.keepIn K (.ref Arows) = true)
    (a_is_integer : PySem.W.nsIn K mainGlobals "is_integer" = some (some (.ref Ais_integer)))
    (l_is_integer : K.lookup Ais_integer = some ⟨ocis_integer, odis_integer, .func (PySem.W.fnOf "is_integer" "is_integer" (defArgs s_is_integer) (defBody s_is_integer) (defScope s_is_integer) .none kVis_integer dcis_integer pmis_integer anis_integer cdis_integer ctis_integer), slis_integer⟩)
    (o_is_integer : PySem.W.codeIn K cdis_integer "is_integer" = true)
    (k_is_integer : PySem.W.keepIn K (.ref Ais_integer) = true)
    (a_is_count : PySem.W.nsIn K mainGlobals "is_count" = some (some (.ref Ais_count)))
    (l_is_count : K.lookup Ais_count = some ⟨ocis_count, odis_count, .func (PySem.W.fnOf "is_count" "is_count" (defArgs s_is_count) (defBody s_is_count) (defScope s_is_count) .none kVis_count dcis_count pmis_count anis_count cdis_count ctis_count), slis_count⟩)
    (o_is_count : PySem.W.codeIn K cdis_count "is_count" = true)
    (k_is_count : PySem.W.keepIn K (.ref Ais_count) = true)
    (a_check_first : PySem.W.nsIn K mainGlobals "_check_first" = some (some (.ref Acheck_first)))
    (l_check_first : K.lookup Acheck_first = some ⟨occheck_first, odcheck_first, .func (PySem.W.fnOf "_check_first" "_check_first" (defArgs s_check_first) (defBody s_check_first) (defScope s_check_first) .none kVcheck_first dccheck_first pmcheck_first ancheck_first cdcheck_first ctcheck_first), slcheck_first⟩)
    (o_check_first : PySem.W.codeIn K cdcheck_first "_check_first" = true)
    (k_check_first : PySem.W.keepIn K (.ref Acheck_first) = true)
    (a_is_list : PySem.W.nsIn K mainGlobals "is_list" = some (some (.ref Ais_list)))
    (l_is_list : K.lookup Ais_list = some ⟨ocis_list, odis_list, .func (PySem.W.fnOf "is_list" "is_list" (defArgs s_is_list) (defBody s_is_list) (defScope s_is_list) .none kVis_list dcis_list pmis_list anis_list cdis_list ctis_list), slis_list⟩)
    (o_is_list : PySem.W.codeIn K cdis_list "is_list" = true)
    (k_is_list : PySem.W.keepIn K (.ref Ais_list) = true)
    (a_check_values : PySem.W.nsIn K mainGlobals "_check_values" = some (some (.ref Acheck_values)))
    (l_check_values : K.lookup Acheck_values = some ⟨occheck_values, odcheck_values, .func (PySem.W.fnOf "_check_values" "_check_values" (defArgs s_check_values) (defBody s_check_values) (defScope s_check_values) .none kVcheck_values dccheck_values pmcheck_values ancheck_values cdcheck_values ctcheck_values), slcheck_values⟩)
    (o_check_values : PySem.W.codeIn K cdcheck_values "_check_values" = true)
    (k_check_values : PySem.W.keepIn K (.ref Acheck_values) = true)
    (a_is_row : PySem.W.nsIn K mainGlobals "_is_row" = some (some (.ref Ais_row)))
    (l_is_row : K.lookup Ais_row = some ⟨ocis_row, odis_row, .func (PySem.W.fnOf "_is_row" "_is_row" (defArgs s_is_row) (defBody s_is_row) (defScope s_is_row) .none kVis_row dcis_row pmis_row anis_row cdis_row ctis_row), slis_row⟩)
    (o_is_row : PySem.W.codeIn K cdis_row "_is_row" = true)
    (k_is_row : PySem.W.keepIn K (.ref Ais_row) = true)
    (a_check_rows : PySem.W.nsIn K mainGlobals "_check_rows" = some (some (.ref Acheck_rows)))
    (l_check_rows : K.lookup Acheck_rows = some ⟨occheck_rows, odcheck_rows, .func (PySem.W.fnOf "_check_rows" "_check_rows" (defArgs s_check_rows) (defBody s_check_rows) (defScope s_check_rows) .none kVcheck_rows dccheck_rows pmcheck_rows ancheck_rows cdcheck_rows ctcheck_rows), slcheck_rows⟩)
    (o_check_rows : PySem.W.codeIn K cdcheck_rows "_check_rows" = true)
    (k_check_rows : PySem.W.keepIn K (.ref Acheck_rows) = true)
    (a_check_parts : PySem.W.nsIn K mainGlobals "_check_parts" = some (some (.ref Acheck_parts)))
    (l_check_parts : K.lookup Acheck_parts = some ⟨occheck_parts, odcheck_parts, .func (PySem.W.fnOf "_check_parts" "_check_parts" (defArgs s_check_parts) (defBody s_check_parts) (defScope s_check_parts) .none kVcheck_parts dccheck_parts pmcheck_parts ancheck_parts cdcheck_parts ctcheck_parts), slcheck_parts⟩)
    (o_check_parts : PySem.W.codeIn K cdcheck_parts "_check_parts" = true)
    (k_check_parts : PySem.W.keepIn K (.ref Acheck_parts) = true)
    (a_Form_init : PySem.W.findIn K (.ref CForm) "__init__" = some (some (.ref AForm_init)))
    (i_Form_init : PySem.W.isFn K (.ref AForm_init) = true)
    (l_Form_init : K.lookup AForm_init = some ⟨ocForm_init, odForm_init, .func (PySem.W.fnOf "__init__" "Form.__init__" (defArgs s_Form_init) (defBody s_Form_init) (defScope s_Form_init) .none kVForm_init dcForm_init pmForm_init anForm_init cdForm_init ctForm_init), slForm_init⟩)
    (o_Form_init : PySem.W.codeIn K cdForm_init "Form.__init__" = true)
    (k_Form_init : PySem.W.keepIn K (.ref AForm_init) = true)
    (a_is_value : PySem.W.nsIn K mainGlobals "_law_is_value" = some (some (.ref Ais_value)))
    (l_is_value : K.lookup Ais_value = some ⟨ocis_value, odis_value, .func (PySem.W.fnOf "_law_is_value" "_law_is_value" (defArgs s_is_value) (defBody s_is_value) (defScope s_is_value) .none kVis_value dcis_value pmis_value anis_value cdis_value ctis_value), slis_value⟩)
    (o_is_value : PySem.W.codeIn K cdis_value "_law_is_value" = true)
    (k_is_value : PySem.W.keepIn K (.ref Ais_value) = true)
    (a_heard : PySem.W.nsIn K mainGlobals "_law_heard" = some (some (.ref Aheard)))
    (l_heard : K.lookup Aheard = some ⟨ocheard, odheard, .func (PySem.W.fnOf "_law_heard" "_law_heard" (defArgs s_heard) (defBody s_heard) (defScope s_heard) .none kVheard dcheard pmheard anheard cdheard ctheard), slheard⟩)
    (o_heard : PySem.W.codeIn K cdheard "_law_heard" = true)
    (k_heard : PySem.W.keepIn K (.ref Aheard) = true)
    (a_is_due : PySem.W.nsIn K mainGlobals "_law_is_due" = some (some (.ref Ais_due)))
    (l_is_due : K.lookup Ais_due = some ⟨ocis_due, odis_due, .func (PySem.W.fnOf "_law_is_due" "_law_is_due" (defArgs s_is_due) (defBody s_is_due) (defScope s_is_due) .none kVis_due dcis_due pmis_due anis_due cdis_due ctis_due), slis_due⟩)
    (o_is_due : PySem.W.codeIn K cdis_due "_law_is_due" = true)
    (k_is_due : PySem.W.keepIn K (.ref Ais_due) = true)
    (a_is_form_right : PySem.W.nsIn K mainGlobals "_law_is_form_right" = some (some (.ref Ais_form_right)))
    (l_is_form_right : K.lookup Ais_form_right = some ⟨ocis_form_right, odis_form_right, .func (PySem.W.fnOf "_law_is_form_right" "_law_is_form_right" (defArgs s_is_form_right) (defBody s_is_form_right) (defScope s_is_form_right) .none kVis_form_right dcis_form_right pmis_form_right anis_form_right (.ref Kis_form_right) ctis_form_right), slis_form_right⟩)
    (o_is_form_right : PySem.W.codeIn K (.ref Kis_form_right) "_law_is_form_right" = true)
    (k_is_form_right : PySem.W.keepIn K (.ref Ais_form_right) = true)
    (a_checked : PySem.W.nsIn K mainGlobals "_checked" = some (some (.ref Achecked)))
    (l_checked : K.lookup Achecked = some ⟨occhecked, odchecked, .func (PySem.W.fnOf "_checked" "_checked" (defArgs s_checked) (defBody s_checked) (defScope s_checked) .none kVchecked dcchecked pmchecked anchecked cdchecked ctchecked), slchecked⟩)
    (o_checked : PySem.W.codeIn K cdchecked "_checked" = true)
    (k_checked : PySem.W.keepIn K (.ref Achecked) = true)
    (sd_Form_level : PySem.W.readsIn K CForm (.type "type") = true)
    (sg_Form_level : PySem.W.specialIn K (.ref CForm) "__getattribute__" = some (some (.builtin "type.__getattribute__")))
    (sf_Form_level : PySem.W.findCls K (.ref CForm) (.type "type") "level" = some (.get (.builtin "staticmethod.__get__") (.ref PForm_level) .none (.ref CForm)))
    (sr_Form_level : PySem.W.recIn K PForm_level "staticmethod" = some (.ref AForm_level :: RForm_level))
    (l_Form_level : K.lookup AForm_level = some ⟨ocForm_level, odForm_level, .func (PySem.W.fnOf "level" "Form.level" (defArgs s_Form_level) (defBody s_Form_level) (defScope s_Form_level) .none kVForm_level dcForm_level pmForm_level anForm_level cdForm_level ctForm_level), slForm_level⟩)
    (o_Form_level : PySem.W.codeIn K cdForm_level "Form.level" = true)
    (k_Form_level : PySem.W.keepIn K (.ref AForm_level) = true)
    (a_is_level_right : PySem.W.nsIn K mainGlobals "_law_is_level_right" = some (some (.ref Ais_level_right)))
    (l_is_level_right : K.lookup Ais_level_right = some ⟨ocis_level_right, odis_level_right, .func (PySem.W.fnOf "_law_is_level_right" "_law_is_level_right" (defArgs s_is_level_right) (defBody s_is_level_right) (defScope s_is_level_right) .none kVis_level_right dcis_level_right pmis_level_right anis_level_right (.ref Kis_level_right) ctis_level_right), slis_level_right⟩)
    (o_is_level_right : PySem.W.codeIn K (.ref Kis_level_right) "_law_is_level_right" = true)
    (k_is_level_right : PySem.W.keepIn K (.ref Ais_level_right) = true)
    (a_right : PySem.W.nsIn K mainGlobals "_law_right" = some (some (.ref Aright)))
    (l_right : K.lookup Aright = some ⟨ocright, odright, .func (PySem.W.fnOf "_law_right" "_law_right" (defArgs s_right) (defBody s_right) (defScope s_right) .none kVright dcright pmright anright cdright ctright), slright⟩)
    (o_right : PySem.W.codeIn K cdright "_law_right" = true)
    (k_right : PySem.W.keepIn K (.ref Aright) = true)
    (a_pot : PySem.W.nsIn K mainGlobals "_law_pot" = some (some (.ref Apot)))
    (l_pot : K.lookup Apot = some ⟨ocpot, odpot, .func (PySem.W.fnOf "_law_pot" "_law_pot" (defArgs s_pot) (defBody s_pot) (defScope s_pot) .none kVpot dcpot pmpot anpot cdpot ctpot), slpot⟩)
    (o_pot : PySem.W.codeIn K cdpot "_law_pot" = true)
    (k_pot : PySem.W.keepIn K (.ref Apot) = true)
    (a_law : PySem.W.nsIn K mainGlobals "law" = some (some (.ref Alaw)))
    (l_law : K.lookup Alaw = some ⟨oclaw, odlaw, .func (PySem.W.fnOf "law" "law" (defArgs s_law) (defBody s_law) (defScope s_law) .none kVlaw dclaw pmlaw anlaw cdlaw ctlaw), sllaw⟩)
    (o_law : PySem.W.codeIn K cdlaw "law" = true)
    (k_law : PySem.W.keepIn K (.ref Alaw) = true)
    (a_Reckoned_init : PySem.W.findIn K (.ref CReckoned) "__init__" = some (some (.ref AReckoned_init)))
    (i_Reckoned_init : PySem.W.isFn K (.ref AReckoned_init) = true)
    (l_Reckoned_init : K.lookup AReckoned_init = some ⟨ocReckoned_init, odReckoned_init, .func (PySem.W.fnOf "__init__" "Reckoned.__init__" (defArgs s_Reckoned_init) (defBody s_Reckoned_init) (defScope s_Reckoned_init) .none kVReckoned_init dcReckoned_init pmReckoned_init anReckoned_init cdReckoned_init ctReckoned_init), slReckoned_init⟩)
    (o_Reckoned_init : PySem.W.codeIn K cdReckoned_init "Reckoned.__init__" = true)
    (k_Reckoned_init : PySem.W.keepIn K (.ref AReckoned_init) = true)
    (a_InvalidFirst_init : PySem.W.findIn K (.ref CInvalidFirst) "__init__" = some (some (.ref AInvalidFirst_init)))
    (i_InvalidFirst_init : PySem.W.isFn K (.ref AInvalidFirst_init) = true)
    (l_InvalidFirst_init : K.lookup AInvalidFirst_init = some ⟨ocInvalidFirst_init, odInvalidFirst_init, .func (PySem.W.fnOf "__init__" "InvalidFirst.__init__" (defArgs s_InvalidFirst_init) (defBody s_InvalidFirst_init) (defScope s_InvalidFirst_init) .none kVInvalidFirst_init dcInvalidFirst_init pmInvalidFirst_init anInvalidFirst_init cdInvalidFirst_init ctInvalidFirst_init), slInvalidFirst_init⟩)
    (o_InvalidFirst_init : PySem.W.codeIn K cdInvalidFirst_init "InvalidFirst.__init__" = true)
    (k_InvalidFirst_init : PySem.W.keepIn K (.ref AInvalidFirst_init) = true)
    (a_InvalidNumber_init : PySem.W.findIn K (.ref CInvalidNumber) "__init__" = some (some (.ref AInvalidNumber_init)))
    (i_InvalidNumber_init : PySem.W.isFn K (.ref AInvalidNumber_init) = true)
    (l_InvalidNumber_init : K.lookup AInvalidNumber_init = some ⟨ocInvalidNumber_init, odInvalidNumber_init, .func (PySem.W.fnOf "__init__" "InvalidNumber.__init__" (defArgs s_InvalidNumber_init) (defBody s_InvalidNumber_init) (defScope s_InvalidNumber_init) .none kVInvalidNumber_init dcInvalidNumber_init pmInvalidNumber_init anInvalidNumber_init cdInvalidNumber_init ctInvalidNumber_init), slInvalidNumber_init⟩)
    (o_InvalidNumber_init : PySem.W.codeIn K cdInvalidNumber_init "InvalidNumber.__init__" = true)
    (k_InvalidNumber_init : PySem.W.keepIn K (.ref AInvalidNumber_init) = true)
    (a_InvalidRows_init : PySem.W.findIn K (.ref CInvalidRows) "__init__" = some (some (.ref AInvalidRows_init)))
    (i_InvalidRows_init : PySem.W.isFn K (.ref AInvalidRows_init) = true)
    (l_InvalidRows_init : K.lookup AInvalidRows_init = some ⟨ocInvalidRows_init, odInvalidRows_init, .func (PySem.W.fnOf "__init__" "InvalidRows.__init__" (defArgs s_InvalidRows_init) (defBody s_InvalidRows_init) (defScope s_InvalidRows_init) .none kVInvalidRows_init dcInvalidRows_init pmInvalidRows_init anInvalidRows_init cdInvalidRows_init ctInvalidRows_init), slInvalidRows_init⟩)
    (o_InvalidRows_init : PySem.W.codeIn K cdInvalidRows_init "InvalidRows.__init__" = true)
    (k_InvalidRows_init : PySem.W.keepIn K (.ref AInvalidRows_init) = true)
    (a_InvalidValues_init : PySem.W.findIn K (.ref CInvalidValues) "__init__" = some (some (.ref AInvalidValues_init)))
    (i_InvalidValues_init : PySem.W.isFn K (.ref AInvalidValues_init) = true)
    (l_InvalidValues_init : K.lookup AInvalidValues_init = some ⟨ocInvalidValues_init, odInvalidValues_init, .func (PySem.W.fnOf "__init__" "InvalidValues.__init__" (defArgs s_InvalidValues_init) (defBody s_InvalidValues_init) (defScope s_InvalidValues_init) .none kVInvalidValues_init dcInvalidValues_init pmInvalidValues_init anInvalidValues_init cdInvalidValues_init ctInvalidValues_init), slInvalidValues_init⟩)
    (o_InvalidValues_init : PySem.W.codeIn K cdInvalidValues_init "InvalidValues.__init__" = true)
    (k_InvalidValues_init : PySem.W.keepIn K (.ref AInvalidValues_init) = true)
    (a_TooMany_init : PySem.W.findIn K (.ref CTooMany) "__init__" = some (some (.ref ATooMany_init)))
    (i_TooMany_init : PySem.W.isFn K (.ref ATooMany_init) = true)
    (l_TooMany_init : K.lookup ATooMany_init = some ⟨ocTooMany_init, odTooMany_init, .func (PySem.W.fnOf "__init__" "TooMany.__init__" (defArgs s_TooMany_init) (defBody s_TooMany_init) (defScope s_TooMany_init) .none kVTooMany_init dcTooMany_init pmTooMany_init anTooMany_init cdTooMany_init ctTooMany_init), slTooMany_init⟩)
    (o_TooMany_init : PySem.W.codeIn K cdTooMany_init "TooMany.__init__" = true)
    (k_TooMany_init : PySem.W.keepIn K (.ref ATooMany_init) = true)
    (aC_InvalidFirst : PySem.W.nsIn K mainGlobals "InvalidFirst" = some (some (.ref CInvalidFirst)))
    (aC_InvalidNumber : PySem.W.nsIn K mainGlobals "InvalidNumber" = some (some (.ref CInvalidNumber)))
    (aC_InvalidRows : PySem.W.nsIn K mainGlobals "InvalidRows" = some (some (.ref CInvalidRows)))
    (aC_InvalidValues : PySem.W.nsIn K mainGlobals "InvalidValues" = some (some (.ref CInvalidValues)))
    (aC_LeagueError : PySem.W.nsIn K mainGlobals "LeagueError" = some (some (.ref CLeagueError)))
    (aC_LimitError : PySem.W.nsIn K mainGlobals "LimitError" = some (some (.ref CLimitError)))
    (aC_TooMany : PySem.W.nsIn K mainGlobals "TooMany" = some (some (.ref CTooMany)))
    (xo_InvalidFirst : K.lookup CInvalidFirst = some (excClassObj xnInvalidFirst xqInvalidFirst CInvalidFirst xNInvalidFirst xbInvalidFirst xmInvalidFirst true xsInvalidFirst xuInvalidFirst xaInvalidFirst xlInvalidFirst xdInvalidFirst x0InvalidFirst x1InvalidFirst x2InvalidFirst x3InvalidFirst x5InvalidFirst "ValueError.__new__"))
    (xr_InvalidFirst : PySem.HandSPX.refsVE xmInvalidFirst = true)
    (xs_InvalidFirst : PySem.W.findIn K (.ref CInvalidFirst) "__setattr__" = some (some (.builtin "object.__setattr__")))
    (xe_InvalidFirst : PySem.W.subIn K (.ref CInvalidFirst) (.type "BaseException") = some true)
    (xt_InvalidFirst : PySem.W.typeIn K (.ref CInvalidFirst) = some (.type "type"))
    (xp_InvalidFirst : PySem.W.keepIn K (.ref CInvalidFirst) = true)
    (no_InvalidFirst_value : PySem.W.findIn K (.ref CInvalidFirst) "value" = some none)
    (xo_InvalidNumber : K.lookup CInvalidNumber = some (excClassObj xnInvalidNumber xqInvalidNumber CInvalidNumber xNInvalidNumber xbInvalidNumber xmInvalidNumber true xsInvalidNumber xuInvalidNumber xaInvalidNumber xlInvalidNumber xdInvalidNumber x0InvalidNumber x1InvalidNumber x2InvalidNumber x3InvalidNumber x5InvalidNumber "ValueError.__new__"))
    (xr_InvalidNumber : PySem.HandSPX.refsVE xmInvalidNumber = true)
    (xs_InvalidNumber : PySem.W.findIn K (.ref CInvalidNumber) "__setattr__" = some (some (.builtin "object.__setattr__")))
    (xe_InvalidNumber : PySem.W.subIn K (.ref CInvalidNumber) (.type "BaseException") = some true)
    (xt_InvalidNumber : PySem.W.typeIn K (.ref CInvalidNumber) = some (.type "type"))
    (xp_InvalidNumber : PySem.W.keepIn K (.ref CInvalidNumber) = true)
    (no_InvalidNumber_value : PySem.W.findIn K (.ref CInvalidNumber) "value" = some none)
    (xo_InvalidRows : K.lookup CInvalidRows = some (excClassObj xnInvalidRows xqInvalidRows CInvalidRows xNInvalidRows xbInvalidRows xmInvalidRows true xsInvalidRows xuInvalidRows xaInvalidRows xlInvalidRows xdInvalidRows x0InvalidRows x1InvalidRows x2InvalidRows x3InvalidRows x5InvalidRows "ValueError.__new__"))
    (xr_InvalidRows : PySem.HandSPX.refsVE xmInvalidRows = true)
    (xs_InvalidRows : PySem.W.findIn K (.ref CInvalidRows) "__setattr__" = some (some (.builtin "object.__setattr__")))
    (xe_InvalidRows : PySem.W.subIn K (.ref CInvalidRows) (.type "BaseException") = some true)
    (xt_InvalidRows : PySem.W.typeIn K (.ref CInvalidRows) = some (.type "type"))
    (xp_InvalidRows : PySem.W.keepIn K (.ref CInvalidRows) = true)
    (no_InvalidRows_position : PySem.W.findIn K (.ref CInvalidRows) "position" = some none)
    (xo_InvalidValues : K.lookup CInvalidValues = some (excClassObj xnInvalidValues xqInvalidValues CInvalidValues xNInvalidValues xbInvalidValues xmInvalidValues true xsInvalidValues xuInvalidValues xaInvalidValues xlInvalidValues xdInvalidValues x0InvalidValues x1InvalidValues x2InvalidValues x3InvalidValues x5InvalidValues "ValueError.__new__"))
    (xr_InvalidValues : PySem.HandSPX.refsVE xmInvalidValues = true)
    (xs_InvalidValues : PySem.W.findIn K (.ref CInvalidValues) "__setattr__" = some (some (.builtin "object.__setattr__")))
    (xe_InvalidValues : PySem.W.subIn K (.ref CInvalidValues) (.type "BaseException") = some true)
    (xt_InvalidValues : PySem.W.typeIn K (.ref CInvalidValues) = some (.type "type"))
    (xp_InvalidValues : PySem.W.keepIn K (.ref CInvalidValues) = true)
    (no_InvalidValues_position : PySem.W.findIn K (.ref CInvalidValues) "position" = some none)
    (xg1_TooMany : PySem.W.excInitIn K CTooMany [.type "ArithmeticError", .type "Exception", .type "BaseException", .type "object"] "ArithmeticError.__new__" = true)
    (xg2_TooMany : PySem.W.excOver K CTooMany [.type "ArithmeticError", .type "Exception", .type "BaseException", .type "object"] = true)
    (xg3_TooMany : (PySem.W.clsIn K CTooMany).any (fun cd => cd.hasDict) = true)
    (xs_TooMany : PySem.W.findIn K (.ref CTooMany) "__setattr__" = some (some (.builtin "object.__setattr__")))
    (xe_TooMany : PySem.W.subIn K (.ref CTooMany) (.type "BaseException") = some true)
    (xt_TooMany : PySem.W.typeIn K (.ref CTooMany) = some (.type "type"))
    (xp_TooMany : PySem.W.keepIn K (.ref CTooMany) = true)
    (no_TooMany_what : PySem.W.findIn K (.ref CTooMany) "what" = some none)
    (no_TooMany_limit : PySem.W.findIn K (.ref CTooMany) "limit" = some none)
    (xga_InvalidFirst : PySem.W.findIn K (.ref CInvalidFirst) "__getattribute__" = some (some (.builtin "BaseException.__getattribute__")))
    (xgg_InvalidFirst : PySem.W.findIn K (.ref CInvalidFirst) "__getattr__" = some none)
    (xhd_InvalidFirst : PySem.W.hasDictIn K CInvalidFirst = true)
    (xca_InvalidFirst : PySem.W.findIn K (.ref CInvalidFirst) "__class__" = some (some (.builtin "object.__class__")))
    (xcn_InvalidFirst : PySem.W.specialIn K (.builtin "object.__class__") "__get__" = some (some (.builtin "getset_descriptor.__get__")))
    (xct_InvalidFirst : PySem.W.takesIn K (.builtin "object.__class__") = some true)
    (xcm_InvalidFirst : PySem.W.mroIn K CInvalidFirst (.type "object") = some true)
    (xga_InvalidNumber : PySem.W.findIn K (.ref CInvalidNumber) "__getattribute__" = some (some (.builtin "BaseException.__getattribute__")))
    (xgg_InvalidNumber : PySem.W.findIn K (.ref CInvalidNumber) "__getattr__" = some none)
    (xhd_InvalidNumber : PySem.W.hasDictIn K CInvalidNumber = true)
    (xca_InvalidNumber : PySem.W.findIn K (.ref CInvalidNumber) "__class__" = some (some (.builtin "object.__class__")))
    (xcn_InvalidNumber : PySem.W.specialIn K (.builtin "object.__class__") "__get__" = some (some (.builtin "getset_descriptor.__get__")))
    (xct_InvalidNumber : PySem.W.takesIn K (.builtin "object.__class__") = some true)
    (xcm_InvalidNumber : PySem.W.mroIn K CInvalidNumber (.type "object") = some true)
    (xga_InvalidRows : PySem.W.findIn K (.ref CInvalidRows) "__getattribute__" = some (some (.builtin "BaseException.__getattribute__")))
    (xgg_InvalidRows : PySem.W.findIn K (.ref CInvalidRows) "__getattr__" = some none)
    (xhd_InvalidRows : PySem.W.hasDictIn K CInvalidRows = true)
    (xca_InvalidRows : PySem.W.findIn K (.ref CInvalidRows) "__class__" = some (some (.builtin "object.__class__")))
    (xcn_InvalidRows : PySem.W.specialIn K (.builtin "object.__class__") "__get__" = some (some (.builtin "getset_descriptor.__get__")))
    (xct_InvalidRows : PySem.W.takesIn K (.builtin "object.__class__") = some true)
    (xcm_InvalidRows : PySem.W.mroIn K CInvalidRows (.type "object") = some true)
    (xga_InvalidValues : PySem.W.findIn K (.ref CInvalidValues) "__getattribute__" = some (some (.builtin "BaseException.__getattribute__")))
    (xgg_InvalidValues : PySem.W.findIn K (.ref CInvalidValues) "__getattr__" = some none)
    (xhd_InvalidValues : PySem.W.hasDictIn K CInvalidValues = true)
    (xca_InvalidValues : PySem.W.findIn K (.ref CInvalidValues) "__class__" = some (some (.builtin "object.__class__")))
    (xcn_InvalidValues : PySem.W.specialIn K (.builtin "object.__class__") "__get__" = some (some (.builtin "getset_descriptor.__get__")))
    (xct_InvalidValues : PySem.W.takesIn K (.builtin "object.__class__") = some true)
    (xcm_InvalidValues : PySem.W.mroIn K CInvalidValues (.type "object") = some true)
    (xga_TooMany : PySem.W.findIn K (.ref CTooMany) "__getattribute__" = some (some (.builtin "BaseException.__getattribute__")))
    (xgg_TooMany : PySem.W.findIn K (.ref CTooMany) "__getattr__" = some none)
    (xhd_TooMany : PySem.W.hasDictIn K CTooMany = true)
    (xca_TooMany : PySem.W.findIn K (.ref CTooMany) "__class__" = some (some (.builtin "object.__class__")))
    (xcn_TooMany : PySem.W.specialIn K (.builtin "object.__class__") "__get__" = some (some (.builtin "getset_descriptor.__get__")))
    (xct_TooMany : PySem.W.takesIn K (.builtin "object.__class__") = some true)
    (xcm_TooMany : PySem.W.mroIn K CTooMany (.type "object") = some true)
    (xm_InvalidFirst_InvalidFirst : PySem.W.exmOne K (.ref CInvalidFirst) (.ref CInvalidFirst) = some true)
    (xm_InvalidNumber_InvalidFirst : PySem.W.exmOne K (.ref CInvalidNumber) (.ref CInvalidFirst) = some false)
    (xm_InvalidNumber_InvalidNumber : PySem.W.exmOne K (.ref CInvalidNumber) (.ref CInvalidNumber) = some true)
    (xm_InvalidNumber_InvalidRows : PySem.W.exmOne K (.ref CInvalidNumber) (.ref CInvalidRows) = some false)
    (xm_InvalidNumber_InvalidValues : PySem.W.exmOne K (.ref CInvalidNumber) (.ref CInvalidValues) = some false)
    (xm_InvalidRows_InvalidFirst : PySem.W.exmOne K (.ref CInvalidRows) (.ref CInvalidFirst) = some false)
    (xm_InvalidRows_InvalidRows : PySem.W.exmOne K (.ref CInvalidRows) (.ref CInvalidRows) = some true)
    (xm_InvalidRows_InvalidValues : PySem.W.exmOne K (.ref CInvalidRows) (.ref CInvalidValues) = some false)
    (xm_InvalidValues_InvalidFirst : PySem.W.exmOne K (.ref CInvalidValues) (.ref CInvalidFirst) = some false)
    (xm_InvalidValues_InvalidValues : PySem.W.exmOne K (.ref CInvalidValues) (.ref CInvalidValues) = some true)
    (xm_TooMany_InvalidFirst : PySem.W.exmOne K (.ref CTooMany) (.ref CInvalidFirst) = some false)
    (xm_TooMany_InvalidNumber : PySem.W.exmOne K (.ref CTooMany) (.ref CInvalidNumber) = some false)
    (xm_TooMany_InvalidRows : PySem.W.exmOne K (.ref CTooMany) (.ref CInvalidRows) = some false)
    (xm_TooMany_InvalidValues : PySem.W.exmOne K (.ref CTooMany) (.ref CInvalidValues) = some false)
    (xm_TooMany_TooMany : PySem.W.exmOne K (.ref CTooMany) (.ref CTooMany) = some true)
    (xk_InvalidFirst_LeagueError : PySem.W.kitOne K (.ref CInvalidFirst) (.ref CLeagueError) = some true)
    (xk_InvalidFirst_ValueError : PySem.W.kitOne K (.ref CInvalidFirst) (.type "ValueError") = some true)
    (xk_InvalidNumber_LeagueError : PySem.W.kitOne K (.ref CInvalidNumber) (.ref CLeagueError) = some true)
    (xk_InvalidNumber_ValueError : PySem.W.kitOne K (.ref CInvalidNumber) (.type "ValueError") = some true)
    (xk_InvalidRows_LeagueError : PySem.W.kitOne K (.ref CInvalidRows) (.ref CLeagueError) = some true)
    (xk_InvalidRows_ValueError : PySem.W.kitOne K (.ref CInvalidRows) (.type "ValueError") = some true)
    (xk_InvalidValues_LeagueError : PySem.W.kitOne K (.ref CInvalidValues) (.ref CLeagueError) = some true)
    (xk_InvalidValues_ValueError : PySem.W.kitOne K (.ref CInvalidValues) (.type "ValueError") = some true)
    (xk_TooMany_ArithmeticError : PySem.W.kitOne K (.ref CTooMany) (.type "ArithmeticError") = some true)
    (xk_TooMany_LimitError : PySem.W.kitOne K (.ref CTooMany) (.ref CLimitError) = some true)
    (kc_is_form_right : K.lookup Kis_form_right = some ⟨kocis_form_right, kodis_form_right, .fields kwsis_form_right, kslis_form_right⟩)
    (kw_is_form_right : kwsis_form_right[11]? = some (.ref TTis_form_right))
    (kt_is_form_right : K.lookup TTis_form_right = none)
    (kc_is_level_right : K.lookup Kis_level_right = some ⟨kocis_level_right, kodis_level_right, .fields kwsis_level_right, kslis_level_right⟩)
    (kw_is_level_right : kwsis_level_right[11]? = some (.ref TTis_level_right))
    (kt_is_level_right : K.lookup TTis_level_right = none)
    (lo_tb : ([TTis_form_right, TTis_level_right] : List Addr).Nodup)
    (aC_Form : PySem.W.nsIn K mainGlobals "Form" = some (some (.ref CForm)))
    (pg_Form : PySem.W.plainGet K CForm Str.empty = true)
    (hd_Form : PySem.W.hasDictIn K CForm = true)
    (po_Form : PySem.W.plainOver K CForm = true)
    (sa_Form : PySem.W.findIn K (.ref CForm) "__setattr__" = some (some (.builtin "object.__setattr__")))
    (mk_Form : PySem.W.makesIn K CForm = true)
    (kc_Form : PySem.W.keepIn K (.ref CForm) = true)
    (na_Form__first : PySem.W.findIn K (.ref CForm) "_first" = some none)
    (na_Form__early : PySem.W.findIn K (.ref CForm) "_early" = some none)
    (na_Form__rows : PySem.W.findIn K (.ref CForm) "_rows" = some none)
    (aC_Reckoned : PySem.W.nsIn K mainGlobals "Reckoned" = some (some (.ref CReckoned)))
    (pg_Reckoned : PySem.W.plainGet K CReckoned Str.empty = true)
    (hd_Reckoned : PySem.W.hasDictIn K CReckoned = true)
    (po_Reckoned : PySem.W.plainOver K CReckoned = true)
    (sa_Reckoned : PySem.W.findIn K (.ref CReckoned) "__setattr__" = some (some (.builtin "object.__setattr__")))
    (mk_Reckoned : PySem.W.makesIn K CReckoned = true)
    (kc_Reckoned : PySem.W.keepIn K (.ref CReckoned) = true)
    (na_Reckoned_parts : PySem.W.findIn K (.ref CReckoned) "parts" = some none)
    (in1_Reckoned : PySem.W.isClsIn K CReckoned = true)
    (in2_Reckoned : PySem.W.typeIn K (.ref CReckoned) = some (.type "type"))
    (z_ArithmeticError : PySem.W.nsIn K mainGlobals "ArithmeticError" = some none)
    (z_ValueError : PySem.W.nsIn K mainGlobals "ValueError" = some none)
    (z_abs : PySem.W.nsIn K mainGlobals "abs" = some none)
    (z_all : PySem.W.nsIn K mainGlobals "all" = some none)
    (z_any : PySem.W.nsIn K mainGlobals "any" = some none)
    (z_bool : PySem.W.nsIn K mainGlobals "bool" = some none)
    (z_dict : PySem.W.nsIn K mainGlobals "dict" = some none)
    (z_divmod : PySem.W.nsIn K mainGlobals "divmod" = some none)
    (z_enumerate : PySem.W.nsIn K mainGlobals "enumerate" = some none)
    (z_int : PySem.W.nsIn K mainGlobals "int" = some none)
    (z_isinstance : PySem.W.nsIn K mainGlobals "isinstance" = some none)
    (z_len : PySem.W.nsIn K mainGlobals "len" = some none)
    (z_list : PySem.W.nsIn K mainGlobals "list" = some none)
    (z_max : PySem.W.nsIn K mainGlobals "max" = some none)
    (z_min : PySem.W.nsIn K mainGlobals "min" = some none)
    (z_range : PySem.W.nsIn K mainGlobals "range" = some none)
    (z_repr : PySem.W.nsIn K mainGlobals "repr" = some none)
    (z_set : PySem.W.nsIn K mainGlobals "set" = some none)
    (z_sorted : PySem.W.nsIn K mainGlobals "sorted" = some none)
    (z_sum : PySem.W.nsIn K mainGlobals "sum" = some none)
    (z_tuple : PySem.W.nsIn K mainGlobals "tuple" = some none)
    (z_zip : PySem.W.nsIn K mainGlobals "zip" = some none)
    (c_MOST_ROWS : PySem.W.nsIn K mainGlobals "MOST_ROWS" = some (some (.int 24 tMOST_ROWS)))
    (c_MOST_VALUES : PySem.W.nsIn K mainGlobals "MOST_VALUES" = some (some (.int 200 tMOST_VALUES))) :
    ∃ (fd : FuncData) (cs : List (Addr × Addr)) (sp : Sp), (∀ (s : Shared) (u : Value), BindsTo s fd ⟨[u], []⟩ [("_law_script", u)]) ∧
      (∀ p ∈ cs, K.lookup p.2 = none ∧ ∃ y ∈ (["_law_is_form_right", "_law_is_level_right"] : List Str), ∃ (f : Addr) (o : Obj) (gd : FuncData) (oc : Value) (od : Option Addr) (ws : Array Value) (sl : Array (Option Value)), mg y = some (.ref f) ∧ K.lookup f = some o ∧ o.data = .func gd ∧ gd.code = .ref p.1 ∧
        K.lookup p.1 = some ⟨oc, od, .fields ws, sl⟩ ∧ ws[11]? = some (.ref p.2)) ∧
      (∀ (H : Hp) (a : Addr) (ns : List Int), ns.length ≤ 63 → (∀ p ∈ cs, H p.2 = some (.tbl #[])) → SqL K H a (ns.map V.int) → sp [.ref a] H (fun v _ => v = .bl true) E0) ∧
      ∀ base : Heap, K.In base → base.Ns mainGlobals mg → (∀ p ∈ cs, LamX.TabB base mg p.1 p.2) → FnG l.prog w K mg base 16 fa fd ["_law_script"] sp := by
  have e := hfa.symm.trans (PySem.W.mg_of X G a_law)
  cases e
  refine ⟨(PySem.W.fnOf "law" "law" (defArgs s_law) (defBody s_law) (defScope s_law) .none kVlaw dclaw pmlaw anlaw cdlaw ctlaw), [(Kis_form_right, TTis_form_right), (Kis_level_right, TTis_level_right)], sp_law ⟨Adraw, (PySem.W.fnOf "_law_draw" "_law_draw" (defArgs s_draw) (defBody s_draw) (defScope s_draw) .none kVdraw dcdraw pmdraw andraw cddraw ctdraw), Apick, (PySem.W.fnOf "_law_pick" "_law_pick" (defArgs s_pick) (defBody s_pick) (defScope s_pick) .none kVpick dcpick pmpick anpick cdpick ctpick), Ano_integer, (PySem.W.fnOf "_law_no_integer" "_law_no_integer" (defArgs s_no_integer) (defBody s_no_integer) (defScope s_no_integer) .none kVno_integer dcno_integer pmno_integer anno_integer cdno_integer ctno_integer), Ano_count, (PySem.W.fnOf "_law_no_count" "_law_no_count" (defArgs s_no_count) (defBody s_no_count) (defScope s_no_count) .none kVno_count dcno_count pmno_count anno_count cdno_count ctno_count), Afirst, (PySem.W.fnOf "_law_first" "_law_first" (defArgs s_first) (defBody s_first) (defScope s_first) .none kVfirst dcfirst pmfirst anfirst cdfirst ctfirst), Aspoilt, (PySem.W.fnOf "_law_spoilt" "_law_spoilt" (defArgs s_spoilt) (defBody s_spoilt) (defScope s_spoilt) .none kVspoilt dcspoilt pmspoilt anspoilt cdspoilt ctspoilt), Aearly, (PySem.W.fnOf "_law_early" "_law_early" (defArgs s_early) (defBody s_early) (defScope s_early) .none kVearly dcearly pmearly anearly cdearly ctearly), Ano_row, (PySem.W.fnOf "_law_no_row" "_law_no_row" (defArgs s_no_row) (defBody s_no_row) (defScope s_no_row) .none kVno_row dcno_row pmno_row anno_row cdno_row ctno_row), Arows, (PySem.W.fnOf "_law_rows" "_law_rows" (defArgs s_rows) (defBody s_rows) (defScope s_rows) .none kVrows dcrows pmrows anrows cdrows ctrows), Ais_integer, (PySem.W.fnOf "is_integer" "is_integer" (defArgs s_is_integer) (defBody s_is_integer) (defScope s_is_integer) .none kVis_integer dcis_integer pmis_integer anis_integer cdis_integer ctis_integer), Ais_count, (PySem.W.fnOf "is_count" "is_count" (defArgs s_is_count) (defBody s_is_count) (defScope s_is_count) .none kVis_count dcis_count pmis_count anis_count cdis_count ctis_count), Acheck_first, (PySem.W.fnOf "_check_first" "_check_first" (defArgs s_check_first) (defBody s_check_first) (defScope s_check_first) .none kVcheck_first dccheck_first pmcheck_first ancheck_first cdcheck_first ctcheck_first), Ais_list, (PySem.W.fnOf "is_list" "is_list" (defArgs s_is_list) (defBody s_is_list) (defScope s_is_list) .none kVis_list dcis_list pmis_list anis_list cdis_list ctis_list), Acheck_values, (PySem.W.fnOf "_check_values" "_check_values" (defArgs s_check_values) (defBody s_check_values) (defScope s_check_values) .none kVcheck_values dccheck_values pmcheck_values ancheck_values cdcheck_values ctcheck_values), Ais_row, (PySem.W.fnOf "_is_row" "_is_row" (defArgs s_is_row) (defBody s_is_row) (defScope s_is_row) .none kVis_row dcis_row pmis_row anis_row cdis_row ctis_row), Acheck_rows, (PySem.W.fnOf "_check_rows" "_check_rows" (defArgs s_check_rows) (defBody s_check_rows) (defScope s_check_rows) .none kVcheck_rows dccheck_rows pmcheck_rows ancheck_rows cdcheck_rows ctcheck_rows), Acheck_parts, (PySem.W.fnOf "_check_parts" "_check_parts" (defArgs s_check_parts) (defBody s_check_parts) (defScope s_check_parts) .none kVcheck_parts dccheck_parts pmcheck_parts ancheck_parts cdcheck_parts ctcheck_parts), AForm_init, (PySem.W.fnOf "__init__" "Form.__init__" (defArgs s_Form_init) (defBody s_Form_init) (defScope s_Form_init) .none kVForm_init dcForm_init pmForm_init anForm_init cdForm_init ctForm_init), Ais_value, (PySem.W.fnOf "_law_is_value" "_law_is_value" (defArgs s_is_value) (defBody s_is_value) (defScope s_is_value) .none kVis_value dcis_value pmis_value anis_value cdis_value ctis_value), Aheard, (PySem.W.fnOf "_law_heard" "_law_heard" (defArgs s_heard) (defBody s_heard) (defScope s_heard) .none kVheard dcheard pmheard anheard cdheard ctheard), Ais_due, (PySem.W.fnOf "_law_is_due" "_law_is_due" (defArgs s_is_due) (defBody s_is_due) (defScope s_is_due) .none kVis_due dcis_due pmis_due anis_due cdis_due ctis_due), Ais_form_right, (PySem.W.fnOf "_law_is_form_right" "_law_is_form_right" (defArgs s_is_form_right) (defBody s_is_form_right) (defScope s_is_form_right) .none kVis_form_right dcis_form_right pmis_form_right anis_form_right (.ref Kis_form_right) ctis_form_right), Achecked, (PySem.W.fnOf "_checked" "_checked" (defArgs s_checked) (defBody s_checked) (defScope s_checked) .none kVchecked dcchecked pmchecked anchecked cdchecked ctchecked), AForm_level, (PySem.W.fnOf "level" "Form.level" (defArgs s_Form_level) (defBody s_Form_level) (defScope s_Form_level) .none kVForm_level dcForm_level pmForm_level anForm_level cdForm_level ctForm_level), Ais_level_right, (PySem.W.fnOf "_law_is_level_right" "_law_is_level_right" (defArgs s_is_level_right) (defBody s_is_level_right) (defScope s_is_level_right) .none kVis_level_right dcis_level_right pmis_level_right anis_level_right (.ref Kis_level_right) ctis_level_right), Aright, (PySem.W.fnOf "_law_right" "_law_right" (defArgs s_right) (defBody s_right) (defScope s_right) .none kVright dcright pmright anright cdright ctright), Apot, (PySem.W.fnOf "_law_pot" "_law_pot" (defArgs s_pot) (defBody s_pot) (defScope s_pot) .none kVpot dcpot pmpot anpot cdpot ctpot), fa, (PySem.W.fnOf "law" "law" (defArgs s_law) (defBody s_law) (defScope s_law) .none kVlaw dclaw pmlaw anlaw cdlaw ctlaw), AReckoned_init, (PySem.W.fnOf "__init__" "Reckoned.__init__" (defArgs s_Reckoned_init) (defBody s_Reckoned_init) (defScope s_Reckoned_init) .none kVReckoned_init dcReckoned_init pmReckoned_init anReckoned_init cdReckoned_init ctReckoned_init), AInvalidFirst_init, (PySem.W.fnOf "__init__" "InvalidFirst.__init__" (defArgs s_InvalidFirst_init) (defBody s_InvalidFirst_init) (defScope s_InvalidFirst_init) .none kVInvalidFirst_init dcInvalidFirst_init pmInvalidFirst_init anInvalidFirst_init cdInvalidFirst_init ctInvalidFirst_init), AInvalidNumber_init, (PySem.W.fnOf "__init__" "InvalidNumber.__init__" (defArgs s_InvalidNumber_init) (defBody s_InvalidNumber_init) (defScope s_InvalidNumber_init) .none kVInvalidNumber_init dcInvalidNumber_init pmInvalidNumber_init anInvalidNumber_init cdInvalidNumber_init ctInvalidNumber_init), AInvalidRows_init, (PySem.W.fnOf "__init__" "InvalidRows.__init__" (defArgs s_InvalidRows_init) (defBody s_InvalidRows_init) (defScope s_InvalidRows_init) .none kVInvalidRows_init dcInvalidRows_init pmInvalidRows_init anInvalidRows_init cdInvalidRows_init ctInvalidRows_init), AInvalidValues_init, (PySem.W.fnOf "__init__" "InvalidValues.__init__" (defArgs s_InvalidValues_init) (defBody s_InvalidValues_init) (defScope s_InvalidValues_init) .none kVInvalidValues_init dcInvalidValues_init pmInvalidValues_init anInvalidValues_init cdInvalidValues_init ctInvalidValues_init), ATooMany_init, (PySem.W.fnOf "__init__" "TooMany.__init__" (defArgs s_TooMany_init) (defBody s_TooMany_init) (defScope s_TooMany_init) .none kVTooMany_init dcTooMany_init pmTooMany_init anTooMany_init cdTooMany_init ctTooMany_init), CForm, CReckoned, CInvalidFirst, CInvalidNumber, CInvalidRows, CInvalidValues, CLeagueError, CLimitError, CTooMany, Kis_form_right, TTis_form_right, Kis_level_right, TTis_level_right⟩ K, fun s v => .of_eq rfl, ?_, fun H a ns hl ht hS => law_enter hl (fun p hp => ?_) hS, fun base _ _ tab_ => ?_⟩
  · intro p hp
    simp only [List.mem_cons, List.not_mem_nil, or_false] at hp
    rcases hp with rfl | rfl
    · exact ⟨kt_is_form_right, _, by simp, _, _, _, _, _, _, _, PySem.W.mg_of X G a_is_form_right, l_is_form_right, rfl, rfl, kc_is_form_right, kw_is_form_right⟩
    · exact ⟨kt_is_level_right, _, by simp, _, _, _, _, _, _, _, PySem.W.mg_of X G a_is_level_right, l_is_level_right, rfl, rfl, kc_is_level_right, kw_is_level_right⟩
  · simp only [Ad.tbs, List.mem_cons, List.not_mem_nil, or_false] at hp
    rcases hp with rfl | rfl
    · exact ht (Kis_form_right, TTis_form_right) (by simp)
    · exact ht (Kis_level_right, TTis_level_right) (by simp)
  · have T : Txt w K mg base ⟨Adraw, (PySem.W.fnOf "_law_draw" "_law_draw" (defArgs s_draw) (defBody s_draw) (defScope s_draw) .none kVdraw dcdraw pmdraw andraw cddraw ctdraw), Apick, (PySem.W.fnOf "_law_pick" "_law_pick" (defArgs s_pick) (defBody s_pick) (defScope s_pick) .none kVpick dcpick pmpick anpick cdpick ctpick), Ano_integer, (PySem.W.fnOf "_law_no_integer" "_law_no_integer" (defArgs s_no_integer) (defBody s_no_integer) (defScope s_no_integer) .none kVno_integer dcno_integer pmno_integer anno_integer cdno_integer ctno_integer), Ano_count, (PySem.W.fnOf "_law_no_count" "_law_no_count" (defArgs s_no_count) (defBody s_no_count) (defScope s_no_count) .none kVno_count dcno_count pmno_count anno_count cdno_count ctno_count), Afirst, (PySem.W.fnOf "_law_first" "_law_first" (defArgs s_first) (defBody s_first) (defScope s_first) .none kVfirst dcfirst pmfirst anfirst cdfirst ctfirst), Aspoilt, (PySem.W.fnOf "_law_spoilt" "_law_spoilt" (defArgs s_spoilt) (defBody s_spoilt) (defScope s_spoilt) .none kVspoilt dcspoilt pmspoilt anspoilt cdspoilt ctspoilt), Aearly, (PySem.W.fnOf "_law_early" "_law_early" (defArgs s_early) (defBody s_early) (defScope s_early) .none kVearly dcearly pmearly anearly cdearly ctearly), Ano_row, (PySem.W.fnOf "_law_no_row" "_law_no_row" (defArgs s_no_row) (defBody s_no_row) (defScope s_no_row) .none kVno_row dcno_row pmno_row anno_row cdno_row ctno_row), Arows, (PySem.W.fnOf "_law_rows" "_law_rows" (defArgs s_rows) (defBody s_rows) (defScope s_rows) .none kVrows dcrows pmrows anrows cdrows ctrows), Ais_integer, (PySem.W.fnOf "is_integer" "is_integer" (defArgs s_is_integer) (defBody s_is_integer) (defScope s_is_integer) .none kVis_integer dcis_integer pmis_integer anis_integer cdis_integer ctis_integer), Ais_count, (PySem.W.fnOf "is_count" "is_count" (defArgs s_is_count) (defBody s_is_count) (defScope s_is_count) .none kVis_count dcis_count pmis_count anis_count cdis_count ctis_count), Acheck_first, (PySem.W.fnOf "_check_first" "_check_first" (defArgs s_check_first) (defBody s_check_first) (defScope s_check_first) .none kVcheck_first dccheck_first pmcheck_first ancheck_first cdcheck_first ctcheck_first), Ais_list, (PySem.W.fnOf "is_list" "is_list" (defArgs s_is_list) (defBody s_is_list) (defScope s_is_list) .none kVis_list dcis_list pmis_list anis_list cdis_list ctis_list), Acheck_values, (PySem.W.fnOf "_check_values" "_check_values" (defArgs s_check_values) (defBody s_check_values) (defScope s_check_values) .none kVcheck_values dccheck_values pmcheck_values ancheck_values cdcheck_values ctcheck_values), Ais_row, (PySem.W.fnOf "_is_row" "_is_row" (defArgs s_is_row) (defBody s_is_row) (defScope s_is_row) .none kVis_row dcis_row pmis_row anis_row cdis_row ctis_row), Acheck_rows, (PySem.W.fnOf "_check_rows" "_check_rows" (defArgs s_check_rows) (defBody s_check_rows) (defScope s_check_rows) .none kVcheck_rows dccheck_rows pmcheck_rows ancheck_rows cdcheck_rows ctcheck_rows), Acheck_parts, (PySem.W.fnOf "_check_parts" "_check_parts" (defArgs s_check_parts) (defBody s_check_parts) (defScope s_check_parts) .none kVcheck_parts dccheck_parts pmcheck_parts ancheck_parts cdcheck_parts ctcheck_parts), AForm_init, (PySem.W.fnOf "__init__" "Form.__init__" (defArgs s_Form_init) (defBody s_Form_init) (defScope s_Form_init) .none kVForm_init dcForm_init pmForm_init anForm_init cdForm_init ctForm_init), Ais_value, (PySem.W.fnOf "_law_is_value" "_law_is_value" (defArgs s_is_value) (defBody s_is_value) (defScope s_is_value) .none kVis_value dcis_value pmis_value anis_value cdis_value ctis_value), Aheard, (PySem.W.fnOf "_law_heard" "_law_heard" (defArgs s_heard) (defBody s_heard) (defScope s_heard) .none kVheard dcheard pmheard anheard cdheard ctheard), Ais_due, (PySem.W.fnOf "_law_is_due" "_law_is_due" (defArgs s_is_due) (defBody s_is_due) (defScope s_is_due) .none kVis_due dcis_due pmis_due anis_due cdis_due ctis_due), Ais_form_right, (PySem.W.fnOf "_law_is_form_right" "_law_is_form_right" (defArgs s_is_form_right) (defBody s_is_form_right) (defScope s_is_form_right) .none kVis_form_right dcis_form_right pmis_form_right anis_form_right (.ref Kis_form_right) ctis_form_right), Achecked, (PySem.W.fnOf "_checked" "_checked" (defArgs s_checked) (defBody s_checked) (defScope s_checked) .none kVchecked dcchecked pmchecked anchecked cdchecked ctchecked), AForm_level, (PySem.W.fnOf "level" "Form.level" (defArgs s_Form_level) (defBody s_Form_level) (defScope s_Form_level) .none kVForm_level dcForm_level pmForm_level anForm_level cdForm_level ctForm_level), Ais_level_right, (PySem.W.fnOf "_law_is_level_right" "_law_is_level_right" (defArgs s_is_level_right) (defBody s_is_level_right) (defScope s_is_level_right) .none kVis_level_right dcis_level_right pmis_level_right anis_level_right (.ref Kis_level_right) ctis_level_right), Aright, (PySem.W.fnOf "_law_right" "_law_right" (defArgs s_right) (defBody s_right) (defScope s_right) .none kVright dcright pmright anright cdright ctright), Apot, (PySem.W.fnOf "_law_pot" "_law_pot" (defArgs s_pot) (defBody s_pot) (defScope s_pot) .none kVpot dcpot pmpot anpot cdpot ctpot), fa, (PySem.W.fnOf "law" "law" (defArgs s_law) (defBody s_law) (defScope s_law) .none kVlaw dclaw pmlaw anlaw cdlaw ctlaw), AReckoned_init, (PySem.W.fnOf "__init__" "Reckoned.__init__" (defArgs s_Reckoned_init) (defBody s_Reckoned_init) (defScope s_Reckoned_init) .none kVReckoned_init dcReckoned_init pmReckoned_init anReckoned_init cdReckoned_init ctReckoned_init), AInvalidFirst_init, (PySem.W.fnOf "__init__" "InvalidFirst.__init__" (defArgs s_InvalidFirst_init) (defBody s_InvalidFirst_init) (defScope s_InvalidFirst_init) .none kVInvalidFirst_init dcInvalidFirst_init pmInvalidFirst_init anInvalidFirst_init cdInvalidFirst_init ctInvalidFirst_init), AInvalidNumber_init, (PySem.W.fnOf "__init__" "InvalidNumber.__init__" (defArgs s_InvalidNumber_init) (defBody s_InvalidNumber_init) (defScope s_InvalidNumber_init) .none kVInvalidNumber_init dcInvalidNumber_init pmInvalidNumber_init anInvalidNumber_init cdInvalidNumber_init ctInvalidNumber_init), AInvalidRows_init, (PySem.W.fnOf "__init__" "InvalidRows.__init__" (defArgs s_InvalidRows_init) (defBody s_InvalidRows_init) (defScope s_InvalidRows_init) .none kVInvalidRows_init dcInvalidRows_init pmInvalidRows_init anInvalidRows_init cdInvalidRows_init ctInvalidRows_init), AInvalidValues_init, (PySem.W.fnOf "__init__" "InvalidValues.__init__" (defArgs s_InvalidValues_init) (defBody s_InvalidValues_init) (defScope s_InvalidValues_init) .none kVInvalidValues_init dcInvalidValues_init pmInvalidValues_init anInvalidValues_init cdInvalidValues_init ctInvalidValues_init), ATooMany_init, (PySem.W.fnOf "__init__" "TooMany.__init__" (defArgs s_TooMany_init) (defBody s_TooMany_init) (defScope s_TooMany_init) .none kVTooMany_init dcTooMany_init pmTooMany_init anTooMany_init cdTooMany_init ctTooMany_init), CForm, CReckoned, CInvalidFirst, CInvalidNumber, CInvalidRows, CInvalidValues, CLeagueError, CLimitError, CTooMany, Kis_form_right, TTis_form_right, Kis_level_right, TTis_level_right⟩ := ⟨lo_tb, PySem.W.mg_of X G aC_InvalidFirst, PySem.W.mg_of X G aC_InvalidNumber, PySem.W.mg_of X G aC_InvalidRows, PySem.W.mg_of X G aC_InvalidValues, PySem.W.mg_of X G aC_LeagueError, PySem.W.mg_of X G aC_LimitError, PySem.W.mg_of X G aC_TooMany, ⟨⟨_, _, _, _, _, _, _, _, _, _, _, _, _, _, _, xo_InvalidFirst, xr_InvalidFirst⟩, xs_InvalidFirst, xe_InvalidFirst, xt_InvalidFirst, xp_InvalidFirst⟩, a_InvalidFirst_init, beq_iff_eq.mp i_InvalidFirst_init, no_InvalidFirst_value, ⟨⟨_, _, _, _, _, _, _, _, _, _, _, _, _, _, _, xo_InvalidNumber, xr_InvalidNumber⟩, xs_InvalidNumber, xe_InvalidNumber, xt_InvalidNumber, xp_InvalidNumber⟩, a_InvalidNumber_init, beq_iff_eq.mp i_InvalidNumber_init, no_InvalidNumber_value, ⟨⟨_, _, _, _, _, _, _, _, _, _, _, _, _, _, _, xo_InvalidRows, xr_InvalidRows⟩, xs_InvalidRows, xe_InvalidRows, xt_InvalidRows, xp_InvalidRows⟩, a_InvalidRows_init, beq_iff_eq.mp i_InvalidRows_init, no_InvalidRows_position, ⟨⟨_, _, _, _, _, _, _, _, _, _, _, _, _, _, _, xo_InvalidValues, xr_InvalidValues⟩, xs_InvalidValues, xe_InvalidValues, xt_InvalidValues, xp_InvalidValues⟩, a_InvalidValues_init, beq_iff_eq.mp i_InvalidValues_init, no_InvalidValues_position, oexG_of PySem.F.excBase_ArithmeticError PySem.F.store_ArithmeticError xg1_TooMany xg2_TooMany xg3_TooMany xs_TooMany xe_TooMany xt_TooMany xp_TooMany, a_TooMany_init, beq_iff_eq.mp i_TooMany_init, no_TooMany_what, no_TooMany_limit, ⟨xga_InvalidFirst, xgg_InvalidFirst, xe_InvalidFirst, xhd_InvalidFirst⟩, ⟨xga_InvalidFirst, xgg_InvalidFirst, xe_InvalidFirst, xhd_InvalidFirst, xca_InvalidFirst, xcn_InvalidFirst, xct_InvalidFirst, xcm_InvalidFirst⟩, ⟨xga_InvalidNumber, xgg_InvalidNumber, xe_InvalidNumber, xhd_InvalidNumber⟩, ⟨xga_InvalidNumber, xgg_InvalidNumber, xe_InvalidNumber, xhd_InvalidNumber, xca_InvalidNumber, xcn_InvalidNumber, xct_InvalidNumber, xcm_InvalidNumber⟩, ⟨xga_InvalidRows, xgg_InvalidRows, xe_InvalidRows, xhd_InvalidRows⟩, ⟨xga_InvalidRows, xgg_InvalidRows, xe_InvalidRows, xhd_InvalidRows, xca_InvalidRows, xcn_InvalidRows, xct_InvalidRows, xcm_InvalidRows⟩, ⟨xga_InvalidValues, xgg_InvalidValues, xe_InvalidValues, xhd_InvalidValues⟩, ⟨xga_InvalidValues, xgg_InvalidValues, xe_InvalidValues, xhd_InvalidValues, xca_InvalidValues, xcn_InvalidValues, xct_InvalidValues, xcm_InvalidValues⟩, ⟨xga_TooMany, xgg_TooMany, xe_TooMany, xhd_TooMany⟩, ⟨xga_TooMany, xgg_TooMany, xe_TooMany, xhd_TooMany, xca_TooMany, xcn_TooMany, xct_TooMany, xcm_TooMany⟩, xm_InvalidFirst_InvalidFirst, xm_InvalidNumber_InvalidFirst, xm_InvalidNumber_InvalidNumber, xm_InvalidNumber_InvalidRows, xm_InvalidNumber_InvalidValues, xm_InvalidRows_InvalidFirst, xm_InvalidRows_InvalidRows, xm_InvalidRows_InvalidValues, xm_InvalidValues_InvalidFirst, xm_InvalidValues_InvalidValues, xm_TooMany_InvalidFirst, xm_TooMany_InvalidNumber, xm_TooMany_InvalidRows, xm_TooMany_InvalidValues, xm_TooMany_TooMany, xk_InvalidFirst_LeagueError, xk_InvalidFirst_ValueError, xk_InvalidNumber_LeagueError, xk_InvalidNumber_ValueError, xk_InvalidRows_LeagueError, xk_InvalidRows_ValueError, xk_InvalidValues_LeagueError, xk_InvalidValues_ValueError, xk_TooMany_ArithmeticError, xk_TooMany_LimitError, tab_ (Kis_form_right, TTis_form_right) (by simp), rfl, tab_ (Kis_level_right, TTis_level_right) (by simp), rfl, fun_mk (st := s_draw) l_draw o_draw k_draw, (fun_mk (st := s_draw) l_draw o_draw k_draw).binds (ps := ["_law_pot_here", "_law_size"]) fun _ _ _ _ _ _ us hl => match us, hl with | [_, _], _ => rfl, PySem.W.mg_of X G a_draw, fun_mk (st := s_pick) l_pick o_pick k_pick, (fun_mk (st := s_pick) l_pick o_pick k_pick).binds (ps := ["_law_pot_here", "_law_some"]) fun _ _ _ _ _ _ us hl => match us, hl with | [_, _], _ => rfl, PySem.W.mg_of X G a_pick, fun_mk (st := s_no_integer) l_no_integer o_no_integer k_no_integer, (fun_mk (st := s_no_integer) l_no_integer o_no_integer k_no_integer).binds (ps := ["_law_pot_here"]) fun _ _ _ _ _ _ us hl => match us, hl with | [_], _ => rfl, PySem.W.mg_of X G a_no_integer, fun_mk (st := s_no_count) l_no_count o_no_count k_no_count, (fun_mk (st := s_no_count) l_no_count o_no_count k_no_count).binds (ps := ["_law_pot_here"]) fun _ _ _ _ _ _ us hl => match us, hl with | [_], _ => rfl, PySem.W.mg_of X G a_no_count, fun_mk (st := s_first) l_first o_first k_first, (fun_mk (st := s_first) l_first o_first k_first).binds (ps := ["_law_pot_here"]) fun _ _ _ _ _ _ us hl => match us, hl with | [_], _ => rfl, PySem.W.mg_of X G a_first, fun_mk (st := s_spoilt) l_spoilt o_spoilt k_spoilt, (fun_mk (st := s_spoilt) l_spoilt o_spoilt k_spoilt).binds (ps := ["_law_pot_here", "_law_right_here", "_law_wrong"]) fun _ _ _ _ _ _ us hl => match us, hl with | [_, _, _], _ => rfl, PySem.W.mg_of X G a_spoilt, fun_mk (st := s_early) l_early o_early k_early, (fun_mk (st := s_early) l_early o_early k_early).binds (ps := ["_law_pot_here"]) fun _ _ _ _ _ _ us hl => match us, hl with | [_], _ => rfl, PySem.W.mg_of X G a_early, fun_mk (st := s_no_row) l_no_row o_no_row k_no_row, (fun_mk (st := s_no_row) l_no_row o_no_row k_no_row).binds (ps := ["_law_pot_here"]) fun _ _ _ _ _ _ us hl => match us, hl with | [_], _ => rfl, PySem.W.mg_of X G a_no_row, fun_mk (st := s_rows) l_rows o_rows k_rows, (fun_mk (st := s_rows) l_rows o_rows k_rows).binds (ps := ["_law_pot_here"]) fun _ _ _ _ _ _ us hl => match us, hl with | [_], _ => rfl, PySem.W.mg_of X G a_rows, fun_mk (st := s_is_integer) l_is_integer o_is_integer k_is_integer, (fun_mk (st := s_is_integer) l_is_integer o_is_integer k_is_integer).binds (ps := ["value"]) fun _ _ _ _ _ _ us hl => match us, hl with | [_], _ => rfl, PySem.W.mg_of X G a_is_integer, fun_mk (st := s_is_count) l_is_count o_is_count k_is_count, (fun_mk (st := s_is_count) l_is_count o_is_count k_is_count).binds (ps := ["value"]) fun _ _ _ _ _ _ us hl => match us, hl with | [_], _ => rfl, PySem.W.mg_of X G a_is_count, fun_mk (st := s_check_first) l_check_first o_check_first k_check_first, (fun_mk (st := s_check_first) l_check_first o_check_first k_check_first).binds (ps := ["first"]) fun _ _ _ _ _ _ us hl => match us, hl with | [_], _ => rfl, PySem.W.mg_of X G a_check_first, fun_mk (st := s_is_list) l_is_list o_is_list k_is_list, (fun_mk (st := s_is_list) l_is_list o_is_list k_is_list).binds (ps := ["value"]) fun _ _ _ _ _ _ us hl => match us, hl with | [_], _ => rfl, PySem.W.mg_of X G a_is_list, fun_mk (st := s_check_values) l_check_values o_check_values k_check_values, (fun_mk (st := s_check_values) l_check_values o_check_values k_check_values).binds (ps := ["early"]) fun _ _ _ _ _ _ us hl => match us, hl with | [_], _ => rfl, PySem.W.mg_of X G a_check_values, fun_mk (st := s_is_row) l_is_row o_is_row k_is_row, (fun_mk (st := s_is_row) l_is_row o_is_row k_is_row).binds (ps := ["value"]) fun _ _ _ _ _ _ us hl => match us, hl with | [_], _ => rfl, PySem.W.mg_of X G a_is_row, fun_mk (st := s_check_rows) l_check_rows o_check_rows k_check_rows, (fun_mk (st := s_check_rows) l_check_rows o_check_rows k_check_rows).binds (ps := ["rows"]) fun _ _ _ _ _ _ us hl => match us, hl with | [_], _ => rfl, PySem.W.mg_of X G a_check_rows, fun_mk (st := s_check_parts) l_check_parts o_check_parts k_check_parts, (fun_mk (st := s_check_parts) l_check_parts o_check_parts k_check_parts).binds (ps := ["first", "early", "rows"]) fun _ _ _ _ _ _ us hl => match us, hl with | [_, _, _], _ => rfl, PySem.W.mg_of X G a_check_parts, fun_mk (st := s_Form_init) l_Form_init o_Form_init k_Form_init, (fun_mk (st := s_Form_init) l_Form_init o_Form_init k_Form_init).binds (ps := ["self", "first", "early", "rows"]) fun _ _ _ _ _ _ us hl => match us, hl with | [_, _, _, _], _ => rfl, fun_mk (st := s_is_value) l_is_value o_is_value k_is_value, (fun_mk (st := s_is_value) l_is_value o_is_value k_is_value).binds (ps := ["_law_e"]) fun _ _ _ _ _ _ us hl => match us, hl with | [_], _ => rfl, PySem.W.mg_of X G a_is_value, fun_mk (st := s_heard) l_heard o_heard k_heard, (fun_mk (st := s_heard) l_heard o_heard k_heard).binds (ps := ["_law_call"]) fun _ _ _ _ _ _ us hl => match us, hl with | [_], _ => rfl, PySem.W.mg_of X G a_heard, fun_mk (st := s_is_due) l_is_due o_is_due k_is_due, (fun_mk (st := s_is_due) l_is_due o_is_due k_is_due).binds (ps := ["_law_call", "_law_due"]) fun _ _ _ _ _ _ us hl => match us, hl with | [_, _], _ => rfl, PySem.W.mg_of X G a_is_due, fun_mk (st := s_is_form_right) l_is_form_right o_is_form_right k_is_form_right, (fun_mk (st := s_is_form_right) l_is_form_right o_is_form_right k_is_form_right).binds (ps := ["_law_pot_here"]) fun _ _ _ _ _ _ us hl => match us, hl with | [_], _ => rfl, PySem.W.mg_of X G a_is_form_right, fun_mk (st := s_checked) l_checked o_checked k_checked, (fun_mk (st := s_checked) l_checked o_checked k_checked).binds (ps := ["number"]) fun _ _ _ _ _ _ us hl => match us, hl with | [_], _ => rfl, PySem.W.mg_of X G a_checked, fun_mk (st := s_Form_level) l_Form_level o_Form_level k_Form_level, (fun_mk (st := s_Form_level) l_Form_level o_Form_level k_Form_level).binds (ps := ["first", "number"]) fun _ _ _ _ _ _ us hl => match us, hl with | [_, _], _ => rfl, ⟨_, ⟨sd_Form_level, sg_Form_level⟩, _, sf_Form_level, _, sr_Form_level⟩, fun_mk (st := s_is_level_right) l_is_level_right o_is_level_right k_is_level_right, (fun_mk (st := s_is_level_right) l_is_level_right o_is_level_right k_is_level_right).binds (ps := ["_law_pot_here"]) fun _ _ _ _ _ _ us hl => match us, hl with | [_], _ => rfl, PySem.W.mg_of X G a_is_level_right, fun_mk (st := s_right) l_right o_right k_right, (fun_mk (st := s_right) l_right o_right k_right).binds (ps := ["_law_pot_here"]) fun _ _ _ _ _ _ us hl => match us, hl with | [_], _ => rfl, PySem.W.mg_of X G a_right, fun_mk (st := s_pot) l_pot o_pot k_pot, (fun_mk (st := s_pot) l_pot o_pot k_pot).binds (ps := ["_law_script", "_law_k"]) fun _ _ _ _ _ _ us hl => match us, hl with | [_, _], _ => rfl, PySem.W.mg_of X G a_pot, fun_mk (st := s_law) l_law o_law k_law, (fun_mk (st := s_law) l_law o_law k_law).binds (ps := ["_law_script"]) fun _ _ _ _ _ _ us hl => match us, hl with | [_], _ => rfl, PySem.W.mg_of X G a_law, fun_mk (st := s_Reckoned_init) l_Reckoned_init o_Reckoned_init k_Reckoned_init, (fun_mk (st := s_Reckoned_init) l_Reckoned_init o_Reckoned_init k_Reckoned_init).binds (ps := ["self", "parts"]) fun _ _ _ _ _ _ us hl => match us, hl with | [_, _], _ => rfl, fun_mk (st := s_InvalidFirst_init) l_InvalidFirst_init o_InvalidFirst_init k_InvalidFirst_init, (fun_mk (st := s_InvalidFirst_init) l_InvalidFirst_init o_InvalidFirst_init k_InvalidFirst_init).binds (ps := ["self", "value"]) fun _ _ _ _ _ _ us hl => match us, hl with | [_, _], _ => rfl, fun_mk (st := s_InvalidNumber_init) l_InvalidNumber_init o_InvalidNumber_init k_InvalidNumber_init, (fun_mk (st := s_InvalidNumber_init) l_InvalidNumber_init o_InvalidNumber_init k_InvalidNumber_init).binds (ps := ["self", "value"]) fun _ _ _ _ _ _ us hl => match us, hl with | [_, _], _ => rfl, fun_mk (st := s_InvalidRows_init) l_InvalidRows_init o_InvalidRows_init k_InvalidRows_init, (fun_mk (st := s_InvalidRows_init) l_InvalidRows_init o_InvalidRows_init k_InvalidRows_init).binds (ps := ["self", "position"]) fun _ _ _ _ _ _ us hl => match us, hl with | [_, _], _ => rfl, fun_mk (st := s_InvalidValues_init) l_InvalidValues_init o_InvalidValues_init k_InvalidValues_init, (fun_mk (st := s_InvalidValues_init) l_InvalidValues_init o_InvalidValues_init k_InvalidValues_init).binds (ps := ["self", "position"]) fun _ _ _ _ _ _ us hl => match us, hl with | [_, _], _ => rfl, fun_mk (st := s_TooMany_init) l_TooMany_init o_TooMany_init k_TooMany_init, (fun_mk (st := s_TooMany_init) l_TooMany_init o_TooMany_init k_TooMany_init).binds (ps := ["self", "what", "limit"]) fun _ _ _ _ _ _ us hl => match us, hl with | [_, _, _], _ => rfl, ⟨pg_Form, hd_Form, po_Form, sa_Form⟩, PySem.W.mg_of X G aC_Form, ⟨mk_Form, a_Form_init, i_Form_init, kc_Form⟩, na_Form__first, na_Form__early, na_Form__rows, ⟨pg_Reckoned, hd_Reckoned, po_Reckoned, sa_Reckoned⟩, PySem.W.mg_of X G aC_Reckoned, ⟨mk_Reckoned, a_Reckoned_init, i_Reckoned_init, kc_Reckoned⟩, na_Reckoned_parts, ⟨in1_Reckoned, in2_Reckoned⟩, PySem.W.mg_none_of X G z_ArithmeticError, PySem.W.mg_none_of X G z_ValueError, PySem.W.mg_none_of X G z_abs, PySem.W.mg_none_of X G z_all, PySem.W.mg_none_of X G z_any, PySem.W.mg_none_of X G z_bool, PySem.W.mg_none_of X G z_dict, PySem.W.mg_none_of X G z_divmod, PySem.W.mg_none_of X G z_enumerate, PySem.W.mg_none_of X G z_int, PySem.W.mg_none_of X G z_isinstance, PySem.W.mg_none_of X G z_len, PySem.W.mg_none_of X G z_list, PySem.W.mg_none_of X G z_max, PySem.W.mg_none_of X G z_min, PySem.W.mg_none_of X G z_range, PySem.W.mg_none_of X G z_repr, PySem.W.mg_none_of X G z_set, PySem.W.mg_none_of X G z_sorted, PySem.W.mg_none_of X G z_sum, PySem.W.mg_none_of X G z_tuple, PySem.W.mg_none_of X G z_zip, ⟨_, PySem.W.mg_of X G c_MOST_ROWS, ⟨_, rfl⟩⟩, ⟨_, PySem.W.mg_of X G c_MOST_VALUES, ⟨_, rfl⟩⟩, ⟨fun s us ws _ h1 h2 => match us, ws, h1, h2 with | [_], [_, _, _], _, _ => .of_eq rfl, fun r1 r2 => r1.append (.cons (vals_getD r2 1) (.cons (vals_getD r2 2) (.cons (vals_getD r2 0) (.nil))))⟩, ⟨fun s us ws _ h1 h2 => match us, ws, h1, h2 with | [], [_, _], _, _ => .of_eq rfl, fun r1 r2 => r1.append (.cons (vals_getD r2 1) (.cons (vals_getD r2 0) (.nil)))⟩⟩
    exact ok_law T
def xa_PForm_level (K : PySem.W.Frag) : Addr := He.ma K (xa_CForm K) "level"
theorem ob_eq (s : PySem.W.SharedT) : ob s = hk.obs s.abs := obF_eq s
theorem facts {l : PySem.W.OpenLaw} {w : World} {mg : Str → Option Value} {fa : Addr} {h : Heap} (Y : hk.says w h) (G : h.Ns mainGlobals mg) (hfa : mg "law" = some (.ref fa)) :
    ∃ K : PySem.W.Frag, K.In h ∧ ∃ (fd : FuncData) (cs : List (Addr × Addr)) (sp : Sp), (∀ (s : Shared) (u : Value), BindsTo s fd ⟨[u], []⟩ [("_law_script", u)]) ∧
      (∀ p ∈ cs, K.lookup p.2 = none ∧ ∃ y ∈ (["_law_is_form_right", "_law_is_level_right"] : List Str), ∃ (f : Addr) (o : Obj) (gd : FuncData) (oc : Value) (od : Option Addr) (ws : Array Value) (sl : Array (Option Value)), mg y = some (.ref f) ∧ K.lookup f = some o ∧ o.data = .func gd ∧ gd.code = .ref p.1 ∧
        K.lookup p.1 = some ⟨oc, od, .fields ws, sl⟩ ∧ ws[11]? = some (.ref p.2)) ∧
      (∀ (H : Hp) (a : Addr) (ns : List Int), ns.length ≤ 63 → (∀ p ∈ cs, H p.2 = some (.tbl #[])) → SqL K H a (ns.map V.int) → sp [.ref a] H (fun v _ => v = .bl true) E0) ∧
      ∀ base : Heap, K.In base → base.Ns mainGlobals mg → (∀ p ∈ cs, LamX.TabB base mg p.1 p.2) → FnG l.prog w K mg base 16 fa fd ["_law_script"] sp := by
  obtain ⟨K, KX, c_⟩ := Y
  have cx0_ : (gxa K && gxb K) = true := congrArg (fun z : AlR => z.1) c_
  obtain ⟨cx_, cy_⟩ := He.ba cx0_
  have cf_ : (fnL.map fun a => shR K (a K)) = fnV := congrArg (fun z : AlR => z.2.1) c_
  have ct_ : (tsL.map fun t => He.dicW K (t.1 K)) = tsL.map fun t => some (He.keysIn w.params t.2) := congrArg (fun z : AlR => z.2.2) c_
  obtain ⟨g0_, cx_⟩ := He.ba cx_
  obtain ⟨a_draw, fd_draw, o_draw, k_draw, a_pick, fd_pick, o_pick, k_pick, a_no_integer, fd_no_integer⟩ := of_decide_eq_true g0_
  obtain ⟨g1_, cx_⟩ := He.ba cx_
  obtain ⟨o_no_integer, k_no_integer, a_no_count, fd_no_count, o_no_count, k_no_count, a_first, fd_first, o_first, k_first⟩ := of_decide_eq_true g1_
  obtain ⟨g2_, cx_⟩ := He.ba cx_
  obtain ⟨a_spoilt, fd_spoilt, o_spoilt, k_spoilt, a_early, fd_early, o_early, k_early, a_no_row, fd_no_row⟩ := of_decide_eq_true g2_
  obtain ⟨g3_, cx_⟩ := He.ba cx_
  obtain ⟨o_no_row, k_no_row, a_rows, fd_rows, o_rows, k_rows, a_is_integer, fd_is_integer, o_is_integer, k_is_integer⟩ := of_decide_eq_true g3_
  obtain ⟨g4_, cx_⟩ := He.ba cx_
  obtain ⟨a_is_count, fd_is_count, o_is_count, k_is_count, a_check_first, fd_check_first, o_check_first, k_check_first, a_is_list, fd_is_list⟩ := of_decide_eq_true g4_
  obtain ⟨g5_, cx_⟩ := He.ba cx_
  obtain ⟨o_is_list, k_is_list, a_check_values, fd_check_values, o_check_values, k_check_values, a_is_row, fd_is_row, o_is_row, k_is_row⟩ := of_decide_eq_true g5_
  obtain ⟨g6_, cx_⟩ := He.ba cx_
  obtain ⟨a_check_rows, fd_check_rows, o_check_rows, k_check_rows, a_check_parts, fd_check_parts, o_check_parts, k_check_parts, a_Form_init, i_Form_init⟩ := of_decide_eq_true g6_
  obtain ⟨g7_, cx_⟩ := He.ba cx_
  obtain ⟨fd_Form_init, o_Form_init, k_Form_init, a_is_value, fd_is_value, o_is_value, k_is_value, a_heard, fd_heard, o_heard⟩ := of_decide_eq_true g7_
  obtain ⟨g8_, cx_⟩ := He.ba cx_
  obtain ⟨k_heard, a_is_due, fd_is_due, o_is_due, k_is_due, a_is_form_right, fd_is_form_right, fc_is_form_right, o_is_form_right, k_is_form_right⟩ := of_decide_eq_true g8_
  obtain ⟨g9_, cx_⟩ := He.ba cx_
  obtain ⟨a_checked, fd_checked, o_checked, k_checked, sd_Form_level, sg_Form_level, fsf_Form_level, fd_Form_level, o_Form_level, k_Form_level⟩ := of_decide_eq_true g9_
  obtain ⟨g10_, cx_⟩ := He.ba cx_
  obtain ⟨a_is_level_right, fd_is_level_right, fc_is_level_right, o_is_level_right, k_is_level_right, a_right, fd_right, o_right, k_right, a_pot⟩ := of_decide_eq_true g10_
  obtain ⟨g11_, cx_⟩ := He.ba cx_
  obtain ⟨fd_pot, o_pot, k_pot, a_law, fd_law, o_law, k_law, a_Reckoned_init, i_Reckoned_init, fd_Reckoned_init⟩ := of_decide_eq_true g11_
  obtain ⟨g12_, cx_⟩ := He.ba cx_
  obtain ⟨o_Reckoned_init, k_Reckoned_init, a_InvalidFirst_init, i_InvalidFirst_init, fd_InvalidFirst_init, o_InvalidFirst_init, k_InvalidFirst_init, a_InvalidNumber_init, i_InvalidNumber_init, fd_InvalidNumber_init⟩ := of_decide_eq_true g12_
  obtain ⟨g13_, cx_⟩ := He.ba cx_
  obtain ⟨o_InvalidNumber_init, k_InvalidNumber_init, a_InvalidRows_init, i_InvalidRows_init, fd_InvalidRows_init, o_InvalidRows_init, k_InvalidRows_init, a_InvalidValues_init, i_InvalidValues_init, fd_InvalidValues_init⟩ := of_decide_eq_true g13_
  have g14_ := cx_
  obtain ⟨o_InvalidValues_init, k_InvalidValues_init, a_TooMany_init, i_TooMany_init, fd_TooMany_init, o_TooMany_init, k_TooMany_init, aC_InvalidFirst, aC_InvalidNumber, aC_InvalidRows⟩ := of_decide_eq_true g14_
  obtain ⟨g15_, cy_⟩ := He.ba cy_
  obtain ⟨aC_InvalidValues, aC_LeagueError, aC_LimitError, aC_TooMany, fxo_InvalidFirst, xs_InvalidFirst, xe_InvalidFirst, xt_InvalidFirst, xp_InvalidFirst, no_InvalidFirst_value⟩ := of_decide_eq_true g15_
  obtain ⟨g16_, cy_⟩ := He.ba cy_
  obtain ⟨fxo_InvalidNumber, xs_InvalidNumber, xe_InvalidNumber, xt_InvalidNumber, xp_InvalidNumber, no_InvalidNumber_value, fxo_InvalidRows, xs_InvalidRows, xe_InvalidRows, xt_InvalidRows⟩ := of_decide_eq_true g16_
  obtain ⟨g17_, cy_⟩ := He.ba cy_
  obtain ⟨xp_InvalidRows, no_InvalidRows_position, fxo_InvalidValues, xs_InvalidValues, xe_InvalidValues, xt_InvalidValues, xp_InvalidValues, no_InvalidValues_position, xg1_TooMany, xg2_TooMany⟩ := of_decide_eq_true g17_
  obtain ⟨g18_, cy_⟩ := He.ba cy_
  obtain ⟨xg3_TooMany, xs_TooMany, xe_TooMany, xt_TooMany, xp_TooMany, no_TooMany_what, no_TooMany_limit, xga_InvalidFirst, xgg_InvalidFirst, xhd_InvalidFirst⟩ := of_decide_eq_true g18_
  obtain ⟨g19_, cy_⟩ := He.ba cy_
  obtain ⟨xca_InvalidFirst, xcn_InvalidFirst, xct_InvalidFirst, xcm_InvalidFirst, xga_InvalidNumber, xgg_InvalidNumber, xhd_InvalidNumber, xca_InvalidNumber, xcn_InvalidNumber, xct_InvalidNumber⟩ := of_decide_eq_true g19_
  obtain ⟨g20_, cy_⟩ := He.ba cy_
  obtain ⟨xcm_InvalidNumber, xga_InvalidRows, xgg_InvalidRows, xhd_InvalidRows, xca_InvalidRows, xcn_InvalidRows, xct_InvalidRows, xcm_InvalidRows, xga_InvalidValues, xgg_InvalidValues⟩ := of_decide_eq_true g20_
  obtain ⟨g21_, cy_⟩ := He.ba cy_
  obtain ⟨xhd_InvalidValues, xca_InvalidValues, xcn_InvalidValues, xct_InvalidValues, xcm_InvalidValues, xga_TooMany, xgg_TooMany, xhd_TooMany, xca_TooMany, xcn_TooMany⟩ := of_decide_eq_true g21_
  obtain ⟨g22_, cy_⟩ := He.ba cy_
  obtain ⟨xct_TooMany, xcm_TooMany, xm_InvalidFirst_InvalidFirst, xm_InvalidNumber_InvalidFirst, xm_InvalidNumber_InvalidNumber, xm_InvalidNumber_InvalidRows, xm_InvalidNumber_InvalidValues, xm_InvalidRows_InvalidFirst, xm_InvalidRows_InvalidRows, xm_InvalidRows_InvalidValues⟩ := of_decide_eq_true g22_
  obtain ⟨g23_, cy_⟩ := He.ba cy_
  obtain ⟨xm_InvalidValues_InvalidFirst, xm_InvalidValues_InvalidValues, xm_TooMany_InvalidFirst, xm_TooMany_InvalidNumber, xm_TooMany_InvalidRows, xm_TooMany_InvalidValues, xm_TooMany_TooMany, xk_InvalidFirst_LeagueError, xk_InvalidFirst_ValueError, xk_InvalidNumber_LeagueError⟩ := of_decide_eq_true g23_
  obtain ⟨g24_, cy_⟩ := He.ba cy_
  obtain ⟨xk_InvalidNumber_ValueError, xk_InvalidRows_LeagueError, xk_InvalidRows_ValueError, xk_InvalidValues_LeagueError, xk_InvalidValues_ValueError, xk_TooMany_ArithmeticError, xk_TooMany_LimitError, fkc_is_form_right, fkt_is_form_right, fkc_is_level_right⟩ := of_decide_eq_true g24_
  obtain ⟨g25_, cy_⟩ := He.ba cy_
  obtain ⟨fkt_is_level_right, lo_tb, aC_Form, pg_Form, hd_Form, po_Form, sa_Form, mk_Form, kc_Form, na_Form__first⟩ := of_decide_eq_true g25_
  obtain ⟨g26_, cy_⟩ := He.ba cy_
  obtain ⟨na_Form__early, na_Form__rows, aC_Reckoned, pg_Reckoned, hd_Reckoned, po_Reckoned, sa_Reckoned, mk_Reckoned, kc_Reckoned, na_Reckoned_parts⟩ := of_decide_eq_true g26_
  obtain ⟨g27_, cy_⟩ := He.ba cy_
  obtain ⟨in1_Reckoned, in2_Reckoned, z_ArithmeticError, z_ValueError, z_abs, z_all, z_any, z_bool, z_dict, z_divmod⟩ := of_decide_eq_true g27_
  obtain ⟨g28_, cy_⟩ := He.ba cy_
  obtain ⟨z_enumerate, z_int, z_isinstance, z_len, z_list, z_max, z_min, z_range, z_repr, z_set⟩ := of_decide_eq_true g28_
  have g29_ := cy_
  obtain ⟨z_sorted, z_sum, z_tuple, z_zip, c_MOST_ROWS, c_MOST_VALUES⟩ := of_decide_eq_true g29_
  obtain ⟨_, _, _, _, _, _, _, _, l_draw⟩ := shR_ok (fnAt cf_ 0 (a := xa_Adraw) (v := sv_draw) (by rfl) (by rfl)) fd_draw rfl
  obtain ⟨_, _, _, _, _, _, _, _, l_pick⟩ := shR_ok (fnAt cf_ 1 (a := xa_Apick) (v := sv_pick) (by rfl) (by rfl)) fd_pick rfl
  obtain ⟨_, _, _, _, _, _, _, _, l_no_integer⟩ := shR_ok (fnAt cf_ 2 (a := xa_Ano_integer) (v := sv_no_integer) (by rfl) (by rfl)) fd_no_integer rfl
  obtain ⟨_, _, _, _, _, _, _, _, l_no_count⟩ := shR_ok (fnAt cf_ 3 (a := xa_Ano_count) (v := sv_no_count) (by rfl) (by rfl)) fd_no_count rfl
  obtain ⟨_, _, _, _, _, _, _, _, l_first⟩ := shR_ok (fnAt cf_ 4 (a := xa_Afirst) (v := sv_first) (by rfl) (by rfl)) fd_first rfl
  obtain ⟨_, _, _, _, _, _, _, _, l_spoilt⟩ := shR_ok (fnAt cf_ 5 (a := xa_Aspoilt) (v := sv_spoilt) (by rfl) (by rfl)) fd_spoilt rfl
  obtain ⟨_, _, _, _, _, _, _, _, l_early⟩ := shR_ok (fnAt cf_ 6 (a := xa_Aearly) (v := sv_early) (by rfl) (by rfl)) fd_early rfl
  obtain ⟨_, _, _, _, _, _, _, _, l_no_row⟩ := shR_ok (fnAt cf_ 7 (a := xa_Ano_row) (v := sv_no_row) (by rfl) (by rfl)) fd_no_row rfl
  obtain ⟨_, _, _, _, _, _, _, _, l_rows⟩ := shR_ok (fnAt cf_ 8 (a := xa_Arows) (v := sv_rows) (by rfl) (by rfl)) fd_rows rfl
  obtain ⟨_, _, _, _, _, _, _, _, l_is_integer⟩ := shR_ok (fnAt cf_ 9 (a := xa_Ais_integer) (v := sv_is_integer) (by rfl) (by rfl)) fd_is_integer rfl
  obtain ⟨_, _, _, _, _, _, _, _, l_is_count⟩ := shR_ok (fnAt cf_ 10 (a := xa_Ais_count) (v := sv_is_count) (by rfl) (by rfl)) fd_is_count rfl
  obtain ⟨_, _, _, _, _, _, _, _, l_check_first⟩ := shR_ok (fnAt cf_ 11 (a := xa_Acheck_first) (v := sv_check_first) (by rfl) (by rfl)) fd_check_first rfl
  obtain ⟨_, _, _, _, _, _, _, _, l_is_list⟩ := shR_ok (fnAt cf_ 12 (a := xa_Ais_list) (v := sv_is_list) (by rfl) (by rfl)) fd_is_list rfl
  obtain ⟨_, _, _, _, _, _, _, _, l_check_values⟩ := shR_ok (fnAt cf_ 13 (a := xa_Acheck_values) (v := sv_check_values) (by rfl) (by rfl)) fd_check_values rfl
  obtain ⟨_, _, _, _, _, _, _, _, l_is_row⟩ := shR_ok (fnAt cf_ 14 (a := xa_Ais_row) (v := sv_is_row) (by rfl) (by rfl)) fd_is_row rfl
  obtain ⟨_, _, _, _, _, _, _, _, l_check_rows⟩ := shR_ok (fnAt cf_ 15 (a := xa_Acheck_rows) (v := sv_check_rows) (by rfl) (by rfl)) fd_check_rows rfl
  obtain ⟨_, _, _, _, _, _, _, _, l_check_parts⟩ := shR_ok (fnAt cf_ 16 (a := xa_Acheck_parts) (v := sv_check_parts) (by rfl) (by rfl)) fd_check_parts rfl
  obtain ⟨_, _, _, _, _, _, _, _, l_Form_init⟩ := shR_ok (fnAt cf_ 17 (a := xa_AForm_init) (v := sv_Form_init) (by rfl) (by rfl)) fd_Form_init rfl
  obtain ⟨_, _, _, _, _, _, _, _, l_is_value⟩ := shR_ok (fnAt cf_ 18 (a := xa_Ais_value) (v := sv_is_value) (by rfl) (by rfl)) fd_is_value rfl
  obtain ⟨_, _, _, _, _, _, _, _, l_heard⟩ := shR_ok (fnAt cf_ 19 (a := xa_Aheard) (v := sv_heard) (by rfl) (by rfl)) fd_heard rfl
  obtain ⟨_, _, _, _, _, _, _, _, l_is_due⟩ := shR_ok (fnAt cf_ 20 (a := xa_Ais_due) (v := sv_is_due) (by rfl) (by rfl)) fd_is_due rfl
  obtain ⟨_, _, _, _, _, _, _, _, l_is_form_right⟩ := shR_ok (fnAt cf_ 21 (a := xa_Ais_form_right) (v := sv_is_form_right) (by rfl) (by rfl)) fd_is_form_right fc_is_form_right
  obtain ⟨_, _, _, _, _, _, _, _, l_checked⟩ := shR_ok (fnAt cf_ 22 (a := xa_Achecked) (v := sv_checked) (by rfl) (by rfl)) fd_checked rfl
  obtain ⟨sf_Form_level, _, sr_Form_level⟩ := He5.wrapB_ok fsf_Form_level
  obtain ⟨_, _, _, _, _, _, _, _, l_Form_level⟩ := shR_ok (fnAt cf_ 23 (a := xa_AForm_level) (v := sv_Form_level) (by rfl) (by rfl)) fd_Form_level rfl
  obtain ⟨_, _, _, _, _, _, _, _, l_is_level_right⟩ := shR_ok (fnAt cf_ 24 (a := xa_Ais_level_right) (v := sv_is_level_right) (by rfl) (by rfl)) fd_is_level_right fc_is_level_right
  obtain ⟨_, _, _, _, _, _, _, _, l_right⟩ := shR_ok (fnAt cf_ 25 (a := xa_Aright) (v := sv_right) (by rfl) (by rfl)) fd_right rfl
  obtain ⟨_, _, _, _, _, _, _, _, l_pot⟩ := shR_ok (fnAt cf_ 26 (a := xa_Apot) (v := sv_pot) (by rfl) (by rfl)) fd_pot rfl
  obtain ⟨_, _, _, _, _, _, _, _, l_law⟩ := shR_ok (fnAt cf_ 27 (a := xa_Alaw) (v := sv_law) (by rfl) (by rfl)) fd_law rfl
  obtain ⟨_, _, _, _, _, _, _, _, l_Reckoned_init⟩ := shR_ok (fnAt cf_ 28 (a := xa_AReckoned_init) (v := sv_Reckoned_init) (by rfl) (by rfl)) fd_Reckoned_init rfl
  obtain ⟨_, _, _, _, _, _, _, _, l_InvalidFirst_init⟩ := shR_ok (fnAt cf_ 29 (a := xa_AInvalidFirst_init) (v := sv_InvalidFirst_init) (by rfl) (by rfl)) fd_InvalidFirst_init rfl
  obtain ⟨_, _, _, _, _, _, _, _, l_InvalidNumber_init⟩ := shR_ok (fnAt cf_ 30 (a := xa_AInvalidNumber_init) (v := sv_InvalidNumber_init) (by rfl) (by rfl)) fd_InvalidNumber_init rfl
  obtain ⟨_, _, _, _, _, _, _, _, l_InvalidRows_init⟩ := shR_ok (fnAt cf_ 31 (a := xa_AInvalidRows_init) (v := sv_InvalidRows_init) (by rfl) (by rfl)) fd_InvalidRows_init rfl
  obtain ⟨_, _, _, _, _, _, _, _, l_InvalidValues_init⟩ := shR_ok (fnAt cf_ 32 (a := xa_AInvalidValues_init) (v := sv_InvalidValues_init) (by rfl) (by rfl)) fd_InvalidValues_init rfl
  obtain ⟨_, _, _, _, _, _, _, _, l_TooMany_init⟩ := shR_ok (fnAt cf_ 33 (a := xa_ATooMany_init) (v := sv_TooMany_init) (by rfl) (by rfl)) fd_TooMany_init rfl
  obtain ⟨_, _, _, _, _, _, _, _, _, _, _, _, _, _, _, xo_InvalidFirst, xr_InvalidFirst⟩ := xcR_ok fxo_InvalidFirst
  obtain ⟨_, _, _, _, _, _, _, _, _, _, _, _, _, _, _, xo_InvalidNumber, xr_InvalidNumber⟩ := xcR_ok fxo_InvalidNumber
  obtain ⟨_, _, _, _, _, _, _, _, _, _, _, _, _, _, _, xo_InvalidRows, xr_InvalidRows⟩ := xcR_ok fxo_InvalidRows
  obtain ⟨_, _, _, _, _, _, _, _, _, _, _, _, _, _, _, xo_InvalidValues, xr_InvalidValues⟩ := xcR_ok fxo_InvalidValues
  obtain ⟨_, _, _, _, kc_is_form_right, kw_is_form_right⟩ := tbR_ok fkc_is_form_right
  have kt_is_form_right : K.lookup (xa_TTis_form_right K) = none := Option.isNone_iff_eq_none.mp fkt_is_form_right
  obtain ⟨_, _, _, _, kc_is_level_right, kw_is_level_right⟩ := tbR_ok fkc_is_level_right
  have kt_is_level_right : K.lookup (xa_TTis_level_right K) = none := Option.isNone_iff_eq_none.mp fkt_is_level_right
  exact ⟨K, KX, all_mk KX G hfa a_draw l_draw o_draw k_draw a_pick l_pick o_pick k_pick a_no_integer l_no_integer o_no_integer k_no_integer a_no_count l_no_count o_no_count k_no_count a_first l_first o_first k_first a_spoilt l_spoilt o_spoilt k_spoilt a_early l_early o_early k_early a_no_row l_no_row o_no_row k_no_row a_rows l_rows o_rows k_rows a_is_integer l_is_integer o_is_integer k_is_integer a_is_count l_is_count o_is_count k_is_count a_check_first l_check_first o_check_first k_check_first a_is_list l_is_list o_is_list k_is_list a_check_values l_check_values o_check_values k_check_values a_is_row l_is_row o_is_row k_is_row a_check_rows l_check_rows o_check_rows k_check_rows a_check_parts l_check_parts o_check_parts k_check_parts a_Form_init i_Form_init l_Form_init o_Form_init k_Form_init a_is_value l_is_value o_is_value k_is_value a_heard l_heard o_heard k_heard a_is_due l_is_due o_is_due k_is_due a_is_form_right l_is_form_right o_is_form_right k_is_form_right a_checked l_checked o_checked k_checked sd_Form_level sg_Form_level sf_Form_level sr_Form_level l_Form_level o_Form_level k_Form_level a_is_level_right l_is_level_right o_is_level_right k_is_level_right a_right l_right o_right k_right a_pot l_pot o_pot k_pot a_law l_law o_law k_law a_Reckoned_init i_Reckoned_init l_Reckoned_init o_Reckoned_init k_Reckoned_init a_InvalidFirst_init i_InvalidFirst_init l_InvalidFirst_init o_InvalidFirst_init k_InvalidFirst_init a_InvalidNumber_init i_InvalidNumber_init l_InvalidNumber_init o_InvalidNumber_init k_InvalidNumber_init a_InvalidRows_init i_InvalidRows_init l_InvalidRows_init o_InvalidRows_init k_InvalidRows_init a_InvalidValues_init i_InvalidValues_init l_InvalidValues_init o_InvalidValues_init k_InvalidValues_init a_TooMany_init i_TooMany_init l_TooMany_init o_TooMany_init k_TooMany_init aC_InvalidFirst aC_InvalidNumber aC_InvalidRows aC_InvalidValues aC_LeagueError aC_LimitError aC_TooMany xo_InvalidFirst xr_InvalidFirst xs_InvalidFirst xe_InvalidFirst xt_InvalidFirst xp_InvalidFirst no_InvalidFirst_value xo_InvalidNumber xr_InvalidNumber xs_InvalidNumber xe_InvalidNumber xt_InvalidNumber xp_InvalidNumber no_InvalidNumber_value xo_InvalidRows xr_InvalidRows xs_InvalidRows xe_InvalidRows xt_InvalidRows xp_InvalidRows no_InvalidRows_position xo_InvalidValues xr_InvalidValues xs_InvalidValues xe_InvalidValues xt_InvalidValues xp_InvalidValues no_InvalidValues_position xg1_TooMany xg2_TooMany xg3_TooMany xs_TooMany xe_TooMany xt_TooMany xp_TooMany no_TooMany_what no_TooMany_limit xga_InvalidFirst xgg_InvalidFirst xhd_InvalidFirst xca_InvalidFirst xcn_InvalidFirst xct_InvalidFirst xcm_InvalidFirst xga_InvalidNumber xgg_InvalidNumber xhd_InvalidNumber xca_InvalidNumber xcn_InvalidNumber xct_InvalidNumber xcm_InvalidNumber xga_InvalidRows xgg_InvalidRows xhd_InvalidRows xca_InvalidRows xcn_InvalidRows xct_InvalidRows xcm_InvalidRows xga_InvalidValues xgg_InvalidValues xhd_InvalidValues xca_InvalidValues xcn_InvalidValues xct_InvalidValues xcm_InvalidValues xga_TooMany xgg_TooMany xhd_TooMany xca_TooMany xcn_TooMany xct_TooMany xcm_TooMany xm_InvalidFirst_InvalidFirst xm_InvalidNumber_InvalidFirst xm_InvalidNumber_InvalidNumber xm_InvalidNumber_InvalidRows xm_InvalidNumber_InvalidValues xm_InvalidRows_InvalidFirst xm_InvalidRows_InvalidRows xm_InvalidRows_InvalidValues xm_InvalidValues_InvalidFirst xm_InvalidValues_InvalidValues xm_TooMany_InvalidFirst xm_TooMany_InvalidNumber xm_TooMany_InvalidRows xm_TooMany_InvalidValues xm_TooMany_TooMany xk_InvalidFirst_LeagueError xk_InvalidFirst_ValueError xk_InvalidNumber_LeagueError xk_InvalidNumber_ValueError xk_InvalidRows_LeagueError xk_InvalidRows_ValueError xk_InvalidValues_LeagueError xk_InvalidValues_ValueError xk_TooMany_ArithmeticError xk_TooMany_LimitError kc_is_form_right kw_is_form_right kt_is_form_right kc_is_level_right kw_is_level_right kt_is_level_right lo_tb aC_Form pg_Form hd_Form po_Form sa_Form mk_Form kc_Form na_Form__first na_Form__early na_Form__rows aC_Reckoned pg_Reckoned hd_Reckoned po_Reckoned sa_Reckoned mk_Reckoned kc_Reckoned na_Reckoned_parts in1_Reckoned in2_Reckoned z_ArithmeticError z_ValueError z_abs z_all z_any z_bool z_dict z_divmod z_enumerate z_int z_isinstance z_len z_list z_max z_min z_range z_repr z_set z_sorted z_sum z_tuple z_zip c_MOST_ROWS c_MOST_VALUES⟩
end Lw
open PySem PySem.W PyProof.Rows in
set_option maxRecDepth 100000 in
set_option maxHeartbeats 0 in
theorem PySem.Challenge.cw_ringrows_k11_forms_refused_holds : PySem.Challenge.rw_ringrows_k11_forms_refused.Holds := by
  w_on; o_law
  refine HandSHeadRun.head_imp (r := OpenLaw.row PySem.Challenge.rw_ringrows_k11_forms_refused) (q := Lw.qV) (H := Lw.hk) (ob := Lw.ob) (M := 60000) (loose := Lw.looseL) (d := HandSHeadRun.topDef (OpenLaw.row PySem.Challenge.rw_ringrows_k11_forms_refused).prog 55) (kwd := []) Lw.ob_eq Lw.run (by kernel_rfl) (by kernel_rfl) (by kernel_rfl) (by rfl) (by first | assumption | decide +kernel) (by decide +kernel) ⟨rfl, rfl, rfl, rfl, rfl, by decide +kernel⟩ ?hw ?hc
  case hw => w_witness2
  case hc =>
    refine Rx.walk_ofLGE (l := PySem.Challenge.rw_ringrows_k11_forms_refused) (n := 63) (k := 16) (x := "_law_script") rfl (by decide) (by kernel_rfl) ⟨rfl, by decide, by decide⟩ ["_law_is_form_right", "_law_is_level_right"] (by decide +kernel) ?F
    intro w mg fa h Y G hmg0
    have hmg : mg ("law" : PySem.Str) = some (.ref fa) := by
      have e : (HandSHeadRun.topDef (OpenLaw.row PySem.Challenge.rw_ringrows_k11_forms_refused).prog 55).name = ("law" : PySem.Str) := by kernel_rfl
      rw [← e]
      exact hmg0
    exact Lw.facts Y G hmg
