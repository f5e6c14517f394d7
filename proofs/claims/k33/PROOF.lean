import PyProof.Rows.All
import Wide.All
import OpenK.AllK
import Wide.FinOn
import HandS.DictComp
import HandS.TupSets
import HandS.Head0
import HandS.Head1
import HandS.Head2
import HandS.Head3
import HandS.HeadHook4
import HandS.HeadNt
import KE.GoesEnum
import KE.KExcInit
import PyProof.ExcBaseAll.RuntimeError
import PyProof.ExcBaseAll.ArithmeticError
import HandS.DictEq
import PyProof.ListStr
import KE.GoesMore
import KE.GoesZip
import HandS.ForMost
import HandS.Property
import HandS.IsInst
import HandS.Wide
import HandS.WideBits
import HandS.Defaults
import HandS.StrMore
import HandS.Style
import HandS.Codes
import HandS.OwnEq
import HandS.Conv
import HandS.SetFor
import HandS.WrittenGet
import PyProof.StrBlock2
import PyProof.LongRange
import PyProof.ReprRoads
import HandS.FStr
import HandS.MakeKwOnly
import HandS.ListItems
import HandS.Gcd
import HandS.Small
import HandS.NoneIn
import HandS.Walk
import HandS.Deep
import HandS.SortRule
import HandS.SortInts
import HandS.Star
import KE.KOpsOwn
import KE.KMathGC
import HandS.Flt
import KE.KMathG
import KE.DataMinMax
import HandS.SortKw
import HandS.Zip
import Flt.RightSqrt
import PyProof.ReprNest
import HandS.ClsMeth
import HandS.TupLe
import HandS.Lambda
import HandS.ExcInit
import HandS.ExcIs
import HandS.ExcField
import HandS.ExcOwn
import HandS.TryMany
import HandS.WordsExc
import KE.KExcIs
import HandS.EndTab
import KE.KDictZip
import PyProof.ListNew
import HandS.TupAny
import PySem.Challenge.RW_ringrows_k33_whole_pairs_met_by_all_roun
set_option Elab.async false
set_option linter.all false
set_option maxRecDepth 100000
set_option maxHeartbeats 4000000
namespace Rx
open PySem PySem.Spec PyProof.Rows L2
def fdR (K : PySem.W.Frag) (a : Addr) : Option FuncData := match K.lookup a with
  | some ⟨_, _, .func fd, _⟩ => some fd
  | _ => none
def shR (K : PySem.W.Frag) (a : Addr) : He.FnW := (fdR K a).map fun fd => (fd.name, fd.qualname, fd.params, fd.body, fd.scope, fd.globals, fd.closure, fd.builtins)
def dfR (K : PySem.W.Frag) (a : Addr) : Option Value := (fdR K a).map fun fd => fd.defaults
def cdR (K : PySem.W.Frag) (a : Addr) : Value := match fdR K a with
  | some fd => fd.code
  | none => .none
def adV : Value → Addr
  | .ref a => a
  | _ => 0
def tuR (K : PySem.W.Frag) (a : Addr) : Option (List Value) := match K.lookup a with
  | some ⟨.type c, _, .seq its _, _⟩ => (match decide (c = "tuple") with
    | true => some its.toList
    | false => none)
  | _ => none
def rcA (K : PySem.W.Frag) (p : Addr) (T : String) : Addr := match PySem.W.recIn K p T with
  | some (v :: _) => adV v
  | _ => 0
def rcB (K : PySem.W.Frag) (p : Addr) (T : String) : Bool := match PySem.W.recIn K p T with
  | some (.ref _ :: _) => true
  | _ => false
def tkI : Option (Option Value) → Tok
  | some (some (.int _ t)) => t
  | some (some (.str _ t)) => t
  | _ => 0
abbrev AlR : Type := Bool × List He.FnW × List (Option (List (Option (Str × Int))))
def obK (ex : PySem.W.Frag → Bool) (fn : List (PySem.W.Frag → Addr)) (ts : List He.Tab) (K : PySem.W.Frag) : AlR := (ex K, fn.map fun a => shR K (a K), ts.map fun t => He.dicW K (t.1 K))
def vaR (vs : List He.FnW) (ts : List He.Tab) (w : World) : AlR := (true, vs, ts.map fun t => some (He.keysIn w.params t.2))
def obR (n : Nat) (ex : PySem.W.Frag → Bool) (fn : List (PySem.W.Frag → Addr)) (ts : List He.Tab) (g : Addr → Option Obj) : AlR := obK ex fn ts (He.frT g (List.range n))
def hkR (n : Nat) (ex : PySem.W.Frag → Bool) (fn : List (PySem.W.Frag → Addr)) (vs : List He.FnW) (ts : List He.Tab) : PySem.W.Hook where
  α := AlR
  obs := fun s => obR n ex fn ts s.heap.get?
  val := fun w => vaR vs ts w
  says := fun w h => ∃ K : PySem.W.Frag, K.In h ∧ obK ex fn ts K = vaR vs ts w
  of := fun _ _ e => ⟨_, He.frT_in, e⟩
  keeps := fun _ _ _ ⟨K, hK, c⟩ k => ⟨K, PySem.W.Frag.In.keeps hK k, c⟩
def frcO {α : Type} (o : Obj) (k : Obj → α) : α := match o with
  | ⟨c, d, dt, sl⟩ => k ⟨c, d, dt, sl⟩
def frcK {α : Type} : PySem.W.Frag → (PySem.W.Frag → α) → α
  | [], k => k []
  | (a, o) :: r, k => frcO o fun o => frcK r fun r => k ((a, o) :: r)
def obA (n : Nat) (ex : PySem.W.Frag → Bool) (s : PySem.W.SharedT) : Bool := frcK (He.frT (HandSHeadRun.getT s) (List.range n)) ex
def obB (n : Nat) (fn : List (PySem.W.Frag → Addr)) (ts : List He.Tab) (s : PySem.W.SharedT) : List He.FnW × List (Option (List (Option (Str × Int)))) :=
  frcK (He.frT (HandSHeadRun.getT s) (List.range n)) fun K => (fn.map fun a => shR K (a K), ts.map fun t => He.dicW K (t.1 K))
def obF (n : Nat) (ea eb : PySem.W.Frag → Bool) (fn : List (PySem.W.Frag → Addr)) (ts : List He.Tab) (s : PySem.W.SharedT) : AlR := (obA n ea s && obA n eb s, obB n fn ts s)
theorem map_four {σ α β δ : Type} {o : Option σ} {f : σ → α} {g : σ → β} {h h2 : σ → Bool} {k : σ → δ} {a : α} {b : β} {d : δ} (x : o.map (fun s => (f s, g s)) = some (a, b)) (y : o.map h = some true) (y2 : o.map h2 = some true) (z : o.map k = some d) :
    o.map (fun s => (f s, g s, (h s && h2 s), k s)) = some (a, b, true, d) := by
  cases o with
  | none => cases x
  | some s =>
    have x1 := Option.some.inj x
    have y1 : h s = true := Option.some.inj y
    have y3 : h2 s = true := Option.some.inj y2
    have z1 : k s = d := Option.some.inj z
    obtain ⟨x2, x3⟩ := Prod.mk.inj x1
    show some (f s, g s, (h s && h2 s), k s) = _
    rw [x2, x3, y1, y3, z1]
    rfl
noncomputable abbrev endI (p : Program) (w : World) : Option (Shared × PySem.W.SharedT) := HandSHeadRun.wholeF (fun p => HandSHeadRun.stepQ (HandSHeadRun.denQ HandSHeadRun.tabQ) p w) HandSHeadRun.fenceQ 60000 p
theorem runEqI_of {R : PySem.W.OpenRow} {q : Program} {ea eb : PySem.W.Frag → Bool} {fn : List (PySem.W.Frag → Addr)} {vs : List He.FnW} {ts : List He.Tab} {loose : List Str} {w : World} {n : Nat}
    (x : (endI R.prog w).map (fun x => (HandSHeadRun.looksF R.prog x.1.heap x.2.abs, HandSHeadRun.seenQ q loose (importedModules R.prog.main.body) (fun s => PySem.W.xlAt q [] s && PySem.W.recOk R.toRowW.records s) x.2.abs)) = some (true, PySem.W.openGood q loose))
    (y : (endI R.prog w).map (fun x => obA n ea x.2) = some true) (y2 : (endI R.prog w).map (fun x => obA n eb x.2) = some true)
    (z : (endI R.prog w).map (fun x => obB n fn ts x.2) = some (vs, ts.map fun t => some (He.keysIn w.params t.2))) :
    HandSHeadRun.RunEqI R q (hkR n (fun K => ea K && eb K) fn vs ts) (obF n ea eb fn ts) 60000 loose w := map_four x y y2 z
end Rx
namespace Lw
open PySem PySem.Spec PyProof.Rows L2 Rx
def topS (i : Nat) : Stmt := PySem.Challenge.pw_ringrows_k33_whole_pairs_met_by_all_roun.main.body.getD i (.Pass ⟨0, 0, 0, 0⟩)
abbrev s_spots : Stmt := (topS 45)
abbrev s_draw : Stmt := (topS 39)
abbrev s_pick : Stmt := (topS 40)
abbrev s_signs : Stmt := (topS 41)
abbrev s_model : Stmt := (topS 42)
abbrev s_least : Stmt := (topS 44)
abbrev s_is_marks : Stmt := (topS 16)
abbrev s_check_part : Stmt := (topS 35)
abbrev s_Word_init : Stmt := (inClass (topS 34) 0)
abbrev s_is_integer : Stmt := (topS 14)
abbrev s_Rule_init : Stmt := (inClass (topS 29) 0)
abbrev s_rule : Stmt := (topS 43)
abbrev s_meetings : Stmt := (topS 46)
abbrev s_Word_least : Stmt := (inClass (topS 34) 4)
abbrev s_Rule_least_size : Stmt := (inClass (topS 29) 5)
abbrev s_is_size : Stmt := (topS 17)
abbrev s_check_size : Stmt := (topS 18)
abbrev s_is_count : Stmt := (topS 15)
abbrev s_check_team : Stmt := (topS 19)
abbrev s_check_pair : Stmt := (topS 20)
abbrev s_Rule_step : Stmt := (inClass (topS 29) 1)
abbrev s_rounds_at : Stmt := (topS 24)
abbrev s_rounds_of : Stmt := (topS 22)
abbrev s_is_rightP : Stmt := (topS 25)
abbrev s_is_right : Stmt := (topS 23)
abbrev s_right : Stmt := (topS 47)
abbrev s_pot : Stmt := (topS 38)
abbrev s_law : Stmt := (topS 48)
def xa_CWord (K : PySem.W.Frag) : Addr := He.ga K "Word"
def xa_CRule (K : PySem.W.Frag) : Addr := He.ga K "Rule"
def xa_Aspots (K : PySem.W.Frag) : Addr := He.ga K "_law_spots"
def xa_Adraw (K : PySem.W.Frag) : Addr := He.ga K "_law_draw"
def xa_Apick (K : PySem.W.Frag) : Addr := He.ga K "_law_pick"
def xa_Asigns (K : PySem.W.Frag) : Addr := He.ga K "_law_signs"
def xa_Amodel (K : PySem.W.Frag) : Addr := He.ga K "_law_model"
def xa_Aleast (K : PySem.W.Frag) : Addr := He.ga K "_law_least"
def xa_Ais_marks (K : PySem.W.Frag) : Addr := He.ga K "is_marks"
def xa_Acheck_part (K : PySem.W.Frag) : Addr := He.ga K "_check_part"
def xa_AWord_init (K : PySem.W.Frag) : Addr := He.ma K (xa_CWord K) "__init__"
def xa_Ais_integer (K : PySem.W.Frag) : Addr := He.ga K "is_integer"
def xa_ARule_init (K : PySem.W.Frag) : Addr := He.ma K (xa_CRule K) "__init__"
def xa_Arule (K : PySem.W.Frag) : Addr := He.ga K "_law_rule"
def xa_Ameetings (K : PySem.W.Frag) : Addr := He.ga K "_law_meetings"
def xa_PWord_least (K : PySem.W.Frag) : Addr := He.ma K (xa_CWord K) "least"
def xa_AWord_least (K : PySem.W.Frag) : Addr := rcA K (xa_PWord_least K) "property"
def xa_PRule_least_size (K : PySem.W.Frag) : Addr := He.ma K (xa_CRule K) "least_size"
def xa_ARule_least_size (K : PySem.W.Frag) : Addr := rcA K (xa_PRule_least_size K) "property"
def xa_Ais_size (K : PySem.W.Frag) : Addr := He.ga K "is_size"
def xa_Acheck_size (K : PySem.W.Frag) : Addr := He.ga K "check_size"
def xa_Ais_count (K : PySem.W.Frag) : Addr := He.ga K "is_count"
def xa_Acheck_team (K : PySem.W.Frag) : Addr := He.ga K "check_team"
def xa_Acheck_pair (K : PySem.W.Frag) : Addr := He.ga K "check_pair"
def xa_PRule_step (K : PySem.W.Frag) : Addr := He.ma K (xa_CRule K) "step"
def xa_ARule_step (K : PySem.W.Frag) : Addr := rcA K (xa_PRule_step K) "property"
def xa_Arounds_at (K : PySem.W.Frag) : Addr := He.ga K "_rounds_at"
def xa_Arounds_of (K : PySem.W.Frag) : Addr := He.ga K "rounds_of"
def xa_Ais_rightP (K : PySem.W.Frag) : Addr := He.ga K "_is_right"
def xa_Ais_right (K : PySem.W.Frag) : Addr := He.ga K "is_right"
def xa_Aright (K : PySem.W.Frag) : Addr := He.ga K "_law_right"
def xa_Apot (K : PySem.W.Frag) : Addr := He.ga K "_law_pot"
def xa_Alaw (K : PySem.W.Frag) : Addr := He.ga K "law"
def xa_TRule_init (K : PySem.W.Frag) : Addr := adV ((dfR K (xa_ARule_init K)).getD .none)
def xa_DCONTRARY_STANDERS (K : PySem.W.Frag) : Addr := He.ga K "CONTRARY_STANDERS"
def sv_spots : He.FnW := some ("_law_spots", "_law_spots", defArgs s_spots, .stmts (defBody s_spots), defScope s_spots, mainGlobals, [], builtinsNs)
def sv_draw : He.FnW := some ("_law_draw", "_law_draw", defArgs s_draw, .stmts (defBody s_draw), defScope s_draw, mainGlobals, [], builtinsNs)
def sv_pick : He.FnW := some ("_law_pick", "_law_pick", defArgs s_pick, .stmts (defBody s_pick), defScope s_pick, mainGlobals, [], builtinsNs)
def sv_signs : He.FnW := some ("_law_signs", "_law_signs", defArgs s_signs, .stmts (defBody s_signs), defScope s_signs, mainGlobals, [], builtinsNs)
def sv_model : He.FnW := some ("_law_model", "_law_model", defArgs s_model, .stmts (defBody s_model), defScope s_model, mainGlobals, [], builtinsNs)
def sv_least : He.FnW := some ("_law_least", "_law_least", defArgs s_least, .stmts (defBody s_least), defScope s_least, mainGlobals, [], builtinsNs)
def sv_is_marks : He.FnW := some ("is_marks", "is_marks", defArgs s_is_marks, .stmts (defBody s_is_marks), defScope s_is_marks, mainGlobals, [], builtinsNs)
def sv_check_part : He.FnW := some ("_check_part", "_check_part", defArgs s_check_part, .stmts (defBody s_check_part), defScope s_check_part, mainGlobals, [], builtinsNs)
def sv_Word_init : He.FnW := some ("__init__", "Word.__init__", defArgs s_Word_init, .stmts (defBody s_Word_init), defScope s_Word_init, mainGlobals, [], builtinsNs)
def sv_is_integer : He.FnW := some ("is_integer", "is_integer", defArgs s_is_integer, .stmts (defBody s_is_integer), defScope s_is_integer, mainGlobals, [], builtinsNs)
def sv_Rule_init : He.FnW := some ("__init__", "Rule.__init__", defArgs s_Rule_init, .stmts (defBody s_Rule_init), defScope s_Rule_init, mainGlobals, [], builtinsNs)
def sv_rule : He.FnW := some ("_law_rule", "_law_rule", defArgs s_rule, .stmts (defBody s_rule), defScope s_rule, mainGlobals, [], builtinsNs)
def sv_meetings : He.FnW := some ("_law_meetings", "_law_meetings", defArgs s_meetings, .stmts (defBody s_meetings), defScope s_meetings, mainGlobals, [], builtinsNs)
def sv_Word_least : He.FnW := some ("least", "Word.least", defArgs s_Word_least, .stmts (defBody s_Word_least), defScope s_Word_least, mainGlobals, [], builtinsNs)
def sv_Rule_least_size : He.FnW := some ("least_size", "Rule.least_size", defArgs s_Rule_least_size, .stmts (defBody s_Rule_least_size), defScope s_Rule_least_size, mainGlobals, [], builtinsNs)
def sv_is_size : He.FnW := some ("is_size", "is_size", defArgs s_is_size, .stmts (defBody s_is_size), defScope s_is_size, mainGlobals, [], builtinsNs)
def sv_check_size : He.FnW := some ("check_size", "check_size", defArgs s_check_size, .stmts (defBody s_check_size), defScope s_check_size, mainGlobals, [], builtinsNs)
def sv_is_count : He.FnW := some ("is_count", "is_count", defArgs s_is_count, .stmts (defBody s_is_count), defScope s_is_count, mainGlobals, [], builtinsNs)
def sv_check_team : He.FnW := some ("check_team", "check_team", defArgs s_check_team, .stmts (defBody s_check_team), defScope s_check_team, mainGlobals, [], builtinsNs)
def sv_check_pair : He.FnW := some ("check_pair", "check_pair", defArgs s_check_pair, .stmts (defBody s_check_pair), defScope s_check_pair, mainGlobals, [], builtinsNs)
def sv_Rule_step : He.FnW := some ("step", "Rule.step", defArgs s_Rule_step, .stmts (defBody s_Rule_step), defScope s_Rule_step, mainGlobals, [], builtinsNs)
def sv_rounds_at : He.FnW := some ("_rounds_at", "_rounds_at", defArgs s_rounds_at, .stmts (defBody s_rounds_at), defScope s_rounds_at, mainGlobals, [], builtinsNs)
def sv_rounds_of : He.FnW := some ("rounds_of", "rounds_of", defArgs s_rounds_of, .stmts (defBody s_rounds_of), defScope s_rounds_of, mainGlobals, [], builtinsNs)
def sv_is_rightP : He.FnW := some ("_is_right", "_is_right", defArgs s_is_rightP, .stmts (defBody s_is_rightP), defScope s_is_rightP, mainGlobals, [], builtinsNs)
def sv_is_right : He.FnW := some ("is_right", "is_right", defArgs s_is_right, .stmts (defBody s_is_right), defScope s_is_right, mainGlobals, [], builtinsNs)
def sv_right : He.FnW := some ("_law_right", "_law_right", defArgs s_right, .stmts (defBody s_right), defScope s_right, mainGlobals, [], builtinsNs)
def sv_pot : He.FnW := some ("_law_pot", "_law_pot", defArgs s_pot, .stmts (defBody s_pot), defScope s_pot, mainGlobals, [], builtinsNs)
def sv_law : He.FnW := some ("law", "law", defArgs s_law, .stmts (defBody s_law), defScope s_law, mainGlobals, [], builtinsNs)
def ts_CONTRARY_STANDERS : He.Tab := (xa_DCONTRARY_STANDERS, [("home" : Str), ("away" : Str), ("even" : Str), ("odd" : Str)])
def gx0 (K : PySem.W.Frag) : Bool := decide ((PySem.W.nsIn K mainGlobals "_law_spots" = some (some (.ref (xa_Aspots K)))) ∧ (dfR K (xa_Aspots K) = some .none) ∧ (PySem.W.codeIn K (cdR K (xa_Aspots K)) "_law_spots" = true) ∧ (PySem.W.keepIn K (.ref (xa_Aspots K)) = true) ∧ (PySem.W.nsIn K mainGlobals "_law_draw" = some (some (.ref (xa_Adraw K)))) ∧ (dfR K (xa_Adraw K) = some .none) ∧ (PySem.W.codeIn K (cdR K (xa_Adraw K)) "_law_draw" = true) ∧ (PySem.W.keepIn K (.ref (xa_Adraw K)) = true) ∧ (PySem.W.nsIn K mainGlobals "_law_pick" = some (some (.ref (xa_Apick K)))) ∧ (dfR K (xa_Apick K) = some .none))
def gx1 (K : PySem.W.Frag) : Bool := decide ((PySem.W.codeIn K (cdR K (xa_Apick K)) "_law_pick" = true) ∧ (PySem.W.keepIn K (.ref (xa_Apick K)) = true) ∧ (PySem.W.nsIn K mainGlobals "_law_signs" = some (some (.ref (xa_Asigns K)))) ∧ (dfR K (xa_Asigns K) = some .none) ∧ (PySem.W.codeIn K (cdR K (xa_Asigns K)) "_law_signs" = true) ∧ (PySem.W.keepIn K (.ref (xa_Asigns K)) = true) ∧ (PySem.W.nsIn K mainGlobals "_law_model" = some (some (.ref (xa_Amodel K)))) ∧ (dfR K (xa_Amodel K) = some .none) ∧ (PySem.W.codeIn K (cdR K (xa_Amodel K)) "_law_model" = true) ∧ (PySem.W.keepIn K (.ref (xa_Amodel K)) = true))
def gx2 (K : PySem.W.Frag) : Bool := decide ((PySem.W.nsIn K mainGlobals "_law_least" = some (some (.ref (xa_Aleast K)))) ∧ (dfR K (xa_Aleast K) = some .none) ∧ (PySem.W.codeIn K (cdR K (xa_Aleast K)) "_law_least" = true) ∧ (PySem.W.keepIn K (.ref (xa_Aleast K)) = true) ∧ (PySem.W.nsIn K mainGlobals "is_marks" = some (some (.ref (xa_Ais_marks K)))) ∧ (dfR K (xa_Ais_marks K) = some .none) ∧ (PySem.W.codeIn K (cdR K (xa_Ais_marks K)) "is_marks" = true) ∧ (PySem.W.keepIn K (.ref (xa_Ais_marks K)) = true) ∧ (PySem.W.nsIn K mainGlobals "_check_part" = some (some (.ref (xa_Acheck_part K)))) ∧ (dfR K (xa_Acheck_part K) = some .none))
def gx3 (K : PySem.W.Frag) : Bool := decide ((PySem.W.codeIn K (cdR K (xa_Acheck_part K)) "_check_part" = true) ∧ (PySem.W.keepIn K (.ref (xa_Acheck_part K)) = true) ∧ (PySem.W.findIn K (.ref (xa_CWord K)) "__init__" = some (some (.ref (xa_AWord_init K)))) ∧ (PySem.W.isFn K (.ref (xa_AWord_init K)) = true) ∧ (dfR K (xa_AWord_init K) = some .none) ∧ (PySem.W.codeIn K (cdR K (xa_AWord_init K)) "Word.__init__" = true) ∧ (PySem.W.keepIn K (.ref (xa_AWord_init K)) = true) ∧ (PySem.W.nsIn K mainGlobals "is_integer" = some (some (.ref (xa_Ais_integer K)))) ∧ (dfR K (xa_Ais_integer K) = some .none) ∧ (PySem.W.codeIn K (cdR K (xa_Ais_integer K)) "is_integer" = true))
def gx4 (K : PySem.W.Frag) : Bool := decide ((PySem.W.keepIn K (.ref (xa_Ais_integer K)) = true) ∧ (PySem.W.findIn K (.ref (xa_CRule K)) "__init__" = some (some (.ref (xa_ARule_init K)))) ∧ (PySem.W.isFn K (.ref (xa_ARule_init K)) = true) ∧ (tuR K (xa_TRule_init K) = some [.bool false]) ∧ (dfR K (xa_ARule_init K) = some (.ref (xa_TRule_init K))) ∧ (PySem.W.codeIn K (cdR K (xa_ARule_init K)) "Rule.__init__" = true) ∧ (PySem.W.keepIn K (.ref (xa_ARule_init K)) = true) ∧ (PySem.W.nsIn K mainGlobals "_law_rule" = some (some (.ref (xa_Arule K)))) ∧ (dfR K (xa_Arule K) = some .none) ∧ (PySem.W.codeIn K (cdR K (xa_Arule K)) "_law_rule" = true))
def gx5 (K : PySem.W.Frag) : Bool := decide ((PySem.W.keepIn K (.ref (xa_Arule K)) = true) ∧ (PySem.W.nsIn K mainGlobals "_law_meetings" = some (some (.ref (xa_Ameetings K)))) ∧ (dfR K (xa_Ameetings K) = some .none) ∧ (PySem.W.codeIn K (cdR K (xa_Ameetings K)) "_law_meetings" = true) ∧ (PySem.W.keepIn K (.ref (xa_Ameetings K)) = true) ∧ (PySem.W.findIn K (.ref (xa_CWord K)) "least" = some (some (.ref (xa_PWord_least K)))) ∧ (PySem.W.specialIn K (.ref (xa_PWord_least K)) "__get__" = some (some (.builtin "property.__get__"))) ∧ (PySem.W.takesIn K (.ref (xa_PWord_least K)) = some true) ∧ (rcB K (xa_PWord_least K) "property" = true) ∧ (dfR K (xa_AWord_least K) = some .none))
def gx6 (K : PySem.W.Frag) : Bool := decide ((PySem.W.codeIn K (cdR K (xa_AWord_least K)) "Word.least" = true) ∧ (PySem.W.keepIn K (.ref (xa_AWord_least K)) = true) ∧ (PySem.W.findIn K (.ref (xa_CRule K)) "least_size" = some (some (.ref (xa_PRule_least_size K)))) ∧ (PySem.W.specialIn K (.ref (xa_PRule_least_size K)) "__get__" = some (some (.builtin "property.__get__"))) ∧ (PySem.W.takesIn K (.ref (xa_PRule_least_size K)) = some true) ∧ (rcB K (xa_PRule_least_size K) "property" = true) ∧ (dfR K (xa_ARule_least_size K) = some .none) ∧ (PySem.W.codeIn K (cdR K (xa_ARule_least_size K)) "Rule.least_size" = true) ∧ (PySem.W.keepIn K (.ref (xa_ARule_least_size K)) = true) ∧ (PySem.W.nsIn K mainGlobals "is_size" = some (some (.ref (xa_Ais_size K)))))
def gx7 (K : PySem.W.Frag) : Bool := decide ((dfR K (xa_Ais_size K) = some .none) ∧ (PySem.W.codeIn K (cdR K (xa_Ais_size K)) "is_size" = true) ∧ (PySem.W.keepIn K (.ref (xa_Ais_size K)) = true) ∧ (PySem.W.nsIn K mainGlobals "check_size" = some (some (.ref (xa_Acheck_size K)))) ∧ (dfR K (xa_Acheck_size K) = some .none) ∧ (PySem.W.codeIn K (cdR K (xa_Acheck_size K)) "check_size" = true) ∧ (PySem.W.keepIn K (.ref (xa_Acheck_size K)) = true) ∧ (PySem.W.nsIn K mainGlobals "is_count" = some (some (.ref (xa_Ais_count K)))) ∧ (dfR K (xa_Ais_count K) = some .none) ∧ (PySem.W.codeIn K (cdR K (xa_Ais_count K)) "is_count" = true))
def gx8 (K : PySem.W.Frag) : Bool := decide ((PySem.W.keepIn K (.ref (xa_Ais_count K)) = true) ∧ (PySem.W.nsIn K mainGlobals "check_team" = some (some (.ref (xa_Acheck_team K)))) ∧ (dfR K (xa_Acheck_team K) = some .none) ∧ (PySem.W.codeIn K (cdR K (xa_Acheck_team K)) "check_team" = true) ∧ (PySem.W.keepIn K (.ref (xa_Acheck_team K)) = true) ∧ (PySem.W.nsIn K mainGlobals "check_pair" = some (some (.ref (xa_Acheck_pair K)))) ∧ (dfR K (xa_Acheck_pair K) = some .none) ∧ (PySem.W.codeIn K (cdR K (xa_Acheck_pair K)) "check_pair" = true) ∧ (PySem.W.keepIn K (.ref (xa_Acheck_pair K)) = true) ∧ (PySem.W.findIn K (.ref (xa_CRule K)) "step" = some (some (.ref (xa_PRule_step K)))))
def gx9 (K : PySem.W.Frag) : Bool := decide ((PySem.W.specialIn K (.ref (xa_PRule_step K)) "__get__" = some (some (.builtin "property.__get__"))) ∧ (PySem.W.takesIn K (.ref (xa_PRule_step K)) = some true) ∧ (rcB K (xa_PRule_step K) "property" = true) ∧ (dfR K (xa_ARule_step K) = some .none) ∧ (PySem.W.codeIn K (cdR K (xa_ARule_step K)) "Rule.step" = true) ∧ (PySem.W.keepIn K (.ref (xa_ARule_step K)) = true) ∧ (PySem.W.nsIn K mainGlobals "_rounds_at" = some (some (.ref (xa_Arounds_at K)))) ∧ (dfR K (xa_Arounds_at K) = some .none) ∧ (PySem.W.codeIn K (cdR K (xa_Arounds_at K)) "_rounds_at" = true) ∧ (PySem.W.keepIn K (.ref (xa_Arounds_at K)) = true))
def gx10 (K : PySem.W.Frag) : Bool := decide ((PySem.W.nsIn K mainGlobals "rounds_of" = some (some (.ref (xa_Arounds_of K)))) ∧ (dfR K (xa_Arounds_of K) = some .none) ∧ (PySem.W.codeIn K (cdR K (xa_Arounds_of K)) "rounds_of" = true) ∧ (PySem.W.keepIn K (.ref (xa_Arounds_of K)) = true) ∧ (PySem.W.nsIn K mainGlobals "_is_right" = some (some (.ref (xa_Ais_rightP K)))) ∧ (dfR K (xa_Ais_rightP K) = some .none) ∧ (PySem.W.codeIn K (cdR K (xa_Ais_rightP K)) "_is_right" = true) ∧ (PySem.W.keepIn K (.ref (xa_Ais_rightP K)) = true) ∧ (PySem.W.nsIn K mainGlobals "is_right" = some (some (.ref (xa_Ais_right K)))) ∧ (dfR K (xa_Ais_right K) = some .none))
def gx11 (K : PySem.W.Frag) : Bool := decide ((PySem.W.codeIn K (cdR K (xa_Ais_right K)) "is_right" = true) ∧ (PySem.W.keepIn K (.ref (xa_Ais_right K)) = true) ∧ (PySem.W.nsIn K mainGlobals "_law_right" = some (some (.ref (xa_Aright K)))) ∧ (dfR K (xa_Aright K) = some .none) ∧ (PySem.W.codeIn K (cdR K (xa_Aright K)) "_law_right" = true) ∧ (PySem.W.keepIn K (.ref (xa_Aright K)) = true) ∧ (PySem.W.nsIn K mainGlobals "_law_pot" = some (some (.ref (xa_Apot K)))) ∧ (dfR K (xa_Apot K) = some .none) ∧ (PySem.W.codeIn K (cdR K (xa_Apot K)) "_law_pot" = true) ∧ (PySem.W.keepIn K (.ref (xa_Apot K)) = true))
def gx12 (K : PySem.W.Frag) : Bool := decide ((PySem.W.nsIn K mainGlobals "law" = some (some (.ref (xa_Alaw K)))) ∧ (dfR K (xa_Alaw K) = some .none) ∧ (PySem.W.codeIn K (cdR K (xa_Alaw K)) "law" = true) ∧ (PySem.W.keepIn K (.ref (xa_Alaw K)) = true) ∧ (PySem.W.nsIn K mainGlobals "Word" = some (some (.ref (xa_CWord K)))) ∧ (PySem.W.plainGet K (xa_CWord K) Str.empty = true) ∧ (PySem.W.hasDictIn K (xa_CWord K) = true) ∧ (PySem.W.plainOver K (xa_CWord K) = true) ∧ (PySem.W.findIn K (.ref (xa_CWord K)) "__setattr__" = some (some (.builtin "object.__setattr__"))) ∧ (PySem.W.makesIn K (xa_CWord K) = true))
def gx13 (K : PySem.W.Frag) : Bool := decide ((PySem.W.keepIn K (.ref (xa_CWord K)) = true) ∧ (PySem.W.findIn K (.ref (xa_CWord K)) "_head" = some none) ∧ (PySem.W.findIn K (.ref (xa_CWord K)) "_middle" = some none) ∧ (PySem.W.findIn K (.ref (xa_CWord K)) "_tail" = some none) ∧ (PySem.W.nsIn K mainGlobals "Rule" = some (some (.ref (xa_CRule K)))) ∧ (PySem.W.plainGet K (xa_CRule K) Str.empty = true) ∧ (PySem.W.hasDictIn K (xa_CRule K) = true) ∧ (PySem.W.plainOver K (xa_CRule K) = true) ∧ (PySem.W.findIn K (.ref (xa_CRule K)) "__setattr__" = some (some (.builtin "object.__setattr__"))) ∧ (PySem.W.makesIn K (xa_CRule K) = true))
def gx14 (K : PySem.W.Frag) : Bool := decide ((PySem.W.keepIn K (.ref (xa_CRule K)) = true) ∧ (PySem.W.findIn K (.ref (xa_CRule K)) "_step" = some none) ∧ (PySem.W.findIn K (.ref (xa_CRule K)) "_word" = some none) ∧ (PySem.W.findIn K (.ref (xa_CRule K)) "_stander" = some none) ∧ (PySem.W.findIn K (.ref (xa_CRule K)) "_turned" = some none) ∧ (PySem.W.nsIn K mainGlobals "CONTRARY_STANDERS" = some (some (.ref (xa_DCONTRARY_STANDERS K)))) ∧ (PySem.W.nsIn K (xa_DCONTRARY_STANDERS K) "odd" = some (some (.str "even" (tkI (PySem.W.nsIn K (xa_DCONTRARY_STANDERS K) "odd"))))) ∧ (PySem.W.nsIn K (xa_DCONTRARY_STANDERS K) "even" = some (some (.str "odd" (tkI (PySem.W.nsIn K (xa_DCONTRARY_STANDERS K) "even"))))) ∧ (PySem.W.nsIn K (xa_DCONTRARY_STANDERS K) "away" = some (some (.str "home" (tkI (PySem.W.nsIn K (xa_DCONTRARY_STANDERS K) "away"))))) ∧ (PySem.W.nsIn K (xa_DCONTRARY_STANDERS K) "home" = some (some (.str "away" (tkI (PySem.W.nsIn K (xa_DCONTRARY_STANDERS K) "home"))))))
def gx15 (K : PySem.W.Frag) : Bool := decide ((PySem.W.nsIn K mainGlobals "abs" = some none) ∧ (PySem.W.nsIn K mainGlobals "all" = some none) ∧ (PySem.W.nsIn K mainGlobals "any" = some none) ∧ (PySem.W.nsIn K mainGlobals "bool" = some none) ∧ (PySem.W.nsIn K mainGlobals "dict" = some none) ∧ (PySem.W.nsIn K mainGlobals "divmod" = some none) ∧ (PySem.W.nsIn K mainGlobals "enumerate" = some none) ∧ (PySem.W.nsIn K mainGlobals "int" = some none) ∧ (PySem.W.nsIn K mainGlobals "isinstance" = some none) ∧ (PySem.W.nsIn K mainGlobals "len" = some none))
def gx16 (K : PySem.W.Frag) : Bool := decide ((PySem.W.nsIn K mainGlobals "list" = some none) ∧ (PySem.W.nsIn K mainGlobals "max" = some none) ∧ (PySem.W.nsIn K mainGlobals "min" = some none) ∧ (PySem.W.nsIn K mainGlobals "range" = some none) ∧ (PySem.W.nsIn K mainGlobals "repr" = some none) ∧ (PySem.W.nsIn K mainGlobals "set" = some none) ∧ (PySem.W.nsIn K mainGlobals "sorted" = some none) ∧ (PySem.W.nsIn K mainGlobals "str" = some none) ∧ (PySem.W.nsIn K mainGlobals "sum" = some none) ∧ (PySem.W.nsIn K mainGlobals "tuple" = some none))
def gx17 (K : PySem.W.Frag) : Bool := decide ((PySem.W.nsIn K mainGlobals "zip" = some none) ∧ (PySem.W.nsIn K mainGlobals "gcd" = some (some (.builtin "math.gcd"))) ∧ (PySem.W.nsIn K mainGlobals "MOST_MARKS" = some (some (.int 4 (tkI (PySem.W.nsIn K mainGlobals "MOST_MARKS"))))) ∧ (PySem.W.nsIn K mainGlobals "MOST_STEP" = some (some (.int 7 (tkI (PySem.W.nsIn K mainGlobals "MOST_STEP"))))))
def gxa (K : PySem.W.Frag) : Bool := gx0 K && (gx1 K && (gx2 K && (gx3 K && (gx4 K && (gx5 K && (gx6 K && (gx7 K && (gx8 K))))))))
def gxb (K : PySem.W.Frag) : Bool := gx9 K && (gx10 K && (gx11 K && (gx12 K && (gx13 K && (gx14 K && (gx15 K && (gx16 K && (gx17 K))))))))
def fnL0 : List (PySem.W.Frag → Addr) := [xa_Aspots, xa_Adraw, xa_Apick, xa_Asigns, xa_Amodel, xa_Aleast, xa_Ais_marks, xa_Acheck_part, xa_AWord_init, xa_Ais_integer, xa_ARule_init, xa_Arule, xa_Ameetings, xa_AWord_least, xa_ARule_least_size, xa_Ais_size, xa_Acheck_size, xa_Ais_count, xa_Acheck_team, xa_Acheck_pair]
def fnL1 : List (PySem.W.Frag → Addr) := [xa_ARule_step, xa_Arounds_at, xa_Arounds_of, xa_Ais_rightP, xa_Ais_right, xa_Aright, xa_Apot, xa_Alaw]
def fnL : List (PySem.W.Frag → Addr) := fnL0 ++ (fnL1)
def fnV0 : List He.FnW := [sv_spots, sv_draw, sv_pick, sv_signs, sv_model, sv_least, sv_is_marks, sv_check_part, sv_Word_init, sv_is_integer, sv_Rule_init, sv_rule, sv_meetings, sv_Word_least, sv_Rule_least_size, sv_is_size, sv_check_size, sv_is_count, sv_check_team, sv_check_pair]
def fnV1 : List He.FnW := [sv_Rule_step, sv_rounds_at, sv_rounds_of, sv_is_rightP, sv_is_right, sv_right, sv_pot, sv_law]
def fnV : List He.FnW := fnV0 ++ (fnV1)
def tsL0 : List He.Tab := [ts_CONTRARY_STANDERS]
def tsL : List He.Tab := tsL0
def looseL0 : List PySem.Str := ["_wall", "__name__", "LeagueError", "InvalidPlace", "InvalidMarks", "InvalidStep", "InvalidStander", "InvalidTurned", "InvalidSize", "InvalidTeam", "LimitError", "TooMany", "is_integer", "is_count", "is_marks", "is_size", "check_size", "check_team", "check_pair", "rounds_of"]
def looseL1 : List PySem.Str := ["is_right", "_rounds_at", "_is_right", "MOST_STEP", "CONTRARY_STANDERS", "Rule", "_turned_text", "MOST_MARKS", "MOST_PLACES", "Word", "_check_part", "_check_places", "_law_pot", "_law_draw", "_law_pick", "_law_signs", "_law_model", "_law_rule", "_law_least", "_law_spots"]
def looseL2 : List PySem.Str := ["_law_meetings", "_law_right"]
def looseL : List PySem.Str := looseL0 ++ (looseL1 ++ (looseL2))
abbrev RR : PySem.W.OpenRow := PySem.W.OpenLaw.row PySem.Challenge.rw_ringrows_k33_whole_pairs_met_by_all_roun
abbrev qV : Program := PySem.W.view RR.prog [0, 48]
abbrev hk : PySem.W.Hook := hkR 4000 (fun K => gxa K && gxb K) fnL fnV tsL
abbrev ob : PySem.W.SharedT → hk.α := obF 4000 gxa gxb fnL tsL
set_option maxHeartbeats 0 in
theorem runA_false (w : World) : (endI RR.prog (w.withFollow "special-get-raises" false)).map (fun x => (HandSHeadRun.looksF RR.prog x.1.heap x.2.abs, HandSHeadRun.seenQ qV looseL (importedModules RR.prog.main.body) (fun s => PySem.W.xlAt qV [] s && PySem.W.recOk RR.toRowW.records s) x.2.abs)) = some (true, PySem.W.openGood qV looseL) := by
  kernel_rfl
set_option maxHeartbeats 0 in
theorem runBa_false (w : World) : (endI RR.prog (w.withFollow "special-get-raises" false)).map (fun x => obA 4000 gxa x.2) = some true := by
  kernel_rfl
set_option maxHeartbeats 0 in
theorem runBb_false (w : World) : (endI RR.prog (w.withFollow "special-get-raises" false)).map (fun x => obA 4000 gxb x.2) = some true := by
  kernel_rfl
set_option maxHeartbeats 0 in
theorem runC_false (w : World) : (endI RR.prog (w.withFollow "special-get-raises" false)).map (fun x => obB 4000 fnL tsL x.2) = some (fnV, tsL.map fun t => some (He.keysIn (w.withFollow "special-get-raises" false).params t.2)) := by
  kernel_rfl
theorem run_false (w : World) : HandSHeadRun.RunEqI RR qV hk ob 60000 looseL (w.withFollow "special-get-raises" false) := runEqI_of (runA_false w) (runBa_false w) (runBb_false w) (runC_false w)
set_option maxHeartbeats 0 in
theorem runA_true (w : World) : (endI RR.prog (w.withFollow "special-get-raises" true)).map (fun x => (HandSHeadRun.looksF RR.prog x.1.heap x.2.abs, HandSHeadRun.seenQ qV looseL (importedModules RR.prog.main.body) (fun s => PySem.W.xlAt qV [] s && PySem.W.recOk RR.toRowW.records s) x.2.abs)) = some (true, PySem.W.openGood qV looseL) := by
  kernel_rfl
set_option maxHeartbeats 0 in
theorem runBa_true (w : World) : (endI RR.prog (w.withFollow "special-get-raises" true)).map (fun x => obA 4000 gxa x.2) = some true := by
  kernel_rfl
set_option maxHeartbeats 0 in
theorem runBb_true (w : World) : (endI RR.prog (w.withFollow "special-get-raises" true)).map (fun x => obA 4000 gxb x.2) = some true := by
  kernel_rfl
set_option maxHeartbeats 0 in
theorem runC_true (w : World) : (endI RR.prog (w.withFollow "special-get-raises" true)).map (fun x => obB 4000 fnL tsL x.2) = some (fnV, tsL.map fun t => some (He.keysIn (w.withFollow "special-get-raises" true).params t.2)) := by
  kernel_rfl
theorem run_true (w : World) : HandSHeadRun.RunEqI RR qV hk ob 60000 looseL (w.withFollow "special-get-raises" true) := runEqI_of (runA_true w) (runBa_true w) (runBb_true w) (runC_true w)
theorem run (w : World) : HandSHeadRun.RunEqI RR qV hk ob 60000 looseL w := PySem.W.byRow2 "special-get-raises" (P := fun w => HandSHeadRun.RunEqI RR qV hk ob 60000 looseL w) run_false run_true w
end Lw
namespace Rx
open PySem PySem.Spec PyProof.Rows L2

inductive D where
  | v (x : V)
  | lst (xs : List D)
  | tup (xs : List D)
  | ins (C : Addr) (ns : List Str) (xs : List D)
  | dct (ks : List Key) (xs : List D)
  | dcT (ks : List (List Key)) (xs : List D)

mutual
def rep (ms : List Addr) (H : Hp) : D → V → Prop
  | .v x, u => u = x
  | .lst ds, u => ∃ p vs, u = .ref p ∧ p ∉ ms ∧ H p = some (.lst vs) ∧ repL ms H ds vs
  | .tup ds, u => ∃ p vs, u = .ref p ∧ p ∉ ms ∧ H p = some (.tup vs) ∧ repL ms H ds vs
  | .ins C ns ds, u => ∃ p dx vs, u = .ref p ∧ p ∉ ms ∧ H p = some (.ins C dx (ns.zip vs)) ∧ ns.length = vs.length ∧ repL ms H ds vs
  | .dct ks ds, u => ∃ p vs, u = .ref p ∧ p ∉ ms ∧ H p = some (.dK (ks.zip vs)) ∧ ks.length = vs.length ∧ repL ms H ds vs
  | .dcT ks ds, u => ∃ p vs, u = .ref p ∧ p ∉ ms ∧ H p = some (.dT (ks.zip vs)) ∧ ks.length = vs.length ∧ repL ms H ds vs
def repL (ms : List Addr) (H : Hp) : List D → List V → Prop
  | [], vs => vs = []
  | d :: ds, vs => ∃ u us, vs = u :: us ∧ rep ms H d u ∧ repL ms H ds us
end

mutual
theorem rep_map {ms ms' : List Addr} {H H' : Hp} (f : ∀ p o, p ∉ ms → H p = some o → p ∉ ms' ∧ H' p = some o) : ∀ (d : D) (u : V), rep ms H d u → rep ms' H' d u
  | .v x, u, h => by
    simp only [rep] at h ⊢
    exact h
  | .lst ds, u, h => by
    simp only [rep] at h ⊢
    obtain ⟨p, vs, e, n, hp, hl⟩ := h
    exact ⟨p, vs, e, (f p _ n hp).1, (f p _ n hp).2, repL_map f ds vs hl⟩
  | .tup ds, u, h => by
    simp only [rep] at h ⊢
    obtain ⟨p, vs, e, n, hp, hl⟩ := h
    exact ⟨p, vs, e, (f p _ n hp).1, (f p _ n hp).2, repL_map f ds vs hl⟩
  | .ins C ns ds, u, h => by
    simp only [rep] at h ⊢
    obtain ⟨p, dx, vs, e, n, hp, hn, hl⟩ := h
    exact ⟨p, dx, vs, e, (f p _ n hp).1, (f p _ n hp).2, hn, repL_map f ds vs hl⟩
  | .dct ks ds, u, h => by
    simp only [rep] at h ⊢
    obtain ⟨p, vs, e, n, hp, hn, hl⟩ := h
    exact ⟨p, vs, e, (f p _ n hp).1, (f p _ n hp).2, hn, repL_map f ds vs hl⟩
  | .dcT ks ds, u, h => by
    simp only [rep] at h ⊢
    obtain ⟨p, vs, e, n, hp, hn, hl⟩ := h
    exact ⟨p, vs, e, (f p _ n hp).1, (f p _ n hp).2, hn, repL_map f ds vs hl⟩
theorem repL_map {ms ms' : List Addr} {H H' : Hp} (f : ∀ p o, p ∉ ms → H p = some o → p ∉ ms' ∧ H' p = some o) : ∀ (ds : List D) (us : List V), repL ms H ds us → repL ms' H' ds us
  | [], us, h => by
    simp only [repL] at h ⊢
    exact h
  | d :: ds, us, h => by
    simp only [repL] at h ⊢
    obtain ⟨u, vs, e, h1, h2⟩ := h
    exact ⟨u, vs, e, rep_map f d u h1, repL_map f ds vs h2⟩
end

theorem repL_len {ms : List Addr} {H : Hp} : ∀ {ds : List D} {vs : List V}, repL ms H ds vs → ds.length = vs.length
  | [], vs, h => by
    simp only [repL] at h
    rw [h]
    rfl
  | d :: ds, vs, h => by
    simp only [repL] at h
    obtain ⟨u, us, e, _, h2⟩ := h
    rw [e]
    show ds.length + 1 = us.length + 1
    rw [repL_len h2]
theorem repL_get {ms : List Addr} {H : Hp} : ∀ {ds : List D} {vs : List V} {j : Nat} {d : D}, repL ms H ds vs → ds[j]? = some d → ∃ v, vs[j]? = some v ∧ rep ms H d v
  | [], vs, j, d, h, e => by simp at e
  | d0 :: ds, vs, 0, d, h, e => by
    simp only [repL] at h
    obtain ⟨u, us, rfl, h1, _⟩ := h
    have e' : d0 = d := Option.some.inj e
    subst e'
    exact ⟨u, rfl, h1⟩
  | d0 :: ds, vs, j + 1, d, h, e => by
    simp only [repL] at h
    obtain ⟨u, us, rfl, _, h2⟩ := h
    exact repL_get (j := j) h2 (by simpa using e)
theorem repL_app {ms : List Addr} {H : Hp} : ∀ {ds es : List D} {vs us : List V}, repL ms H ds vs → repL ms H es us → repL ms H (ds ++ es) (vs ++ us)
  | [], es, vs, us, h, h' => by
    simp only [repL] at h
    rw [h]
    exact h'
  | d :: ds, es, vs, us, h, h' => by
    simp only [repL] at h
    obtain ⟨u, ws, rfl, h1, h2⟩ := h
    show repL ms H (d :: (ds ++ es)) (u :: (ws ++ us))
    simp only [repL]
    exact ⟨u, ws ++ us, rfl, h1, repL_app h2 h'⟩
theorem repL_one {ms : List Addr} {H : Hp} {d : D} {u : V} (h : rep ms H d u) : repL ms H [d] [u] := by
  simp only [repL]
  exact ⟨u, [], rfl, h, rfl⟩
theorem repL_nil {ms : List Addr} {H : Hp} : repL ms H [] [] := by simp only [repL]
theorem repL_cons {ms : List Addr} {H : Hp} {d : D} {u : V} {ds : List D} {us : List V} (h : rep ms H d u) (t : repL ms H ds us) : repL ms H (d :: ds) (u :: us) := by
  simp only [repL]
  exact ⟨u, us, rfl, h, t⟩
theorem rep_v {ms : List Addr} {H : Hp} {x : V} : rep ms H (.v x) x := by simp only [rep]
theorem of_v {ms : List Addr} {H : Hp} {x u : V} (h : rep ms H (.v x) u) : u = x := by
  simp only [rep] at h
  exact h
theorem repL_flat {ms : List Addr} {H : Hp} : ∀ {xs vs : List V}, repL ms H (xs.map D.v) vs ↔ vs = xs
  | [], vs => by simp only [List.map_nil, repL]
  | x :: xs, vs => by
    simp only [List.map_cons, repL]
    constructor
    · rintro ⟨u, us, rfl, h1, h2⟩
      rw [of_v h1, repL_flat.mp h2]
    · rintro rfl
      exact ⟨x, xs, rfl, rep_v, repL_flat.mpr rfl⟩

def PotH (H : Hp) (a : Addr) : Prop := ∃ i j : Int, H a = some (.lst [.int i, .int j]) ∧ j.natAbs < 4294967296
abbrev PEn := Addr × Option Str
abbrev ad (ps : List PEn) : List Addr := ps.map Prod.fst
def EntH (H : Hp) (p : PEn) : Prop := match p.2 with
  | none => PotH H p.1
  | some q => LamX.TabS H p.1 q
theorem ent_ne {H : Hp} {p : PEn} {o : HO} (h : EntH H p) (e : H p.1 = some o) : (∃ xs, o = .lst xs) ∨ ∃ xs, o = .tbl xs := by
  obtain ⟨a, k⟩ := p
  cases k with
  | none =>
    obtain ⟨i, j, h1, _⟩ := h
    rw [h1] at e
    cases e
    exact .inl ⟨_, rfl⟩
  | some q =>
    obtain ⟨xs, h1, _⟩ := h
    rw [h1] at e
    cases e
    exact .inr ⟨_, rfl⟩
theorem ent_some {H : Hp} {p : PEn} (h : EntH H p) : H p.1 ≠ none := fun z => by
  obtain ⟨a, k⟩ := p
  cases k with
  | none =>
    obtain ⟨i, j, h1, _⟩ := h
    rw [z] at h1
    cases h1
  | some q =>
    obtain ⟨xs, h1, _⟩ := h
    rw [z] at h1
    cases h1
theorem ent_stay {H H' : Hp} {p : PEn} (h : EntH H p) (f : ∀ o, H p.1 = some o → H' p.1 = some o) (g : ∀ c q, H c = some (LamX.CodeO c q) → H' c = some (LamX.CodeO c q)) : EntH H' p := by
  obtain ⟨a, k⟩ := p
  cases k with
  | none =>
    obtain ⟨i, j, h1, h2⟩ := h
    exact ⟨i, j, f _ h1, h2⟩
  | some q =>
    obtain ⟨xs, h1, h2, h3⟩ := h
    exact ⟨xs, f _ h1, h2, fun pos cv hc => by
      obtain ⟨c, e1, e2⟩ := h3 pos cv hc
      exact ⟨c, e1, g c q e2⟩⟩
structure Ret (ps : List PEn) (H H' : Hp) : Prop where
  kp : ∀ a o, a ∉ ad ps → H a = some o → H' a = some o
  pot : ∀ a ∈ ps, EntH H' a
  grow : ∀ a, H a ≠ none → H' a ≠ none
abbrev Ext (H H' : Hp) : Prop := Ret [] H H'
theorem Ret.rfl0 {H : Hp} : Ret [] H H := ⟨fun _ _ _ h => h, fun _ h => absurd h List.not_mem_nil, fun _ h => h⟩
theorem Ext.keep {H H' : Hp} (e : Ext H H') {a : Addr} {o : HO} (h : H a = some o) : H' a = some o := e.kp a o (by simp) h
theorem Ext.new {H : Hp} {p : Addr} {o : HO} (np : H p = none) : Ext H (upd H p o) := by
  refine ⟨fun a u _ h => ?_, fun _ h => absurd h List.not_mem_nil, fun a h => ?_⟩
  · rw [upd_ne (ne_of_none h np)]
    exact h
  · by_cases e : a = p
    · rw [e, upd_same]
      exact fun z => nomatch z
    · rw [upd_ne e]
      exact h
structure Wd (ms : List Addr) (ps : List PEn) (cs : List (Addr × List V)) (H0 H : Hp) : Prop where
  kp : ∀ a o, a ∉ ad ps → H0 a = some o → H a = some o
  grow : ∀ a, H0 a ≠ none → H a ≠ none
  tr : ∀ m ∈ ms, H m ≠ none
  pot : ∀ a ∈ ps, EntH H a
  pm : ∀ a ∈ ad ps, a ∈ ms
  cel : ∀ c ∈ cs, H c.1 = some (.lst c.2) ∧ c.1 ∈ ms ∧ c.1 ∉ ad ps ∧ H0 c.1 = none

section
variable {ms : List Addr} {ps ps' : List PEn} {cs : List (Addr × List V)} {H0 H H' : Hp} {d : D} {u : V}
theorem ad_mem {ps ps' : List PEn} (hs : ∀ a ∈ ps', a ∈ ps) {a : Addr} (h : a ∈ ad ps') : a ∈ ad ps := by
  obtain ⟨p, hp, rfl⟩ := List.mem_map.mp h
  exact List.mem_map.mpr ⟨p, hs p hp, rfl⟩
theorem mem_ad {ps : List PEn} {p : PEn} (h : p ∈ ps) : p.1 ∈ ad ps := List.mem_map.mpr ⟨p, h, rfl⟩
theorem Wd.ret (hs : ∀ a ∈ ps', a ∈ ps) (hu : ∀ p ∈ ps, p.1 ∈ ad ps' → p ∈ ps') (w : Wd ms ps cs H0 H) (e : Ret ps' H H') : Wd ms ps cs H0 H' where
  kp := fun a o n h => e.kp a o (fun z => n (ad_mem hs z)) (w.kp a o n h)
  grow := fun a h => e.grow a (w.grow a h)
  tr := fun m h => e.grow m (w.tr m h)
  pot := fun p h => by
    by_cases z : p ∈ ps'
    · exact e.pot p z
    · refine ent_stay (w.pot p h) (fun o ho => e.kp _ o (fun y => z (hu p h y)) ho) fun c q hc => e.kp _ _ (fun y => ?_) hc
      obtain ⟨p2, h2, e2⟩ := List.mem_map.mp y
      have := w.pot p2 (hs p2 h2)
      rw [← e2] at hc
      rcases ent_ne this hc with ⟨xs, hx⟩ | ⟨xs, hx⟩ <;> cases hx
  pm := w.pm
  cel := fun c h => by
    obtain ⟨h1, h2, h3, h4⟩ := w.cel c h
    exact ⟨e.kp _ _ (fun z => h3 (ad_mem hs z)) h1, h2, h3, h4⟩
theorem Wd.ret0 (w : Wd ms ps cs H0 H) (e : Ret [] H H') : Wd ms ps cs H0 H' := w.ret (fun _ h => absurd h List.not_mem_nil) (fun _ _ h => absurd h List.not_mem_nil) e
theorem Wd.retP (w : Wd ms ps cs H0 H) (e : Ret ps H H') : Wd ms ps cs H0 H' := w.ret (fun _ h => h) (fun _ h _ => h) e
theorem Wd.enter0 (w : Wd ms ps cs H0 H) : Wd ms [] [] H H := ⟨fun _ _ _ h => h, fun _ h => h, w.tr, fun _ h => absurd h List.not_mem_nil, fun _ h => absurd h List.not_mem_nil, fun _ h => absurd h List.not_mem_nil⟩
theorem Wd.enterP (w : Wd ms ps cs H0 H) : Wd ms ps [] H H := ⟨fun _ _ _ h => h, fun _ h => h, w.tr, w.pot, w.pm, fun _ h => absurd h List.not_mem_nil⟩
theorem Wd.out (w : Wd ms ps cs H0 H) : Ret ps H0 H := ⟨w.kp, w.pot, w.grow⟩
theorem rep_ret (w : Wd ms ps cs H0 H) (e : Ret ps H H') (h : rep ms H d u) : rep ms H' d u := rep_map (fun p o n hp => ⟨n, e.kp p o (fun z => n (w.pm p z)) hp⟩) d u h
theorem rep_ext (e : Ret [] H H') (h : rep ms H d u) : rep ms H' d u := rep_map (fun p o n hp => ⟨n, e.kp p o (by simp) hp⟩) d u h
theorem repL_ret {ds : List D} {us : List V} (w : Wd ms ps cs H0 H) (e : Ret ps H H') (h : repL ms H ds us) : repL ms H' ds us := repL_map (fun p o n hp => ⟨n, e.kp p o (fun z => n (w.pm p z)) hp⟩) ds us h
theorem repL_ext {ds : List D} {us : List V} (e : Ret [] H H') (h : repL ms H ds us) : repL ms H' ds us := repL_map (fun p o n hp => ⟨n, e.kp p o (by simp) hp⟩) ds us h
theorem Wd.cell {l : Addr} {xs : List V} (w : Wd ms ps cs H0 H) (nl : H l = none) : Wd (l :: ms) ps ((l, xs) :: cs) H0 (upd H l (.lst xs)) := by
  have e : Ext H (upd H l (.lst xs)) := Ext.new nl
  have w1 := w.ret0 e
  refine ⟨w1.kp, w1.grow, fun m h => ?_, w1.pot, fun a h => List.mem_cons_of_mem _ (w.pm a h), fun c h => ?_⟩
  · rcases List.mem_cons.mp h with rfl | h
    · rw [upd_same]
      exact fun z => nomatch z
    · exact w1.tr m h
  · rcases List.mem_cons.mp h with rfl | h
    · refine ⟨upd_same, List.mem_cons_self, fun z => ?_, ?_⟩
      · obtain ⟨p, hp, e2⟩ := List.mem_map.mp z
        exact ent_some (w.pot p hp) (by rw [e2]; exact nl)
      · show H0 l = none
        cases q : H0 l with
        | none => rfl
        | some o => exact absurd nl (w.grow l (by rw [q]; exact fun z => nomatch z))
    · obtain ⟨h1, h2, h3, h4⟩ := w1.cel c h
      exact ⟨h1, List.mem_cons_of_mem _ h2, h3, h4⟩
theorem rep_cell {l : Addr} {o : HO} (nl : H l = none) (h : rep ms H d u) : rep (l :: ms) (upd H l o) d u := by
  refine rep_map (fun p o n hp => ?_) d u h
  have ne : p ≠ l := ne_of_none hp nl
  refine ⟨fun z => ?_, by rw [upd_ne ne]; exact hp⟩
  rcases List.mem_cons.mp z with z | z
  · exact ne z
  · exact n z
theorem rep_put {l : Addr} {o : HO} (lm : l ∈ ms) (h : rep ms H d u) : rep ms (upd H l o) d u :=
  rep_map (fun p o n hp => ⟨n, by rw [upd_ne (fun z => n (by rw [z]; exact lm))]; exact hp⟩) d u h
theorem repL_put {ds : List D} {us : List V} {l : Addr} {o : HO} (lm : l ∈ ms) (h : repL ms H ds us) : repL ms (upd H l o) ds us :=
  repL_map (fun p o n hp => ⟨n, by rw [upd_ne (fun z => n (by rw [z]; exact lm))]; exact hp⟩) ds us h
theorem Wd.froze {l : Addr} {xs : List V} (w : Wd (l :: ms) ps ((l, xs) :: cs) H0 H) (hp : ∀ a ∈ ad ps, a ∈ ms) (hc : ∀ c ∈ cs, c.1 ∈ ms) : Wd ms ps cs H0 H :=
  ⟨w.kp, w.grow, fun m h => w.tr m (List.mem_cons_of_mem _ h), w.pot, hp, fun c h => by
    obtain ⟨h1, _, h3, h4⟩ := w.cel c (List.mem_cons_of_mem _ h)
    exact ⟨h1, hc c h, h3, h4⟩⟩
theorem repL_weak {ds : List D} {us : List V} {l : Addr} (h : repL (l :: ms) H ds us) : repL ms H ds us := repL_map (fun p o n hp => ⟨fun z => n (List.mem_cons_of_mem _ z), hp⟩) ds us h
end

def upE (t : TE) : TE := fun σ H Q => ∃ Q' : VK, t σ H Q' ∧ ∀ v H', Q' v H' → Q v H'
section
variable {X : Cx}
theorem pe_up {e : Expr} {t : TE} (h : PE X e t) : PE X e (upE t) := ⟨fun pins s σ H Q I ⟨Q', hq, m⟩ => thn (h.run pins s σ H Q' I hq) fun u s' ⟨v, H', I', r, q⟩ => ⟨v, H', I', r, m v H' q⟩⟩
end

def mapC {α β : Type} (body : α → (β → Prop) → Prop) : List α → List β → (List β → Prop) → Prop
  | [], acc, k => k acc
  | x :: xs, acc, k => body x fun y => mapC body xs (acc ++ [y]) k
def filC {α β : Type} (body : α → (Option β → Prop) → Prop) : List α → List β → (List β → Prop) → Prop
  | [], acc, k => k acc
  | x :: xs, acc, k => body x fun o => match o with
    | some y => filC body xs (acc ++ [y]) k
    | none => filC body xs acc k
def forC {α S : Type} (body : α → S → (S → Prop) → Prop) : List α → S → (S → Prop) → Prop
  | [], s, k => k s
  | x :: xs, s, k => body x s fun s' => forC body xs s' k
def rangeI (lo hi : Int) : List Int := (List.range (hi - lo).toNat).map fun i => lo + ((i : Nat) : Int)
theorem rangeI_len {lo hi : Int} : (rangeI lo hi).length = (hi - lo).toNat := by simp [rangeI]
theorem rangeI_get {lo hi : Int} {i : Nat} (h : i < (hi - lo).toNat) : (rangeI lo hi)[i]? = some (lo + (i : Int)) := by
  simp [rangeI, List.getElem?_map, List.getElem?_range h]
theorem drop_cons' {α : Type} {xs : List α} {i : Nat} {x : α} (h : xs[i]? = some x) : xs.drop i = x :: xs.drop (i + 1) := by
  obtain ⟨h1, h2⟩ := List.getElem?_eq_some_iff.mp h
  rw [List.drop_eq_getElem_cons h1, h2]

def Keep (ms : List Addr) (H H' : Hp) : Prop := ∀ a o, a ∉ ms → H a = some o → H' a = some o
section
variable {ms : List Addr} {ps : List PEn} {cs : List (Addr × List V)} {H0 H H1 H' : Hp} {d : D} {u : V}
theorem Keep.refl : Keep ms H H := fun _ _ _ h => h
theorem keep_ret (w : Wd ms ps cs H0 H) (e : Ret ps H H') (k : Keep ms H1 H) : Keep ms H1 H' := fun a o n h => e.kp a o (fun z => n (w.pm a z)) (k a o n h)
theorem keep_ext (e : Ret [] H H') (k : Keep ms H1 H) : Keep ms H1 H' := fun a o n h => e.kp a o (by simp) (k a o n h)
theorem keep_cell {l : Addr} {o : HO} (nl : H l = none) (k : Keep ms H1 H) : Keep (l :: ms) H1 (upd H l o) := fun a u n h => by
  rw [upd_ne (fun z => n (by rw [z]; exact List.mem_cons_self))]
  exact k a u (fun z => n (List.mem_cons_of_mem _ z)) h
theorem keep_put {l : Addr} {o : HO} (lm : l ∈ ms) (k : Keep ms H1 H) : Keep ms H1 (upd H l o) := fun a u n h => by
  rw [upd_ne (fun z => n (by rw [z]; exact lm))]
  exact k a u n h
theorem rep_keep (k : Keep ms H H') (h : rep ms H d u) : rep ms H' d u := rep_map (fun p o n hp => ⟨n, k p o n hp⟩) d u h
theorem repL_keep {ds : List D} {us : List V} (k : Keep ms H H') (h : repL ms H ds us) : repL ms H' ds us := repL_map (fun p o n hp => ⟨n, k p o n hp⟩) ds us h
end

theorem ite3 {c : Prop} [Decidable c] {A B P R : Prop} (h : if c then A else B) (h1 : A → P) (h2 : B → R) : if c then P else R := by
  by_cases q : c
  · rw [if_pos q] at h ⊢
    exact h1 h
  · rw [if_neg q] at h ⊢
    exact h2 h

section
variable {K : PySem.W.Frag} {ms : List Addr} {ps : List PEn} {cs : List (Addr × List V)} {H0 H : Hp} {d : D} {u x : V}
theorem rep_fld {C : Addr} {ns : List Str} {ds : List D} {f : Str} {Q : VK} {j : Nat} (h : rep ms H (.ins C ns ds) x) (c : Cls K C) (n : NoAttr K C f) (nd : ns.Nodup) (hn : ns[j]? = some f) (hd : ds[j]? = some d) (k : ∀ v, rep ms H d v → Q v H) :
    ∃ a C dx fs v, x = .ref a ∧ H a = some (.ins C dx fs) ∧ Cls K C ∧ NoAttr K C f ∧ fs.lookup f = some v ∧ Q v H := by
  simp only [rep] at h
  obtain ⟨p, dx, vs, e, _, hp, hl, hr⟩ := h
  obtain ⟨v, hv, rv⟩ := repL_get hr hd
  refine ⟨p, C, dx, _, v, e, hp, c, n, ?_, k v rv⟩
  clear hr hd hp e k rv
  induction ns generalizing vs j with
  | nil => simp at hn
  | cons n0 ns ih =>
    cases vs with
    | nil => simp at hv
    | cons v0 vs =>
      cases j with
      | zero =>
        have e1 : n0 = f := Option.some.inj hn
        have e2 : v0 = v := Option.some.inj hv
        subst e1 e2
        simp [List.lookup]
      | succ j =>
        have hn' : ns[j]? = some f := by simpa using hn
        have hv' : vs[j]? = some v := by simpa using hv
        have ne : f ≠ n0 := fun z => by
          subst z
          exact (List.nodup_cons.mp nd).1 (List.mem_of_getElem? hn')
        show ((n0, v0) :: ns.zip vs).lookup f = some v
        rw [List.lookup_cons, show (f == n0) = false from beq_eq_false_iff_ne.mpr ne]
        exact ih (List.nodup_cons.mp nd).2 hn' vs (by simpa using hl) hv'
theorem rep_prop {C : Addr} {ns : List Str} {ds : List D} {P : Addr → Prop} (h : rep ms H (.ins C ns ds) x) (k : ∀ a, rep ms H (.ins C ns ds) (.ref a) → P a) : ∃ a dx fs, x = .ref a ∧ H a = some (.ins C dx fs) ∧ P a := by
  have h' := h
  simp only [rep] at h
  obtain ⟨p, dx, vs, e, _, hp, hl, hr⟩ := h
  subst e
  exact ⟨p, dx, _, rfl, hp, k p h'⟩
theorem rep_ixT {ds : List D} {i : Int} (j : Nat) {σ : L2.St} {Q : VK} (h : rep ms H (.tup ds) x) (hi : i = (j : Int)) (hd : ds[j]? = some d) (k : ∀ v, rep ms H d v → Q v H) : tC (V.int i) σ H fun y H2 => rIxT K x y H2 Q := by
  subst hi
  simp only [rep] at h
  obtain ⟨p, vs, e, _, hp, hr⟩ := h
  obtain ⟨v, hv, rv⟩ := repL_get hr hd
  exact ⟨p, vs, _, v, e, rfl, .inl (.inl hp), atI_nat hv, k v rv⟩
theorem rep_ixL {α : Type} {e : α → D} {xs : List α} {i : Int} {Q : VK} (h : rep ms H (.lst (xs.map e)) x) (h0 : 0 ≤ i) (hi : i.toNat < xs.length) (k : ∀ v, rep ms H (e (xs[i.toNat]'hi)) v → Q v H) : rIxL K x (.int i) H Q := by
  simp only [rep] at h
  obtain ⟨p, vs, e', _, hp, hr⟩ := h
  obtain ⟨v, hv, rv⟩ := repL_get (d := e (xs[i.toNat]'hi)) hr (by rw [List.getElem?_map, List.getElem?_eq_getElem hi]; rfl)
  refine ⟨p, vs, i, v, e', rfl, .inl (.inl hp), at_of (j := i.toNat) (by omega) hv, k v rv⟩
theorem rep_lenL {α : Type} {e : α → D} {xs : List α} {P : Nat → Prop} (h : rep ms H (.lst (xs.map e)) x) (k : P xs.length) : ∃ y n, [x] = [y] ∧ LenV K y H n ∧ P n := by
  simp only [rep] at h
  obtain ⟨p, vs, e', _, hp, hr⟩ := h
  subst e'
  have hl := repL_len hr
  rw [List.length_map] at hl
  exact ⟨_, xs.length, rfl, .inl ⟨vs, .inl (.inl hp), hl⟩, k⟩
theorem rep_iter {ds : List D} {P : Addr → Prop} (h : rep ms H (.lst ds) x) (k : ∀ a xs, x = .ref a → a ∉ ms → H a = some (.lst xs) → repL ms H ds xs → P a) : ∃ a, x = .ref a ∧ (∃ xs, SqL K H a xs) ∧ P a := by
  simp only [rep] at h
  obtain ⟨p, vs, e, n, hp, hr⟩ := h
  exact ⟨p, e, ⟨vs, .inl (.inl hp)⟩, k p vs e n hp hr⟩
theorem rep_gtup {ds : List D} {n : Nat} {Q : L2.St → Hp → Prop} {t : TGs} {σ : L2.St} (h : rep ms H (.tup ds) x) (hn : ds.length = n) (k : ∀ vs, repL ms H ds vs → t vs σ H Q) : ∃ a xs, x = .ref a ∧ SqT K H a xs ∧ xs.length = n ∧ t xs σ H Q := by
  simp only [rep] at h
  obtain ⟨p, vs, e, _, hp, hr⟩ := h
  exact ⟨p, vs, e, .inl (.inl hp), by rw [← repL_len hr]; exact hn, k vs hr⟩
theorem rep_tup_mk {p : Addr} {ds : List D} {vs : List V} (w : Wd ms ps cs H0 H) (np : H p = none) (e : Ext H H') (hp : H' p = some (.tup vs)) (hr : repL ms H ds vs) : rep ms H' (.tup ds) (.ref p) := by
  simp only [rep]
  exact ⟨p, vs, rfl, fun z => w.tr p z np, hp, repL_ext e hr⟩
theorem rep_lst_mk {p : Addr} {ds : List D} {vs : List V} (w : Wd ms ps cs H0 H) (np : H p = none) (e : Ext H H') (hp : H' p = some (.lst vs)) (hr : repL ms H ds vs) : rep ms H' (.lst ds) (.ref p) := by
  simp only [rep]
  exact ⟨p, vs, rfl, fun z => w.tr p z np, hp, repL_ext e hr⟩
end

section
variable {α β : Type} {K : PySem.W.Frag} {ms : List Addr} {ps : List PEn} {cs : List (Addr × List V)} {H0 H1 : Hp} {g : TG} {tt : TT} {te : TE} {vl : List Nat} {σ : L2.St} {Qd : Hp → Prop}
structure Trn (ms : List Addr) (ps : List PEn) (cs : List (Addr × List V)) (H0 H1 : Hp) (L : Addr) (eb : β → D) (n : Nat) (ys : List β) (vs : List V) (H : Hp) : Prop where
  w : Wd (L :: ms) ps ((L, vs) :: cs) H0 H
  k : Keep (L :: ms) H1 H
  r : repL (L :: ms) H (ys.map eb) vs
  n : ys.length ≤ n
theorem Trn.start {L : Addr} {eb : β → D} (w : Wd ms ps cs H0 H1) (nl : H1 L = none) : Trn ms ps cs H0 H1 L eb 0 [] [] (upd H1 L (.lst [])) :=
  ⟨w.cell nl, fun a o n h => by rw [upd_ne (ne_of_none h nl)]; exact h, repL_nil, Nat.le_refl _⟩
theorem Trn.done {L : Addr} {eb : β → D} {n : Nat} {ys : List β} {vs : List V} {H : Hp} (w : Wd ms ps cs H0 H1) (nl : H1 L = none) (t : Trn ms ps cs H0 H1 L eb n ys vs H) : Wd ms ps cs H0 H ∧ Keep ms H1 H ∧ rep ms H (.lst (ys.map eb)) (.ref L) := by
  refine ⟨t.w.froze w.pm fun c h => (w.cel c h).2.1, fun a o n h => t.k a o (fun z => ?_) h, ?_⟩
  · rcases List.mem_cons.mp z with z | z
    · rw [z, nl] at h
      cases h
    · exact n z
  · simp only [rep]
    exact ⟨L, vs, rfl, fun z => w.tr L z nl, (t.w.cel _ List.mem_cons_self).1, repL_weak t.r⟩

end

section
variable {α β : Type} {K : PySem.W.Frag} {ms : List Addr} {ps : List PEn} {cs : List (Addr × List V)} {H0 H1 : Hp} {g : TG} {tt : TT} {te : TE} {vl : List Nat} {σ : L2.St} {Qd : Hp → Prop}
theorem Trn.skip {L : Addr} {eb : β → D} {n : Nat} {ys : List β} {vs : List V} {H : Hp} (t : Trn ms ps cs H0 H1 L eb n ys vs H) : Trn ms ps cs H0 H1 L eb (n + 1) ys vs H := ⟨t.w, t.k, t.r, Nat.le_succ_of_le t.n⟩
end

section
variable {α S : Type} {K : PySem.W.Frag} {ms : List Addr} {ps : List PEn} {H0 H1 : Hp} {g : TG} {tb : TS} {D' : Ends} {σ : L2.St} {cs : S → List (Addr × List V)}
end

section
variable {K : PySem.W.Frag} {ms : List Addr} {H : Hp} {d : D} {u x y : V}
theorem repL_uncons {ds : List D} {vs : List V} (h : repL ms H (d :: ds) vs) : ∃ u us, vs = u :: us ∧ rep ms H d u ∧ repL ms H ds us := by
  simp only [repL] at h
  exact h
theorem repL_empty {vs : List V} (h : repL ms H [] vs) : vs = [] := by
  simp only [repL] at h
  exact h
theorem repL_strs {ns : List Str} {vs : List V} (h : repL ms H (ns.map fun n => D.v (.str n)) vs) : vs = ns.map V.str := by
  have e : (ns.map fun n => D.v (.str n)) = (ns.map V.str).map D.v := by rw [List.map_map]; rfl
  rw [e] at h
  exact repL_flat.mp h
theorem repL_bls {ns : List Bool} {vs : List V} (h : repL ms H (ns.map fun n => D.v (.bl n)) vs) : vs = ns.map V.bl := by
  have e : (ns.map fun n => D.v (.bl n)) = (ns.map V.bl).map D.v := by rw [List.map_map]; rfl
  rw [e] at h
  exact repL_flat.mp h
theorem rep_join {a : Str} {ys : List Str} {P : Str → List Str → Prop} (h : rep ms H (.lst (ys.map fun n => D.v (.str n))) x) (hz : (ys.map (·.length)).sum + ys.length * a.length ≤ 16777216) (k : P a ys) :
    ∃ a' p, ∃ ys : List Str, V.str a = .str a' ∧ [x] = [.ref p] ∧ (SqL K H p (ys.map V.str) ∨ SqT K H p (ys.map V.str)) ∧ (ys.map (·.length)).sum + ys.length * a'.length ≤ 16777216 ∧ P a' ys := by
  simp only [rep] at h
  obtain ⟨p, vs, e, _, hp, hr⟩ := h
  have ev := repL_strs hr
  subst ev e
  exact ⟨a, p, ys, rfl, rfl, .inl (.inl (.inl hp)), hz, k⟩
theorem rep_all {ys : List Bool} {P : List Bool → Prop} (h : rep ms H (.lst (ys.map fun n => D.v (.bl n))) x) (k : P ys) : ∃ (a : Addr) (bs : List Bool), [x] = [V.ref a] ∧ SqL K H a (bs.map V.bl) ∧ P bs := by
  simp only [rep] at h
  obtain ⟨p, vs, e, _, hp, hr⟩ := h
  have ev := repL_bls hr
  subst ev e
  exact ⟨p, ys, rfl, .inl (.inl hp), k⟩
mutual
def pyOf : D → PyData
  | .v .non => .none
  | .v (.bl b) => .bool b
  | .v (.int i) => .int i
  | .v (.str z) => .str z
  | .v _ => .none
  | .lst ds => .list (pyL ds)
  | .tup ds => .tuple (pyL ds)
  | .ins _ _ _ => .none
  | .dct _ _ => .none
  | .dcT _ _ => .none
def pyL : List D → List PyData
  | [] => []
  | d :: ds => pyOf d :: pyL ds
def plainD : D → Bool
  | .v .non => true
  | .v (.bl _) => true
  | .v (.int _) => true
  | .v (.str _) => true
  | .v _ => false
  | .lst ds => plainL ds
  | .tup ds => plainL ds
  | .ins _ _ _ => false
  | .dct _ _ => false
  | .dcT _ _ => false
def plainL : List D → Bool
  | [] => true
  | d :: ds => plainD d && plainL ds
end
mutual
theorem dp_of : ∀ (d : D) (u : V), plainD d = true → rep ms H d u → Dp K H u (pyOf d)
  | .v x, u, p, h => by
    have e := of_v h
    subst e
    cases u <;> simp only [pyOf, plainD] at p ⊢ <;> first | exact .non | exact .bl _ | exact .int _ | exact .str _ | cases p
  | .lst ds, u, p, h => by
    simp only [rep] at h
    obtain ⟨a, vs, e, _, hp, hr⟩ := h
    subst e
    simp only [pyOf, plainD] at p ⊢
    exact .lst (.inl (.inl hp)) (dpL_of ds vs p hr)
  | .tup ds, u, p, h => by
    simp only [rep] at h
    obtain ⟨a, vs, e, _, hp, hr⟩ := h
    subst e
    simp only [pyOf, plainD] at p ⊢
    exact .tup (.inl (.inl hp)) (dpL_of ds vs p hr)
  | .ins _ _ _, u, p, h => by
    simp only [plainD] at p
    cases p
  | .dct _ _, u, p, h => by
    simp only [plainD] at p
    cases p
  | .dcT _ _, u, p, h => by
    simp only [plainD] at p
    cases p
theorem dpL_of : ∀ (ds : List D) (vs : List V), plainL ds = true → repL ms H ds vs → DpAll K H vs (pyL ds)
  | [], vs, p, h => by
    have e := repL_empty h
    subst e
    simp only [pyL]
    exact .nil
  | d :: ds, vs, p, h => by
    obtain ⟨u, us, e, h1, h2⟩ := repL_uncons h
    subst e
    simp only [plainL, Bool.and_eq_true] at p
    simp only [pyL]
    exact .cons (dp_of d u p.1 h1) (dpL_of ds us p.2 h2)
end
end

section
variable {ms : List Addr} {H H' H1 : Hp} {d : D} {u : V} {l : Addr}
theorem Keep.trans (a : Keep ms H1 H) (b : Keep ms H H') : Keep ms H1 H' := fun x o n h => b x o n (a x o n h)
theorem Keep.new (k : Keep ms H1 H) : Keep (l :: ms) H1 H := fun x o n h => k x o (fun z => n (List.mem_cons_of_mem _ z)) h
theorem rep_new (nl : H l = none) (h : rep ms H d u) : rep (l :: ms) H d u := rep_map (fun p o n hp => ⟨fun z => by
  rcases List.mem_cons.mp z with z | z
  · exact ne_of_none hp nl z
  · exact n z, hp⟩) d u h
theorem repL_new {ds : List D} {us : List V} (nl : H l = none) (h : repL ms H ds us) : repL (l :: ms) H ds us := repL_map (fun p o n hp => ⟨fun z => by
  rcases List.mem_cons.mp z with z | z
  · exact ne_of_none hp nl z
  · exact n z, hp⟩) ds us h
end

section
variable {X : Cx} {CX : CXT} {k : Nat} {f C : Addr} {fd : FuncData} {ps ks : List Str} {sp : Sp} {E : XK} {m : Str} {apos pos : Pos} {o : Expr} {kws : List Keyword} {ta : TE} {tk : TA} {g : List Value → List Value → List Value} {gV : List V → List V → List V}
end
end Rx
namespace Rx
open PySem PySem.Spec PyProof.Rows L2
theorem vals_getD : ∀ {zs : List V} {ws : List Value}, Vals zs ws → ∀ j : Nat, RelV (zs.getD j .non) (ws.getD j .none)
  | _, _, .nil, _ => rfl
  | _, _, .cons r _, 0 => r
  | _, _, .cons _ t, j + 1 => vals_getD t j
theorem tyes_of {σ : L2.St} {H : Hp} {A B : Hp → Prop} (h : A H) : tYes σ H fun b H3 => if b = true then A H3 else B H3 := by
  show (if true = true then A H else B H)
  rw [if_pos rfl]
  exact h
theorem Ret.keep {H H' : Hp} (e : Ret [] H H') {a : Addr} {o : HO} (h : H a = some o) : H' a = some o := e.kp a o (by simp) h
end Rx
namespace Rx
open PySem PySem.Spec PyProof.Rows L2
section
variable {X : Cx}
end

structure OwnEq (K : PySem.W.Frag) (C f : Addr) : Prop where
  hs : PySem.W.findIn K (.ref C) "__eq__" = some (some (.ref f))
  hf : PySem.W.isFn K (.ref f) = true
section
variable {K : PySem.W.Frag} {ms : List Addr} {ps : List PEn} {cs : List (Addr × List V)} {H H0 H1 : Hp} {d : D} {u x y : V}
structure IsC (K : PySem.W.Frag) (C : Addr) : Prop where
  cl : Cls K C
  ha : PySem.W.findIn K (.ref C) "__class__" = some (some (.builtin "object.__class__"))
  hn : PySem.W.specialIn K (.builtin "object.__class__") "__get__" = some (some (.builtin "getset_descriptor.__get__"))
  tk : PySem.W.takesIn K (.builtin "object.__class__") = some true
  hm : PySem.W.mroIn K C (.type "object") = some true
theorem kd_nil {w : World} {a : Addr} : ∀ z c : Str, ([] : List (Str × Str)).lookup z = some c → KDct K w a z (.str c) := fun _ _ h => by cases h
theorem kd_cons {w : World} {a : Addr} {k v : Str} {l : List (Str × Str)} (h : KDct K w a k (.str v)) (t : ∀ z c : Str, l.lookup z = some c → KDct K w a z (.str c)) : ∀ z c : Str, ((k, v) :: l).lookup z = some c → KDct K w a z (.str c) := by
  intro z c e
  rw [List.lookup_cons] at e
  by_cases q : (z == k) = true
  · rw [q] at e
    have e1 : v = c := Option.some.inj e
    subst e1
    rw [eq_of_beq q]
    exact h
  · have q' : (z == k) = false := by simpa using q
    rw [q'] at e
    exact t z c e
theorem rep_tyL {ds : List D} (h : rep ms H (.lst ds) x) : tyV K "list" x H := by
  simp only [rep] at h
  obtain ⟨p, vs, e, _, hp, hr⟩ := h
  subst e
  exact .inl ⟨rfl, vs, .inl (.inl hp)⟩
end
section
variable {β : Type} {K : PySem.W.Frag} {ms : List Addr} {ps : List PEn} {cs : List (Addr × List V)} {H0 H1 : Hp} {g : TG} {tt : TT} {te : TE} {vl : List Nat} {σ : L2.St} {Qd : Hp → Prop}
end
section
variable {M : Model} {prog : Program} {w : World} {A : Around} {E : Value → Shared → Prop} {s : Shared} {K : PySem.W.Frag} {x y C : Addr} {ox : Obj} {od : Option Obj}
end
structure OwnNe (K : PySem.W.Frag) (C : Addr) : Prop where
  hne : PySem.W.findIn K (.ref C) "__ne__" = some (some (.builtin "object.__ne__"))
  hm : PySem.W.mroIn K C (.type "object") = some true
mutual
def noL : D → Bool
  | .v _ => true
  | .lst _ => false
  | .tup ds => noLs ds
  | .ins _ _ ds => noLs ds
  | .dct _ ds => noLs ds
  | .dcT _ ds => noLs ds
def noLs : List D → Bool
  | [] => true
  | d :: ds => noL d && noLs ds
end
section
variable {ms : List Addr} {ps : List PEn} {cs : List (Addr × List V)} {H0 H H' : Hp} {L : Addr} {vs : List V}
mutual
theorem rep_lift0 (hL : H L = some (.lst vs)) : ∀ (d : D) (u : V), noL d = true → rep ms H d u → rep (L :: ms) H d u
  | .v x, u, _, h => by
    simp only [rep] at h ⊢
    exact h
  | .lst ds, u, n, h => by
    simp only [noL] at n
    cases n
  | .tup ds, u, n, h => by
    simp only [noL] at n
    simp only [rep] at h ⊢
    obtain ⟨p, us, e, np, hp, hl⟩ := h
    refine ⟨p, us, e, fun z => ?_, hp, repL_lift0 hL ds us n hl⟩
    rcases List.mem_cons.mp z with z | z
    · rw [z, hL] at hp
      cases hp
    · exact np z
  | .ins C ns ds, u, n, h => by
    simp only [noL] at n
    simp only [rep] at h ⊢
    obtain ⟨p, dx, us, e, np, hp, hn, hl⟩ := h
    refine ⟨p, dx, us, e, fun z => ?_, hp, hn, repL_lift0 hL ds us n hl⟩
    rcases List.mem_cons.mp z with z | z
    · rw [z, hL] at hp
      cases hp
    · exact np z
  | .dct ks ds, u, n, h => by
    simp only [noL] at n
    simp only [rep] at h ⊢
    obtain ⟨p, us, e, np, hp, hn, hl⟩ := h
    refine ⟨p, us, e, fun z => ?_, hp, hn, repL_lift0 hL ds us n hl⟩
    rcases List.mem_cons.mp z with z | z
    · rw [z, hL] at hp
      cases hp
    · exact np z
  | .dcT ks ds, u, n, h => by
    simp only [noL] at n
    simp only [rep] at h ⊢
    obtain ⟨p, us, e, np, hp, hn, hl⟩ := h
    refine ⟨p, us, e, fun z => ?_, hp, hn, repL_lift0 hL ds us n hl⟩
    rcases List.mem_cons.mp z with z | z
    · rw [z, hL] at hp
      cases hp
    · exact np z
theorem repL_lift0 (hL : H L = some (.lst vs)) : ∀ (ds : List D) (us : List V), noLs ds = true → repL ms H ds us → repL (L :: ms) H ds us
  | [], us, _, h => by
    simp only [repL] at h ⊢
    exact h
  | d :: ds, us, n, h => by
    simp only [noLs, Bool.and_eq_true] at n
    simp only [repL] at h ⊢
    obtain ⟨u, ws, e, h1, h2⟩ := h
    exact ⟨u, ws, e, rep_lift0 hL d u n.1 h1, repL_lift0 hL ds ws n.2 h2⟩
end
structure Mut (ms : List Addr) (ps : List PEn) (cs : List (Addr × List V)) (H0 H : Hp) (L : Addr) (ds : List D) : Prop where
  hp : L ∉ ad ps
  h0 : H0 L = none
  hc : ∀ c ∈ cs, c.1 ≠ L
  nm : L ∉ ms
  val : ∃ vs, H L = some (.lst vs) ∧ repL (L :: ms) H ds vs
variable {ds : List D} {d : D} {u : V}
end
section
variable {ms : List Addr} {ps : List PEn} {cs : List (Addr × List V)} {H0 H H1 H' : Hp} {L : Addr} {K : PySem.W.Frag} {x : V}
theorem keep_none {w : Wd ms ps cs H0 H} (nl : H L = none) (k : Keep ms H1 H) : H1 L = none := by
  have nL : L ∉ ms := fun z => w.tr L z nl
  cases q : H1 L with
  | none => rfl
  | some o =>
    have := k L o nL q
    rw [nl] at this
    cases this
end
theorem turn_long {P : Program} {w : World} {K : PySem.W.Frag} {tg : Expr} (it : Addr) (lo : Int) (n : Nat) : Turn P w K tg (Itr lo n) [it] it (fun i h => IsLongIter h it (lo + (i : Nat) * 1) ((n : Int) - (i : Nat)) 1) where
  mem := by simp
  obj := fun i h st b hb => by
    have e : b = it := by simpa using hb
    subst e
    exact ⟨_, st, fun v z => by
      have z' : Data.fields _ = Data.cell v := z
      cases z'⟩
  keep := fun i h h' st k => k it (by simp) _ st
  item := by
    intro X hP hw hK hc i pins s σ H E I hf st hg
    subst hP hw hK
    obtain ⟨f0, f1, f2, f3, f4, f5⟩ := hf it (by simp)
    have W := Walks.longrange (prog := X.prog) (w := X.w) (I.ok.hd hc) it lo 1 n
    refine W.item i s _ _ hg st fun v h' tk hv st' kk => ?_
    obtain ⟨t, rfl⟩ := hv
    have I1 : Inv X pins σ H { s with heap := h', toks := tk } := I.turned (fun b o hb e => kk b o (by simpa using hb) e) f0 f1 f3 f4 f5
    refine ⟨_, rfl, go_of (s := { s with heap := h', toks := tk }) (n := "longrange_iterator") st' rfl rfl (by decide) ⟨.int (lo + i), H, I1, ⟨t, ?_⟩, ⟨rfl, rfl⟩, st', fun b hb => (hf b hb).1⟩⟩
    rw [Int.mul_one]
  done := by
    intro X hP hw hK hc i pins s σ H E I hf st hg
    subst hP hw hK
    obtain ⟨f0, f1, f2, f3, f4, f5⟩ := hf it (by simp)
    exact wpAny_pyNext_long_end (I.ok.hd hc) st (by have : n ≤ i := hg; omega) fun h' eb => ⟨rfl, I.turned (t' := s.toks) (fun b o hb e => eb b o hb e) f0 f1 f3 f4 f5⟩
  self := fun _ _ _ _ _ st h => wpAny_pyIter_longiter st h
section
variable {X : Cx} {tg : Expr}
theorem range_itW {pins : List (Addr × Obj)} {σ : L2.St} {H : Hp} {s : Shared} {R : It → Hp → Prop} {E : Value → Shared → Prop} {lo hi : Int} {t u v : Tok} {tk : Nat} (I : Inv X pins σ H s)
    (q : R (Itr lo (hi - lo).toNat) H) : wpAny (model X.prog X.w) X.A (pyIter (.ref s.heap.objs.size)) (PIE X pins σ tg R) E { s with heap := s.heap.push { cls := .type "range", data := .fields #[.int lo t, .int hi u, .int 1 v] }, toks := tk } := by
  have I1 : Inv X pins σ H { s with heap := s.heap.push { cls := .type "range", data := .fields #[.int lo t, .int hi u, .int 1 v] }, toks := tk } := I.kept fun b o e => Heap.get?_push_of_some _ e
  have e1 : lo + ((0 : Nat) : Int) * 1 = lo := by simp
  have e2 : (((hi - lo).toNat : Nat) : Int) - ((0 : Nat) : Int) = Builtin.Range.rangeSize lo hi 1 := by rw [rangeSize_one]; split <;> omega
  cases hs : Builtin.Range.small lo hi 1 with
  | true =>
    refine wpAny_pyIter_range (IsRange.new ..) hs ?_
    refine ⟨(s.heap.push { cls := .type "range", data := .fields #[.int lo t, .int hi u, .int 1 v] }).objs.size, [(s.heap.push { cls := .type "range", data := .fields #[.int lo t, .int hi u, .int 1 v] }).objs.size], _, _, H, rfl,
      I1.kept (t' := tk) fun b o e => Heap.get?_push_of_some _ e, turn_range _ lo (hi - lo).toNat, ?_, fun b hb => ?_, q⟩
    · show IsRangeIter _ _ (lo + ((0 : Nat) : Int) * 1) ((((hi - lo).toNat : Nat) : Int) - ((0 : Nat) : Int)) 1
      rw [e1, e2]
      exact Heap.get?_push_size _ rfl
    · have e : b = (s.heap.push { cls := .type "range", data := .fields #[.int lo t, .int hi u, .int 1 v] }).objs.size := by simpa using hb
      subst e
      exact I1.fpOk (Nat.le_refl _) (I1.hok.fresh (Nat.le_refl _))
  | false =>
    refine wpAny_pyIter_longrange (IsRange.new ..) hs ?_
    refine ⟨(s.heap.push { cls := .type "range", data := .fields #[.int lo t, .int hi u, .int 1 v] }).objs.size, [(s.heap.push { cls := .type "range", data := .fields #[.int lo t, .int hi u, .int 1 v] }).objs.size], _, _, H, rfl,
      I1.kept (t' := tk) fun b o e => Heap.get?_push_of_some _ e, turn_long _ lo (hi - lo).toNat, ?_, fun b hb => ?_, q⟩
    · show IsLongIter _ _ (lo + ((0 : Nat) : Int) * 1) ((((hi - lo).toNat : Nat) : Int) - ((0 : Nat) : Int)) 1
      rw [e1, e2]
      exact Heap.get?_push_size _ rfl
    · have e : b = (s.heap.push { cls := .type "range", data := .fields #[.int lo t, .int hi u, .int 1 v] }).objs.size := by simpa using hb
      subst e
      exact I1.fpOk (Nat.le_refl _) (I1.hok.fresh (Nat.le_refl _))
def iRngW1 (ta : TA) : TI := fun σ H R => ta σ H fun vs H1 => ∃ j : Int, vs = [.int j] ∧ R (Itr 0 j.toNat) H1
def iRngW2 (ta : TA) : TI := fun σ H R => ta σ H fun vs H1 => ∃ i j : Int, vs = [.int i, .int j] ∧ R (Itr i (j - i).toNat) H1
theorem pi_rangeW1 {a : Expr} {ta : TA} {p pos : Pos} (hg : Gl X "range") (hm : X.mg "range" = none) (ha : PA X [a] ta) (hs : starEach [a] X.env = [(false, eval a X.env)] := by rfl) : PI X tg (.Call (.Name "range" p) [a] [] pos) (iRngW1 ta) := by
  refine ⟨fun pins s σ H R I h => ?_⟩
  refine Call_ (ld_blt I hg hm boot_range (PyProof.Rows.callWith_type1 (thn (ha.run pos pins s σ H _ I h) fun us s1 ⟨vs, H1, I1, r1, q1⟩ => ?_) hs rfl))
  obtain ⟨j, e, q⟩ := q1
  subst e
  cases r1 with
  | cons r rr =>
    cases rr
    obtain ⟨t, rfl⟩ := r
    exact call_range_1 (range_itW I1 (by simpa using q))
theorem pi_rangeW2 {a b : Expr} {ta : TA} {p pos : Pos} (hg : Gl X "range") (hm : X.mg "range" = none) (ha : PA X [a, b] ta) (hs : starEach [a, b] X.env = [(false, eval a X.env), (false, eval b X.env)] := by rfl) (hs2 : starEach [b] X.env = [(false, eval b X.env)] := by rfl) :
    PI X tg (.Call (.Name "range" p) [a, b] [] pos) (iRngW2 ta) := by
  refine ⟨fun pins s σ H R I h => ?_⟩
  refine Call_ (ld_blt I hg hm boot_range (PyProof.Rows.callWith_type1 (thn (ha.run pos pins s σ H _ I h) fun us s1 ⟨vs, H1, I1, r1, q1⟩ => ?_) (by rw [hs, hs2]) (by rw [hs2]; rfl)))
  obtain ⟨i, j, e, q⟩ := q1
  subst e
  cases r1 with
  | cons r rr =>
    cases rr with
    | cons r' rr =>
      cases rr
      obtain ⟨t, rfl⟩ := r
      obtain ⟨t', rfl⟩ := r'
      exact call_range_2 (range_itW I1 q)
end
end Rx
namespace Rx
open PySem PySem.Spec PyProof.Rows L2
structure FnG (P : Program) (w : World) (K : PySem.W.Frag) (mg : Str → Option Value) (base : Heap) (k : Nat) (f : Addr) (fd : FuncData) (ps : List Str) (sp : Sp) : Prop where
  len : ∀ vs H Q E, sp vs H Q E → vs.length = ps.length
  run : ∀ (A : Around), A.guards = some [] → Room k A → ∀ (outer : List Env) (s : Shared) (H : Hp) (args : Args) (us : List Value) (vs : List V) (Q : VK) (E : XK), Env0 P w K mg base A outer s H → BindsTo s fd args (ps.zip us) → Vals vs us → sp vs H Q E →
    codeAny (model P w) A (.call (.ref f) args) (CR CX0 outer P w H s Q E) s
theorem FnG.of {P : Program} {w : World} {K : PySem.W.Frag} {mg : Str → Option Value} {base : Heap} {k : Nat} {f : Addr} {fd : FuncData} {ps : List Str} {sp : Sp} (F : FnOk P w K mg base CX0 k f fd ps sp) : FnG P w K mg base k f fd ps sp :=
  ⟨F.len, fun A _ hr outer s H args us vs Q E => F.run A outer s H args us vs Q E hr⟩
section
variable {X : Cx} {k : Nat} {f : Addr} {fd : FuncData} {ps : List Str} {sp : Sp} {x : Str} {e : Expr} {es : List Expr} {p pos : Pos} {t : TA}
theorem runG {pins : List (Addr × Obj)} {σ : L2.St} {H : Hp} {s : Shared} {Q : VK} {us : List Value} {vs : List V} (F : FnG X.prog X.w X.K X.mg X.base k f fd ps sp) (hg : X.A.guards = some []) (hr : Room k X.A) (hb : Binds X.K fd ps [])
    (I : Inv X pins σ H s) (r : Vals vs us) (h : sp vs H Q E0) : wpAny (model X.prog X.w) X.A (call (.ref f) us) (EP X pins σ Q) X.xe s := by
  have hl : us.length = ps.length := r.length.symm.trans (F.len _ _ _ _ h)
  have bt := hb s us I.kIn (by rw [List.append_nil]; exact hl)
  rw [List.append_nil] at bt
  refine wpAny_call (codeAny_mono (F.run X.A hg hr X.stack s H ⟨us, []⟩ us vs Q E0 I.env0 bt r h) fun out s' hq => ?_)
  rcases out with err | fl
  · exact pass0 pins σ H s err s' I hq
  · rcases fl with _ | _ | _ | u
    all_goals first | exact I.after hq | exact hq.elim
theorem pe_callG (F : FnG X.prog X.w X.K X.mg X.base k f fd ps sp) (gu : X.A.guards = some []) (hr : Room k X.A) (hg : Gl X x) (hm : X.mg x = some (.ref f)) (hk : PySem.W.keepIn X.K (.ref f) = true) (hb : Binds X.K fd ps []) (ha : PA X (e :: es) t)
    (hdb : (x == ("__debug__" : Str)) = false := by decide) (he : starEach (e :: es) X.env = (false, eval e X.env) :: starEach es X.env := by rfl) (hpl : (backTo pos (starEach es X.env)).any (·.1) = false := by rfl) :
    PE X (.Call (.Name x p) (e :: es) [] pos) (tCall sp [] E0 t) :=
  ⟨fun pins s σ H Q I h => wpAny_Call_Name_kw (ld_glob I hg hm (PySem.W.callWith_K (h₀ := X.base) I.ok.mod.kin hk (thn (ha.run pos pins s σ H _ I h) fun us s1 ⟨vs, H1, I1, r, q⟩ => ⟨I1.kIn, runG F gu hr hb I1 r (by have q' : sp (vs ++ []) H1 Q E0 := q; rwa [List.append_nil] at q')⟩) he hpl) hdb)⟩
end
section
variable {P : Program} {w : World} {K : PySem.W.Frag} {mg : Str → Option Value} {base : Heap}
theorem okG {x qual : Str} {st : Stmt} {f : Addr} {fd : FuncData} {N ps : List Str} {k : Nat} {sp : Sp} (F : Fun K x qual st f fd) (S : FnScope N ps (defScope st)) (len : ∀ vs H Q E, sp vs H Q E → vs.length = ps.length)
    (hbody : ∀ (cdv : Value) (A : Around) (outer : List Env) (s : Shared) (H : Hp) (vs : List V) (Q : VK) (E : XK), A.guards = some [] → Room k (A.deeper (envOfC qual (defScope st) s.heap.objs.size f cdv)) → sp vs H Q E →
      ∃ t, PSs (cxOf CX0 P w K mg base N qual (defScope st) f cdv A outer s H E).nox (defBody st) t ∧ t { nx := fun _ H' => Q .non H', rt := Q } (start N vs) H) : FnG P w K mg base (k + 1) f fd ps sp := by
  obtain ⟨oc, od, kV, doc, pm, an, cdv, ct, osl, rfl, lk, hcd⟩ := F.ex
  refine ⟨len, fun A gu hr outer s H args us vs Q E en bt rv hs => ?_⟩
  have inK : K.In s.heap := en.mod.kin.keeps fun b o h => (en.bs b o h).1
  have names : ∀ y ∈ ps.zip us, (defScope st).names.lookup y.1 = some .local ∨ ((defScope st).names.lookup y.1 = some .cell ∧ ((cellsFrom (s.heap.objs.size + 1) (defScope st).names []).lookup y.1).isSome = true) := by
    rintro ⟨n, v⟩ hy
    exact (S.par n (List.of_mem_zip hy).1).imp id fun q => ⟨q, PySem.W.cellsFrom_some _ _ _ (.inl q)⟩
  refine codeAny_call_function hr.depth (inK _ _ lk) rfl S.co S.gen rfl (PySem.W.codeRec_of inK hcd) (bt _ _ _ _ (wpAny_newFunctionEnv_cells S.kind names fun env he s1 inner => ?_))
  subst he
  refine ⟨(en.mod.nolimit.keeps fun b o h => (en.bs b o h).1).keeps inner.toInCall.keep, codeAny_func ?_⟩
  obtain ⟨t, ht, hq⟩ := hbody cdv A outer s H vs Q E gu (hr.deeper _) hs
  have start0 : Inv (cxOf CX0 P w K mg base N qual (defScope st) f cdv A outer s H E) [] (start N vs) H s1 := inv_start S hr.hd en (len _ _ _ _ hs) rv inner
  have leave : ∀ {σ' : L2.St} {H' : Hp} {v : V} {u : Value} {s' : Shared}, Inv (cxOf CX0 P w K mg base N qual (defScope st) f cdv A outer s H E) [] σ' H' s' → RelV v u → Q v H' → CE outer P w H s Q u s' :=
    fun {σ' H' v u s'} J r q => ⟨v, H', J.os, J.bare, J.base, J.hok, r, q⟩
  refine wpAny_mono (ht.nox.run [] s1 (start N vs) H _ start0 hq) (fun fl s' hs' => ?_) fun _ _ h => h
  rcases fl with _ | _ | _ | u
  · obtain ⟨σ', H', J, q⟩ := hs'
    exact leave (v := V.non) (u := Value.none) J rfl q
  · obtain ⟨_, _, _, q⟩ := hs'
    exact q.elim
  · obtain ⟨_, _, _, q⟩ := hs'
    exact q.elim
  · obtain ⟨v, σ', H', J, r, q⟩ := hs'
    exact leave J r q
end
section
variable {P : Program} {w : World} {K : PySem.W.Frag} {mg mb : Str → Option Value} {k : Nat} {fa a : Addr} {fd : FuncData} {x : Str} {sp : Sp} {s1 : Shared} {vs : List Value} {ns : List Int}
abbrev EndG (h : Heap) (os : OsState) (r : Result) (s' : Shared) : Prop := r = .ok (.ret (.bool true)) ∧ OldK h s'.heap ∧ s'.os = os ∧ AllBare s'.gens
theorem callG_at (inK : K.In s1.heap) (top : s1.heap.Ns mainGlobals mg) (bl : s1.heap.Ns builtinsNs mb) (blb : ∀ x : Str, x ≠ "__name__" → mb x = bootBuiltins x) (nl : s1.heap.NoLimit) (ng : s1.gens = #[])
    (obj : s1.heap.get? a = some { cls := .type "list", data := .seq vs.toArray }) (hr : Room k callerA) (F : ∀ base : Heap, K.In base → base.Ns mainGlobals mg → FnG P w K mg base k fa fd [x] sp) (bind : ∀ (s : Shared) (u : Value), BindsTo s fd ⟨[u], []⟩ [(x, u)])
    {H : Hp} (only : Only H) (ok : HOk P w H s1.heap) (at_a : ∀ b, H b ≠ none → b = a) (own : H a ≠ none → K.lookup a = none) (q : sp [.ref a] H (fun v _ => v = .bl true) E0) :
    codeAny (model P w) callerA (.call (.ref fa) ⟨[.ref a], []⟩) (EndG s1.heap s1.os) s1 := by
  have told : ∀ b, H b = none ∨ b = a := fun b => (Classical.em (H b = none)).imp id (at_a b)
  have keepN : ∀ {b : Addr} {m : Str → Option Value}, s1.heap.Ns b m → (hidT s1.heap H).Ns b m := fun {b m} ⟨o, es, ep, e, d, r⟩ => ⟨o, es, ep, hidT_get e ((told b).elim id fun z => by
    subst z
    rw [obj] at e
    cases e
    cases (show Data.seq vs.toArray _ = Data.dict es ep from d)), d, r⟩
  have keepK : K.In (hidT s1.heap H) := fun b o e => hidT_get (inK b o e) ((told b).elim id fun z => by
    subst z
    exact Classical.byContradiction fun n => by
      rw [own n] at e
      cases e)
  have md : Mod K mg (hidT s1.heap H) := ⟨keepK, keepN top, ⟨mb, keepN bl, blb⟩, nl.imp fun _ h => ⟨keepN h.1, h.2⟩⟩
  have en : Env0 P w K mg (hidT s1.heap H) callerA [] s1 H := ⟨rfl, md, fun b o e => of_hidT e, Nat.le_of_eq (hidT_size _ _), trivial, fun b hb => (List.not_mem_nil hb).elim, ok, .of_eq ng⟩
  refine codeAny_mono ((F _ keepK (keepN top)).run callerA rfl hr [] s1 H ⟨[.ref a], []⟩ [.ref a] [.ref a] _ _ en (bind s1 (.ref a)) (.cons rfl .nil) q) fun r s' h => ?_
  rcases r with e | fl
  · exact (show False from h).elim
  · rcases fl with _ | _ | _ | u
    · exact (show False from h).elim
    · exact (show False from h).elim
    · exact (show False from h).elim
    · obtain ⟨v, H', os, bare, un, ok', rv, qv⟩ := h
      cases (show v = .bl true from qv)
      cases (show u = Value.bool true from rv)
      refine ⟨rfl, OldK.of_keep fun b o e => ?_, os, bare⟩
      rcases only b with z | ⟨ob, xs, z⟩
      · exact un.keep b o e z (List.not_mem_nil) (List.not_mem_nil)
      · have e1 := (ok b _ z).1
        have e2 := (ok' b _ (un.frzs b ob _ z)).1
        exact (Option.some.inj (e.symm.trans e1)) ▸ e2
theorem callG (inK : K.In s1.heap) (top : s1.heap.Ns mainGlobals mg) (bl : s1.heap.Ns builtinsNs mb) (blb : ∀ x : Str, x ≠ "__name__" → mb x = bootBuiltins x) (nl : s1.heap.NoLimit) (ng : s1.gens = #[])
    (obj : s1.heap.get? a = some { cls := .type "list", data := .seq vs.toArray }) (its0 : IntsAre vs ns) (small : ns.length ≤ sizeLine) (hr : Room k callerA) (F : ∀ base : Heap, K.In base → base.Ns mainGlobals mg → FnG P w K mg base k fa fd [x] sp)
    (bind : ∀ (s : Shared) (u : Value), BindsTo s fd ⟨[u], []⟩ [(x, u)]) (q : ∀ H : Hp, Only H → SqL K H a (ns.map V.int) → sp [.ref a] H (fun v _ => v = .bl true) E0) :
    codeAny (model P w) callerA (.call (.ref fa) ⟨[.ref a], []⟩) (EndG s1.heap s1.os) s1 := by
  have rv := vals_ints its0
  have lv := its0.length
  cases hk : K.lookup a with
  | some o =>
    have e := inK a o hk
    rw [obj] at e
    cases e
    have sq : SqL K (fun _ => none) a (ns.map V.int) := .inr ⟨_, vs.toArray, _, hk, rfl, rfl, rfl, by rw [List.size_toArray, lv]; exact small, by simpa using rv⟩
    exact callG_at inK top bl blb nl ng obj hr F bind (H := fun _ => none) (fun _ => .inl rfl) (fun b u z => nomatch (show (none : Option HO) = some u from z)) (fun b z => absurd rfl z) (fun z => absurd rfl z) (q _ (fun _ => .inl rfl) sq)
  | none =>
    generalize hH : (fun b => if b = a then some (HO.frz { cls := .type "list", data := .seq vs.toArray } (.lst (ns.map V.int))) else none : Hp) = H
    have here : H a = some (.frz { cls := .type "list", data := .seq vs.toArray } (.lst (ns.map V.int))) := by rw [← hH]; exact if_pos rfl
    have else_ : ∀ b, b ≠ a → H b = none := fun b n => by rw [← hH]; exact if_neg n
    have only : Only H := fun b => (Classical.em (b = a)).elim (fun e => .inr ⟨{ cls := .type "list", data := .seq vs.toArray }, ns.map V.int, by rw [e]; exact here⟩) fun n => .inl (else_ b n)
    refine callG_at inK top bl blb nl ng obj hr F bind only (fun b u z => ?_) (fun b z => Classical.byContradiction fun n => z (else_ b n)) (fun _ => hk) (q _ only (.inl (.inr ⟨_, here⟩)))
    by_cases e : b = a
    · subst e
      rw [here] at z
      cases z
      exact ⟨obj, by rw [List.length_map]; exact small, vs, _, rv, obj⟩
    · rw [else_ b e] at z
      cases z
end
def rReprD (K : PySem.W.Frag) : List V → Hp → VK → Prop := fun xs H Q => ∃ (a : Addr) (d : PyData), xs = [.ref a] ∧ Dp K H (.ref a) d ∧ d.showable = true ∧ d.hasDict = false ∧ d.depth ≤ 60 ∧ d.shown.length ≤ sizeLine ∧ Q (.str d.shown) H
theorem call_reprD {X : Cx} {k : Nat} (gu : X.A.guards = some []) (hr : Room k X.A) : CallR X (.builtin "repr") (rReprD X.K) := by
  intro pins s σ H xs us Q I r h
  obtain ⟨a, d, rfl, dp, sh, nd, dep, len, q⟩ := h
  obtain ⟨u, rfl, ru⟩ := r.one
  cases ru
  obtain ⟨as, rd⟩ := Dp.reads I d _ _ dp rfl
  have un := hr.un
  refine repr_of_reads' (h₀ := s.heap) rd sh (fun z => by rw [nd] at z; cases z) gu (by omega) (fun _ _ h => h) (fun h' u tk keep => ?_) len
  exact ⟨.str d.shown, H, I.kept keep, ⟨u, rfl⟩, q⟩
def rReprA (K : PySem.W.Frag) : List V → Hp → VK → Prop := fun xs H Q => ∃ (x : V) (d : PyData), xs = [x] ∧ Dp K H x d ∧ d.showable = true ∧ d.hasDict = false ∧ d.depth ≤ 60 ∧ d.shown.length ≤ sizeLine ∧ Q (.str d.shown) H
theorem call_reprA {X : Cx} {k : Nat} (gu : X.A.guards = some []) (hr : Room k X.A) : CallR X (.builtin "repr") (rReprA X.K) := by
  intro pins s σ H xs us Q I r h
  obtain ⟨x, d, rfl, dp, sh, nd, dep, len, q⟩ := h
  have big : ∀ a, x = .ref a → wpAny (model X.prog X.w) X.A (call (.builtin "repr") us) (EP X pins σ Q) X.xe s := fun a e => by
    subst e
    exact call_reprD gu hr pins s σ H _ us Q I r ⟨a, d, rfl, dp, sh, nd, dep, len, q⟩
  cases dp with
  | non =>
    obtain ⟨u, rfl, ru⟩ := r.one
    cases (show u = Value.none from ru)
    exact P.repr_of_none ⟨.str PyData.none.shown, H, I.tok _, ⟨_, rfl⟩, q⟩
  | bl b =>
    obtain ⟨u, rfl, ru⟩ := r.one
    cases (show u = Value.bool b from ru)
    exact P.repr_of_bool ⟨.str (PyData.bool b).shown, H, I.tok _, ⟨_, rfl⟩, q⟩
  | int i =>
    obtain ⟨u, rfl, t, rfl⟩ := r.one
    exact P.repr_of_int (of_decide_eq_true sh) ⟨.str (PyData.int i).shown, H, I.tok _, ⟨_, rfl⟩, q⟩
  | str z =>
    obtain ⟨u, rfl, t, rfl⟩ := r.one
    exact P.repr_of_str ⟨.str (PyData.str z).shown, H, I.tok _, ⟨_, rfl⟩, q⟩ len
  | lst _ _ => exact big _ rfl
  | tup _ _ => exact big _ rfl
section
variable {K : PySem.W.Frag} {ms : List Addr} {H : Hp} {d : D} {x : V}
theorem rep_repr {P : PyData → Prop} (h : rep ms H d x) (p : plainD d = true) (sh : (pyOf d).showable = true) (nd : (pyOf d).hasDict = false) (dep : (pyOf d).depth ≤ 60) (len : (pyOf d).shown.length ≤ sizeLine) (q : P (pyOf d)) :
    ∃ (x' : V) (d : PyData), [x] = [x'] ∧ Dp K H x' d ∧ d.showable = true ∧ d.hasDict = false ∧ d.depth ≤ 60 ∧ d.shown.length ≤ sizeLine ∧ P d :=
  ⟨x, _, rfl, dp_of (K := K) d x p h, sh, nd, dep, len, q⟩
end
section
variable {β : Type} {K : PySem.W.Frag} {ms : List Addr} {ps : List PEn} {cs : List (Addr × List V)} {H0 H1 : Hp} {g : TG} {tt : TT} {te : TE} {vl : List Nat} {σ : L2.St} {Qd : Hp → Prop}
variable {x : V} {H : Hp}
end
structure OwnText (K : PySem.W.Frag) (C : Addr) (name : Str) (f : Addr) : Prop where
  hs : PySem.W.findIn K (.ref C) name = some (some (.ref f))
  hf : PySem.W.isFn K (.ref f) = true
section
variable {X : Cx} {n : Nat} {CX : CXT} {C f : Addr} {fd : FuncData} {ps : List Str} {sp : Sp} {E : XK}
end
def tCallKw (n : Nat) (gV : List V → List V → List V) (sp : Sp) (E : XK) (tk : TA) : TE := fun σ H Q => tk σ H fun zs H1 => zs.length = n ∧ sp (gV [] zs) H1 Q E
theorem pe_callKw {X : Cx} {CX : CXT} {k : Nat} {f : Addr} {fd : FuncData} {ps ks : List Str} {sp : Sp} {E : XK} {x : Str} {p pos : Pos} {kws : List Keyword} {tk : TA} {g : List Value → List Value → List Value} {gV : List V → List V → List V}
    (F : FnOk X.prog X.w X.K X.mg X.base CX k f fd ps sp) (hr : Room k X.A) (hg : Gl X x) (hm : X.mg x = some (.ref f)) (hk : PySem.W.keepIn X.K (.ref f) = true) (hb : KBn X.K fd ps 0 ks g gV) (hx : Passes CX X E) (hkw : PK X kws tk)
    (hall : (backToKw pos (keywordEach kws X.env)).all (·.1.isSome) = true := by rfl) (hks : (backToKw pos (keywordEach kws X.env)).filterMap (·.1) = ks := by rfl) (hdb : (x == ("__debug__" : Str)) = false := by decide)
    (hpl : ((backTo pos (starEach [] X.env)).any (·.1) || (backToKw pos (keywordEach kws X.env)).any (·.1.isNone)) = false := by rfl) : PE X (.Call (.Name x p) [] kws pos) (tCallKw ks.length gV sp E tk) :=
  ⟨fun pins s σ H Q I h => wpAny_Call_Name_kw (ld_glob I hg hm (PySem.W.callWith_KW0 (first := []) (h₀ := X.base) I.ok.mod.kin hk hall (thn (hkw.run pos pins s σ H _ I h) fun ws s2 ⟨zs, H2, I2, rz, l2, q2⟩ => ⟨I2.kIn, by
    rw [hks]
    exact run_fnN (us := []) (vs := []) F hr hb hx I2 .nil rz rfl l2 q2⟩) hpl) hdb)⟩
end Rx
namespace Rx
open PySem PySem.Spec PyProof.Rows L2
section
variable {K : PySem.W.Frag} {ms : List Addr} {ps : List PEn} {cs : List (Addr × List V)} {H0 H H1 H' : Hp} {x : V} {ds : List D}
theorem wd_none {p : Addr} (w : Wd ms ps cs H0 H) (np : H p = none) : H0 p = none := by
  cases q : H0 p with
  | none => rfl
  | some o => exact absurd np (w.grow p (by rw [q]; exact fun z => nomatch z))
mutual
theorem rep_noL {L : Addr} {vs vs' : List V} (hL : H L = some (.lst vs)) : ∀ (d : D) (u : V), noL d = true → rep ms H d u → rep ms (upd H L (.lst vs')) d u
  | .v x, u, _, h => by
    simp only [rep] at h ⊢
    exact h
  | .lst ds, u, n, h => by
    simp only [noL] at n
    cases n
  | .tup ds, u, n, h => by
    simp only [noL] at n
    simp only [rep] at h ⊢
    obtain ⟨p, us, e, np, hp, hl⟩ := h
    refine ⟨p, us, e, np, ?_, repL_noL hL ds us n hl⟩
    rw [upd_ne (fun z => by rw [z, hL] at hp; cases hp)]
    exact hp
  | .ins C ns ds, u, n, h => by
    simp only [noL] at n
    simp only [rep] at h ⊢
    obtain ⟨p, dx, us, e, np, hp, hn, hl⟩ := h
    refine ⟨p, dx, us, e, np, ?_, hn, repL_noL hL ds us n hl⟩
    rw [upd_ne (fun z => by rw [z, hL] at hp; cases hp)]
    exact hp
  | .dct ks ds, u, n, h => by
    simp only [noL] at n
    simp only [rep] at h ⊢
    obtain ⟨p, us, e, np, hp, hn, hl⟩ := h
    refine ⟨p, us, e, np, ?_, hn, repL_noL hL ds us n hl⟩
    rw [upd_ne (fun z => by rw [z, hL] at hp; cases hp)]
    exact hp
  | .dcT ks ds, u, n, h => by
    simp only [noL] at n
    simp only [rep] at h ⊢
    obtain ⟨p, us, e, np, hp, hn, hl⟩ := h
    refine ⟨p, us, e, np, ?_, hn, repL_noL hL ds us n hl⟩
    rw [upd_ne (fun z => by rw [z, hL] at hp; cases hp)]
    exact hp
theorem repL_noL {L : Addr} {vs vs' : List V} (hL : H L = some (.lst vs)) : ∀ (ds : List D) (us : List V), noLs ds = true → repL ms H ds us → repL ms (upd H L (.lst vs')) ds us
  | [], us, _, h => by
    simp only [repL] at h ⊢
    exact h
  | d :: ds, us, n, h => by
    simp only [noLs, Bool.and_eq_true] at n
    simp only [repL] at h ⊢
    obtain ⟨u, ws, e, h1, h2⟩ := h
    exact ⟨u, ws, e, rep_noL hL d u n.1 h1, repL_noL hL ds ws n.2 h2⟩
end
end

section
variable {X : Cx} {K : PySem.W.Frag}
theorem ix_listK (hK : X.K = K) : IxR X (rIxL K) := by
  subst hK
  exact ix_list
theorem ix_tupK (hK : X.K = K) : IxR X (rIxT K) := by
  subst hK
  exact ix_tup
end
end Rx
namespace Rx
open PySem PySem.Spec PyProof.Rows L2
section
variable {K : PySem.W.Frag} {ms ms' : List Addr} {ps : List PEn} {H0 H H' H1 : Hp} {L L' : Addr} {d d' : D} {ds : List D} {u x : V} {vs : List V}
def valO (ms : List Addr) (H : Hp) (L : Addr) : D → Prop
  | .lst ds => ∃ vs, H L = some (.lst vs) ∧ repL ms H ds vs
  | .dct ks ds => ∃ vs, H L = some (.dK (ks.zip vs)) ∧ ks.length = vs.length ∧ repL ms H ds vs
  | .dcT ks ds => ∃ vs, H L = some (.dT (ks.zip vs)) ∧ ks.length = vs.length ∧ repL ms H ds vs
  | _ => False
theorem valO_map (f : ∀ p o, p ∉ ms → H p = some o → p ∉ ms' ∧ H' p = some o) (g : ∀ o, H L = some o → H' L = some o) : ∀ d : D, valO ms H L d → valO ms' H' L d
  | .lst ds, ⟨vs, h1, h2⟩ => ⟨vs, g _ h1, repL_map f ds vs h2⟩
  | .dct ks ds, ⟨vs, h1, h2, h3⟩ => ⟨vs, g _ h1, h2, repL_map f ds vs h3⟩
  | .dcT ks ds, ⟨vs, h1, h2, h3⟩ => ⟨vs, g _ h1, h2, repL_map f ds vs h3⟩
  | .v _, h => h
  | .tup _, h => h
  | .ins _ _ _, h => h
structure MutO (ms : List Addr) (ps : List PEn) (H0 H : Hp) (L : Addr) (d : D) : Prop where
  im : L ∈ ms
  hp : L ∉ ad ps
  h0 : H0 L = none
  val : valO ms H L d
theorem MutO.some (m : MutO ms ps H0 H L d) : ∃ o, H L = some o := by
  have h := m.val
  cases d with
  | lst ds => exact ⟨_, h.choose_spec.1⟩
  | dct ks ds => exact ⟨_, h.choose_spec.1⟩
  | dcT ks ds => exact ⟨_, h.choose_spec.1⟩
  | v _ => exact h.elim
  | tup _ => exact h.elim
  | ins _ _ _ => exact h.elim
theorem mo_ret (w : Wd ms ps [] H0 H) (e : Ret ps H H') (m : MutO ms ps H0 H L d) : MutO ms ps H0 H' L d :=
  ⟨m.im, m.hp, m.h0, valO_map (fun p o n hp => ⟨n, e.kp p o (fun z => n (w.pm p z)) hp⟩) (fun o h => e.kp L o m.hp h) d m.val⟩
theorem mo_ext (e : Ret [] H H') (m : MutO ms ps H0 H L d) : MutO ms ps H0 H' L d :=
  ⟨m.im, m.hp, m.h0, valO_map (fun p o n hp => ⟨n, e.kp p o (by simp) hp⟩) (fun o h => e.kp L o (by simp) h) d m.val⟩
theorem mo_ne (nl : H L = none) (m : MutO ms ps H0 H L' d) : L' ≠ L := fun z => by
  obtain ⟨o, h⟩ := m.some
  rw [z, nl] at h
  cases h
theorem mo_cell {o : HO} (nl : H L = none) (m : MutO ms ps H0 H L' d) : MutO (L :: ms) ps H0 (upd H L o) L' d :=
  ⟨List.mem_cons_of_mem _ m.im, m.hp, m.h0, valO_map (fun p o n hp => ⟨fun z => by
    rcases List.mem_cons.mp z with z | z
    · exact ne_of_none hp nl z
    · exact n z, by rw [upd_ne (ne_of_none hp nl)]; exact hp⟩) (fun o h => by rw [upd_ne (mo_ne nl m)]; exact h) d m.val⟩
theorem mo_put {o : HO} (lm : L ∈ ms) (ne : L' ≠ L) (m : MutO ms ps H0 H L' d) : MutO ms ps H0 (upd H L o) L' d :=
  ⟨m.im, m.hp, m.h0, valO_map (fun p o n hp => ⟨n, by rw [upd_ne (fun z => n (by rw [z]; exact lm))]; exact hp⟩) (fun o h => by rw [upd_ne ne]; exact h) d m.val⟩
theorem mo_sub (s : ∀ a ∈ ms', a ∈ ms) (i : L ∈ ms') (m : MutO ms ps H0 H L d) : MutO ms' ps H0 H L d :=
  ⟨i, m.hp, m.h0, valO_map (fun p o n hp => ⟨fun z => n (s p z), hp⟩) (fun o h => h) d m.val⟩
theorem rep_sub (s : ∀ a ∈ ms', a ∈ ms) (h : rep ms H d u) : rep ms' H d u := rep_map (fun p o n hp => ⟨fun z => n (s p z), hp⟩) d u h
theorem wd_sub (s : ∀ a ∈ ms', a ∈ ms) (hp : ∀ a ∈ ad ps, a ∈ ms') (w : Wd ms ps [] H0 H) : Wd ms' ps [] H0 H :=
  ⟨w.kp, w.grow, fun m h => w.tr m (s m h), w.pot, hp, fun _ h => absurd h List.not_mem_nil⟩
theorem mo_rep (n : L ∉ ms') (s : ∀ a ∈ ms', a ∈ ms) (m : MutO ms ps H0 H L d) : rep ms' H d (.ref L) := by
  have h := m.val
  cases d with
  | lst ds =>
    obtain ⟨vs, h1, h2⟩ := h
    simp only [rep]
    exact ⟨L, vs, rfl, n, h1, repL_map (fun p o n hp => ⟨fun z => n (s p z), hp⟩) ds vs h2⟩
  | dct ks ds =>
    obtain ⟨vs, h1, h2, h3⟩ := h
    simp only [rep]
    exact ⟨L, vs, rfl, n, h1, h2, repL_map (fun p o n hp => ⟨fun z => n (s p z), hp⟩) ds vs h3⟩
  | dcT ks ds =>
    obtain ⟨vs, h1, h2, h3⟩ := h
    simp only [rep]
    exact ⟨L, vs, rfl, n, h1, h2, repL_map (fun p o n hp => ⟨fun z => n (s p z), hp⟩) ds vs h3⟩
  | v _ => exact h.elim
  | tup _ => exact h.elim
  | ins _ _ _ => exact h.elim
theorem wd_cell {o : HO} (w : Wd ms ps [] H0 H) (nl : H L = none) : Wd (L :: ms) ps [] H0 (upd H L o) := by
  have w1 := w.ret0 (Ext.new (o := o) nl)
  refine ⟨w1.kp, w1.grow, fun m h => ?_, w1.pot, fun a h => List.mem_cons_of_mem _ (w.pm a h), fun _ h => absurd h List.not_mem_nil⟩
  rcases List.mem_cons.mp h with rfl | h
  · rw [upd_same]
    exact fun z => nomatch z
  · exact w1.tr m h
theorem pot_new (w : Wd ms ps [] H0 H) (nl : H L = none) : L ∉ ad ps := fun z => by
  obtain ⟨p, hp, e2⟩ := List.mem_map.mp z
  exact ent_some (w.pot p hp) (by rw [e2]; exact nl)
theorem nm_new (w : Wd ms ps [] H0 H) (nl : H L = none) : L ∉ ms := fun z => w.tr L z nl
theorem mo_newL (w : Wd ms ps [] H0 H) (nl : H L = none) (r : repL ms H ds vs) : MutO (L :: ms) ps H0 (upd H L (.lst vs)) L (.lst ds) :=
  ⟨List.mem_cons_self, pot_new w nl, wd_none w nl, vs, upd_same, repL_map (fun p o n hp => ⟨fun z => by
    rcases List.mem_cons.mp z with z | z
    · exact ne_of_none hp nl z
    · exact n z, by rw [upd_ne (ne_of_none hp nl)]; exact hp⟩) _ _ r⟩
theorem mo_newD {ks : List Key} (w : Wd ms ps [] H0 H) (nl : H L = none) (hl : ks.length = vs.length) (r : repL ms H ds vs) : MutO (L :: ms) ps H0 (upd H L (.dK (ks.zip vs))) L (.dct ks ds) :=
  ⟨List.mem_cons_self, pot_new w nl, wd_none w nl, vs, upd_same, hl, repL_map (fun p o n hp => ⟨fun z => by
    rcases List.mem_cons.mp z with z | z
    · exact ne_of_none hp nl z
    · exact n z, by rw [upd_ne (ne_of_none hp nl)]; exact hp⟩) _ _ r⟩
theorem mo_nc {c : Addr} {q : Str} (m : MutO ms ps H0 H L d) (h : H L = some (LamX.CodeO c q)) : False := by
  have v := m.val
  cases d with
  | lst ds =>
    obtain ⟨vs, e, _⟩ := v
    rw [h] at e
    cases e
  | dct ks ds =>
    obtain ⟨vs, e, _⟩ := v
    rw [h] at e
    cases e
  | dcT ks ds =>
    obtain ⟨vs, e, _⟩ := v
    rw [h] at e
    cases e
  | v _ => exact v
  | tup _ => exact v
  | ins _ _ _ => exact v
theorem wd_put {o : HO} (w : Wd ms ps [] H0 H) (m : MutO ms ps H0 H L d) : Wd ms ps [] H0 (upd H L o) := by
  refine ⟨fun a o' n h => ?_, fun a h => ?_, fun a h => ?_, fun a h => ?_, w.pm, fun _ h => absurd h List.not_mem_nil⟩
  · rw [upd_ne (ne_of_none h m.h0)]
    exact w.kp a o' n h
  · by_cases e : a = L
    · rw [e, upd_same]
      exact fun z => nomatch z
    · rw [upd_ne e]
      exact w.grow a h
  · by_cases e : a = L
    · rw [e, upd_same]
      exact fun z => nomatch z
    · rw [upd_ne e]
      exact w.tr a h
  · refine ent_stay (w.pot a h) (fun o ho => by rw [upd_ne (fun z => m.hp (by rw [← z]; exact mem_ad h))]; exact ho) fun c q hc => ?_
    rw [upd_ne (fun z => mo_nc m (by rw [← z]; exact hc))]
    exact hc
theorem mo_setL (m : MutO ms ps H0 H L d) (r : repL ms H ds vs) : MutO ms ps H0 (upd H L (.lst vs)) L (.lst ds) :=
  ⟨m.im, m.hp, m.h0, vs, upd_same, repL_put m.im r⟩
theorem mo_appU {P : Addr → List V → V → Prop} (m : MutO ms ps H0 H L (.lst ds)) (hl : ds.length < 16777216) (k : ∀ vs, repL ms H ds vs → P L vs u) :
    ∃ (l : Addr) (xs : List V) (y : V), V.ref L = .ref l ∧ [u] = [y] ∧ H l = some (.lst xs) ∧ xs.length < sizeLine ∧ P l xs y := by
  obtain ⟨vs, h1, h2⟩ := m.val
  refine ⟨L, vs, u, rfl, rfl, h1, ?_, k vs h2⟩
  rw [← repL_len h2, sizeLine_eq]
  exact hl
theorem mo_tyL (m : MutO ms ps H0 H L (.lst ds)) : tyV K "list" (.ref L) H := by
  obtain ⟨vs, h1, h2⟩ := m.val
  exact .inl ⟨rfl, vs, .inl (.inl h1)⟩
theorem mo_end {n : Nat} {Nx : Hp → Prop} (m : MutO ms ps H0 H L (.lst ds)) (hn : n < 100000) (hy : ds.length ≤ n) (h : ∀ vs, repL ms H ds vs → Nx (upd H L (.lst (vs ++ [u])))) :
    ∃ acc, H L = some (.lst acc) ∧ acc.length < sizeLine ∧ Nx (upd H L (.lst (acc ++ [u]))) := by
  obtain ⟨vs, h1, h2⟩ := m.val
  refine ⟨vs, h1, ?_, h vs h2⟩
  have q := repL_len h2
  have e : sizeLine = 16777216 := sizeLine_eq
  omega
theorem repL_snoc {α : Type} {e : α → D} {xs : List α} {y : α} (r : repL ms H (xs.map e) vs) (h : rep ms H (e y) u) : repL ms H ((xs ++ [y]).map e) (vs ++ [u]) := by
  rw [List.map_append]
  exact repL_app r (repL_one h)
end

section
variable {α S : Type} {K : PySem.W.Frag} {H1 : Hp} {g : TG} {tb : TS} {D' : Ends} {σ : L2.St}
theorem for_rangeG {lo hi : Int} {N : Nat} {body : Int → S → (S → Prop) → Prop} {KM : S → Prop} (SI : S → L2.St → Hp → Prop) (s0 : S) (hN : N = (hi - lo).toNat) (hM : forC body (rangeI lo hi) s0 KM) (h0 : SI s0 σ H1)
    (hs : ∀ (x : Int) (s : S) (k : S → Prop) (σ : L2.St) (H : Hp), SI s σ H → body x s k → ∀ Nx : L2.St → Hp → Prop, (∀ s' σ' H', k s' → SI s' σ' H' → Nx σ' H') →
      g (.int x) σ H fun σ2 H2 => tb { D' with nx := Nx, ct := Nx, bk := D'.nx } σ2 H2)
    (hd : ∀ s σ H, KM s → SI s σ H → D'.nx σ H) :
    ∃ W : Nat → Nat → L2.St → Hp → Prop, (∃ m, W 0 m σ H1) ∧ ∀ i m σ H, W i m σ H →
      ((Itr lo N).stop i H ∧ D'.nx σ H) ∨ ((Itr lo N).go i H ∧ ∃ Nx : L2.St → Hp → Prop, (∀ σ' H', Nx σ' H' → ∃ m', m' < m ∧ W (i + 1) m' σ' H') ∧ ∀ x H', (Itr lo N).yld i H x H' → g x σ H' fun σ2 H2 => tb { D' with nx := Nx, ct := Nx, bk := D'.nx } σ2 H2) := by
  subst hN
  refine for_range (lo := lo) (n := (hi - lo).toNat) (D := D') (fun i σ H => ∃ s, SI s σ H ∧ forC body ((rangeI lo hi).drop i) s KM) ⟨s0, h0, hM⟩ (fun i σ H hi' ⟨s, si, q⟩ => ?_) (fun σ H ⟨s, si, q⟩ => ?_)
  · rw [drop_cons' (rangeI_get hi')] at q
    exact hs _ s _ σ H si q _ fun s' σ' H' hk si2 => ⟨s', si2, hk⟩
  · rw [List.drop_of_length_le (by rw [rangeI_len]; exact Nat.le_refl _)] at q
    exact hd s σ H q si
end

section
variable {α β : Type} {K : PySem.W.Frag} {H1 H2 : Hp} {g : TG} {tt : TT} {te : TE} {vl : List Nat} {σ : L2.St} {Qd : Hp → Prop} {L : Addr}
abbrev Turn (g : TG) (tt : TT) (te : TE) (vl : List Nat) (σ : L2.St) (L : Addr) (u : V) (H : Hp) (Nx : Hp → Prop) : Prop :=
  g u (wipe σ vl) H fun σ2 H2 => wipe σ2 vl = wipe σ vl ∧ tt σ2 H2 fun b H3 => if b = true then te σ2 H3 fun y H4 => ∃ acc, H4 L = some (.lst acc) ∧ acc.length < sizeLine ∧ Nx (upd H4 L (.lst (acc ++ [y]))) else Nx H3
theorem lc_rangeG {lo hi : Int} {N : Nat} {body : Int → (β → Prop) → Prop} {KM : List β → Prop} (SI : Nat → List β → Hp → Prop) (hN : N = (hi - lo).toNat) (hM : (rangeI lo hi).length < 100000 ∧ mapC body (rangeI lo hi) [] KM) (h0 : SI 0 [] (upd H1 L (.lst [])))
    (hs : ∀ (x : Int) (n : Nat) (ys : List β) (k : β → Prop) (H : Hp), n < 100000 → SI n ys H → body x k → ∀ Nx : Hp → Prop, (∀ y H', k y → SI (n + 1) (ys ++ [y]) H' → Nx H') → Turn g tt te vl σ L (.int x) H Nx)
    (hd : ∀ n ys H, KM ys → SI n ys H → Qd H) :
    ∃ W : Nat → Nat → Hp → Prop, (∃ m, W 0 m (upd H1 L (.lst []))) ∧ ∀ i m H, W i m H →
      ((Itr lo N).stop i H ∧ Qd H) ∨ ((Itr lo N).go i H ∧ ∃ Nx : Hp → Prop, (∀ H', Nx H' → ∃ m', m' < m ∧ W (i + 1) m' H') ∧ ∀ x H', (Itr lo N).yld i H x H' → g x (wipe σ vl) H' fun σ2 H2 => wipe σ2 vl = wipe σ vl ∧ tt σ2 H2 fun b H3 =>
        if b = true then te σ2 H3 fun y H4 => ∃ acc, H4 L = some (.lst acc) ∧ acc.length < sizeLine ∧ Nx (upd H4 L (.lst (acc ++ [y]))) else Nx H3) := by
  obtain ⟨hn, hM⟩ := hM
  subst hN
  rw [rangeI_len] at hn
  refine ⟨fun i m H => m = (hi - lo).toNat - i ∧ i ≤ (hi - lo).toNat ∧ ∃ ys, SI i ys H ∧ mapC body ((rangeI lo hi).drop i) ys KM, ⟨_, rfl, Nat.zero_le _, [], h0, hM⟩, ?_⟩
  rintro i m H ⟨rfl, hi', ys, T, q⟩
  by_cases hlt : i < (hi - lo).toNat
  · refine .inr ⟨hlt, fun H' => i + 1 ≤ (hi - lo).toNat ∧ ∃ ys, SI (i + 1) ys H' ∧ mapC body ((rangeI lo hi).drop (i + 1)) ys KM, fun H' p' => ⟨_, by omega, rfl, p'⟩, fun x H' y => ?_⟩
    obtain ⟨e, y⟩ := y
    subst e y
    rw [drop_cons' (rangeI_get hlt)] at q
    exact hs _ i ys _ H' (by omega) T q _ fun y H' k T' => ⟨hlt, _, T', k⟩
  · have e : i = (hi - lo).toNat := by omega
    refine .inl ⟨by rw [e]; exact Nat.le_refl _, ?_⟩
    rw [List.drop_of_length_le (by rw [rangeI_len]; omega)] at q
    exact hd _ ys H q T
theorem lf_rangeG {lo hi : Int} {N : Nat} {body : Int → (Option β → Prop) → Prop} {KM : List β → Prop} (SI : Nat → List β → Hp → Prop) (hN : N = (hi - lo).toNat) (hM : (rangeI lo hi).length < 100000 ∧ filC body (rangeI lo hi) [] KM) (h0 : SI 0 [] (upd H1 L (.lst [])))
    (hs : ∀ (x : Int) (n : Nat) (ys : List β) (k : Option β → Prop) (H : Hp), n < 100000 → SI n ys H → body x k → ∀ Nx : Hp → Prop, (∀ y H', k (some y) → SI (n + 1) (ys ++ [y]) H' → Nx H') → (∀ H', k none → SI (n + 1) ys H' → Nx H') → Turn g tt te vl σ L (.int x) H Nx)
    (hd : ∀ n ys H, KM ys → SI n ys H → Qd H) :
    ∃ W : Nat → Nat → Hp → Prop, (∃ m, W 0 m (upd H1 L (.lst []))) ∧ ∀ i m H, W i m H →
      ((Itr lo N).stop i H ∧ Qd H) ∨ ((Itr lo N).go i H ∧ ∃ Nx : Hp → Prop, (∀ H', Nx H' → ∃ m', m' < m ∧ W (i + 1) m' H') ∧ ∀ x H', (Itr lo N).yld i H x H' → g x (wipe σ vl) H' fun σ2 H2 => wipe σ2 vl = wipe σ vl ∧ tt σ2 H2 fun b H3 =>
        if b = true then te σ2 H3 fun y H4 => ∃ acc, H4 L = some (.lst acc) ∧ acc.length < sizeLine ∧ Nx (upd H4 L (.lst (acc ++ [y]))) else Nx H3) := by
  obtain ⟨hn, hM⟩ := hM
  subst hN
  rw [rangeI_len] at hn
  refine ⟨fun i m H => m = (hi - lo).toNat - i ∧ i ≤ (hi - lo).toNat ∧ ∃ ys, SI i ys H ∧ filC body ((rangeI lo hi).drop i) ys KM, ⟨_, rfl, Nat.zero_le _, [], h0, hM⟩, ?_⟩
  rintro i m H ⟨rfl, hi', ys, T, q⟩
  by_cases hlt : i < (hi - lo).toNat
  · refine .inr ⟨hlt, fun H' => i + 1 ≤ (hi - lo).toNat ∧ ∃ ys, SI (i + 1) ys H' ∧ filC body ((rangeI lo hi).drop (i + 1)) ys KM, fun H' p' => ⟨_, by omega, rfl, p'⟩, fun x H' y => ?_⟩
    obtain ⟨e, y⟩ := y
    subst e y
    rw [drop_cons' (rangeI_get hlt)] at q
    exact hs _ i ys _ H' (by omega) T q _ (fun y H' k T' => ⟨hlt, _, T', k⟩) fun H' k T' => ⟨hlt, _, T', k⟩
  · have e : i = (hi - lo).toNat := by omega
    refine .inl ⟨by rw [e]; exact Nat.le_refl _, ?_⟩
    rw [List.drop_of_length_le (by rw [rangeI_len]; omega)] at q
    exact hd _ ys H q T
theorem lc_listG {items : List α} {e : α → D} {ms : List Addr} {a : Addr} {xs : List V} {body : α → (β → Prop) → Prop} {KM : List β → Prop} (SI : Nat → List β → Hp → Prop) (an : a ∉ ms) (ha : H1 a = some (.lst xs)) (hx : repL ms H1 (items.map e) xs) (nl : H1 L = none)
    (kp : ∀ n ys H, SI n ys H → Keep (L :: ms) H1 H) (hM : items.length < 100000 ∧ mapC body items [] KM) (h0 : SI 0 [] (upd H1 L (.lst [])))
    (hs : ∀ (x : α) (u : V) (n : Nat) (ys : List β) (k : β → Prop) (H : Hp), n < 100000 → SI n ys H → rep (L :: ms) H (e x) u → body x k → ∀ Nx : Hp → Prop, (∀ y H', k y → SI (n + 1) (ys ++ [y]) H' → Nx H') → Turn g tt te vl σ L u H Nx)
    (hd : ∀ n ys H, KM ys → SI n ys H → Qd H) :
    ∃ W : Nat → Nat → Hp → Prop, (∃ m, W 0 m (upd H1 L (.lst []))) ∧ ∀ i m H, W i m H →
      ((Itl K a).stop i H ∧ Qd H) ∨ ((Itl K a).go i H ∧ ∃ Nx : Hp → Prop, (∀ H', Nx H' → ∃ m', m' < m ∧ W (i + 1) m' H') ∧ ∀ x H', (Itl K a).yld i H x H' → g x (wipe σ vl) H' fun σ2 H2 => wipe σ2 vl = wipe σ vl ∧ tt σ2 H2 fun b H3 =>
        if b = true then te σ2 H3 fun y H4 => ∃ acc, H4 L = some (.lst acc) ∧ acc.length < sizeLine ∧ Nx (upd H4 L (.lst (acc ++ [y]))) else Nx H3) := by
  obtain ⟨hn, hM⟩ := hM
  have hl : items.length = xs.length := by
    have := repL_len hx
    rwa [List.length_map] at this
  have aM : a ∉ L :: ms := fun z => by
    rcases List.mem_cons.mp z with z | z
    · exact ne_of_none ha nl z
    · exact an z
  have hx1 : repL (L :: ms) H1 (items.map e) xs := repL_new nl hx
  refine ⟨fun i m H => m = xs.length - i ∧ i ≤ xs.length ∧ ∃ ys, SI i ys H ∧ mapC body (items.drop i) ys KM, ⟨_, rfl, Nat.zero_le _, [], h0, hM⟩, ?_⟩
  rintro i m H ⟨rfl, hi', ys, T, q⟩
  have hA : H a = some (.lst xs) := kp i ys H T a _ aM ha
  by_cases hlt : i < xs.length
  · refine .inr ⟨⟨xs, xs[i], .inl (.inl hA), by simp [hlt]⟩, fun H' => i + 1 ≤ xs.length ∧ ∃ ys, SI (i + 1) ys H' ∧ mapC body (items.drop (i + 1)) ys KM, fun H' p' => ⟨_, by omega, rfl, p'⟩, fun x H' y => ?_⟩
    obtain ⟨e1, y⟩ := y
    subst e1
    have hxi := y xs (.inl (.inl hA))
    have hit : items[i]? = some (items[i]'(by omega)) := List.getElem?_eq_getElem (by omega)
    rw [drop_cons' hit] at q
    obtain ⟨v, hv, rv⟩ := repL_get (repL_keep (kp i ys H' T) hx1) (j := i) (d := e (items[i]'(by omega))) (by rw [List.getElem?_map, hit]; rfl)
    rw [hxi] at hv
    have ev : x = v := Option.some.inj hv
    subst ev
    exact hs _ x i ys _ H' (by omega) T rv q _ fun y H'' k T' => ⟨hlt, _, T', k⟩
  · refine .inl ⟨⟨xs, .inl (.inl hA), by omega⟩, ?_⟩
    rw [List.drop_of_length_le (by omega)] at q
    exact hd _ ys H q T
theorem lf_listG {items : List α} {e : α → D} {ms : List Addr} {a : Addr} {xs : List V} {body : α → (Option β → Prop) → Prop} {KM : List β → Prop} (SI : Nat → List β → Hp → Prop) (an : a ∉ ms) (ha : H1 a = some (.lst xs)) (hx : repL ms H1 (items.map e) xs) (nl : H1 L = none)
    (kp : ∀ n ys H, SI n ys H → Keep (L :: ms) H1 H) (hM : items.length < 100000 ∧ filC body items [] KM) (h0 : SI 0 [] (upd H1 L (.lst [])))
    (hs : ∀ (x : α) (u : V) (n : Nat) (ys : List β) (k : Option β → Prop) (H : Hp), n < 100000 → SI n ys H → rep (L :: ms) H (e x) u → body x k → ∀ Nx : Hp → Prop, (∀ y H', k (some y) → SI (n + 1) (ys ++ [y]) H' → Nx H') → (∀ H', k none → SI (n + 1) ys H' → Nx H') → Turn g tt te vl σ L u H Nx)
    (hd : ∀ n ys H, KM ys → SI n ys H → Qd H) :
    ∃ W : Nat → Nat → Hp → Prop, (∃ m, W 0 m (upd H1 L (.lst []))) ∧ ∀ i m H, W i m H →
      ((Itl K a).stop i H ∧ Qd H) ∨ ((Itl K a).go i H ∧ ∃ Nx : Hp → Prop, (∀ H', Nx H' → ∃ m', m' < m ∧ W (i + 1) m' H') ∧ ∀ x H', (Itl K a).yld i H x H' → g x (wipe σ vl) H' fun σ2 H2 => wipe σ2 vl = wipe σ vl ∧ tt σ2 H2 fun b H3 =>
        if b = true then te σ2 H3 fun y H4 => ∃ acc, H4 L = some (.lst acc) ∧ acc.length < sizeLine ∧ Nx (upd H4 L (.lst (acc ++ [y]))) else Nx H3) := by
  obtain ⟨hn, hM⟩ := hM
  have hl : items.length = xs.length := by
    have := repL_len hx
    rwa [List.length_map] at this
  have aM : a ∉ L :: ms := fun z => by
    rcases List.mem_cons.mp z with z | z
    · exact ne_of_none ha nl z
    · exact an z
  have hx1 : repL (L :: ms) H1 (items.map e) xs := repL_new nl hx
  refine ⟨fun i m H => m = xs.length - i ∧ i ≤ xs.length ∧ ∃ ys, SI i ys H ∧ filC body (items.drop i) ys KM, ⟨_, rfl, Nat.zero_le _, [], h0, hM⟩, ?_⟩
  rintro i m H ⟨rfl, hi', ys, T, q⟩
  have hA : H a = some (.lst xs) := kp i ys H T a _ aM ha
  by_cases hlt : i < xs.length
  · refine .inr ⟨⟨xs, xs[i], .inl (.inl hA), by simp [hlt]⟩, fun H' => i + 1 ≤ xs.length ∧ ∃ ys, SI (i + 1) ys H' ∧ filC body (items.drop (i + 1)) ys KM, fun H' p' => ⟨_, by omega, rfl, p'⟩, fun x H' y => ?_⟩
    obtain ⟨e1, y⟩ := y
    subst e1
    have hxi := y xs (.inl (.inl hA))
    have hit : items[i]? = some (items[i]'(by omega)) := List.getElem?_eq_getElem (by omega)
    rw [drop_cons' hit] at q
    obtain ⟨v, hv, rv⟩ := repL_get (repL_keep (kp i ys H' T) hx1) (j := i) (d := e (items[i]'(by omega))) (by rw [List.getElem?_map, hit]; rfl)
    rw [hxi] at hv
    have ev : x = v := Option.some.inj hv
    subst ev
    exact hs _ x i ys _ H' (by omega) T rv q _ (fun y H'' k T' => ⟨hlt, _, T', k⟩) fun H'' k T' => ⟨hlt, _, T', k⟩
  · refine .inl ⟨⟨xs, .inl (.inl hA), by omega⟩, ?_⟩
    rw [List.drop_of_length_le (by omega)] at q
    exact hd _ ys H q T
end
end Rx
namespace Rx
open PySem PySem.Spec PyProof.Rows L2
structure Drop (ms : List Addr) (L : Addr) (ms' : List Addr) : Prop where
  sub : ∀ a ∈ ms', a ∈ ms
  ex : ∀ a ∈ ms, a ∈ ms' ∨ a = L
theorem dr_here {L : Addr} {ms : List Addr} : Drop (L :: ms) L ms := ⟨fun _ h => List.mem_cons_of_mem _ h, fun a h => (List.mem_cons.mp h).elim .inr .inl⟩
section
variable {K : PySem.W.Frag} {ms ms' : List Addr} {ps : List PEn} {H0 H H' H1 : Hp} {L L' : Addr} {d d' : D} {ds : List D} {u x : V} {vs : List V}
theorem keep_dr (dr : Drop ms L ms') (n : H1 L = none) (k : Keep ms H1 H) : Keep ms' H1 H := fun a o na e => k a o (fun z => by
  rcases dr.ex a z with z | z
  · exact na z
  · rw [z, n] at e
    cases e) e
theorem wd_dr (dr : Drop ms L ms') (hp : L ∉ ad ps) (w : Wd ms ps [] H0 H) : Wd ms' ps [] H0 H := wd_sub dr.sub (fun a h => (dr.ex a (w.pm a h)).elim id fun e => absurd (by rw [← e]; exact h) hp) w
theorem rep_dr (dr : Drop ms L ms') (h : rep ms H d u) : rep ms' H d u := rep_sub dr.sub h
theorem repL_dr (dr : Drop ms L ms') (h : repL ms H ds vs) : repL ms' H ds vs := repL_map (fun p o n hp => ⟨fun z => n (dr.sub p z), hp⟩) ds vs h
theorem mo_dr (dr : Drop ms L ms') (ne : L' ≠ L) (m : MutO ms ps H0 H L' d) : MutO ms' ps H0 H L' d := mo_sub dr.sub ((dr.ex _ m.im).elim id fun e => absurd e ne) m
theorem mo_rep_dr (dr : Drop ms L ms') (n : L ∉ ms') (m : MutO ms ps H0 H L d) : rep ms' H d (.ref L) := mo_rep n dr.sub m
mutual
def noM : D → Bool
  | .v _ => true
  | .lst _ => false
  | .tup ds => noMs ds
  | .ins _ _ ds => noMs ds
  | .dct _ _ => false
  | .dcT _ _ => false
def noMs : List D → Bool
  | [] => true
  | d :: ds => noM d && noMs ds
end
def isMo : Option HO → Prop
  | some (.lst _) => True
  | some (.dK _) => True
  | some (.dT _) => True
  | _ => False
theorem MutO.isMo (m : MutO ms ps H0 H L d) : isMo (H L) := by
  have h := m.val
  cases d with
  | lst ds =>
    rw [h.choose_spec.1]
    trivial
  | dct ks ds =>
    rw [h.choose_spec.1]
    trivial
  | dcT ks ds =>
    rw [h.choose_spec.1]
    trivial
  | v _ => exact h.elim
  | tup _ => exact h.elim
  | ins _ _ _ => exact h.elim
mutual
theorem rep_liftO (dr : Drop ms L ms') (hL : Rx.isMo (H L)) : ∀ (d : D) (u : V), noM d = true → rep ms' H d u → rep ms H d u
  | .v x, u, _, h => by
    simp only [rep] at h ⊢
    exact h
  | .lst ds, u, n, h => by
    simp only [noM] at n
    cases n
  | .dct _ ds, u, n, h => by
    simp only [noM] at n
    cases n
  | .dcT _ ds, u, n, h => by
    simp only [noM] at n
    cases n
  | .tup ds, u, n, h => by
    simp only [noM] at n
    simp only [rep] at h ⊢
    obtain ⟨p, us, e, np, hp, hl⟩ := h
    refine ⟨p, us, e, fun z => ?_, hp, repL_liftO dr hL ds us n hl⟩
    rcases dr.ex p z with z | z
    · exact np z
    · rw [← z, hp] at hL
      exact hL
  | .ins C ns ds, u, n, h => by
    simp only [noM] at n
    simp only [rep] at h ⊢
    obtain ⟨p, dx, us, e, np, hp, hn, hl⟩ := h
    refine ⟨p, dx, us, e, fun z => ?_, hp, hn, repL_liftO dr hL ds us n hl⟩
    rcases dr.ex p z with z | z
    · exact np z
    · rw [← z, hp] at hL
      exact hL
theorem repL_liftO (dr : Drop ms L ms') (hL : Rx.isMo (H L)) : ∀ (ds : List D) (us : List V), noMs ds = true → repL ms' H ds us → repL ms H ds us
  | [], us, _, h => by
    simp only [repL] at h ⊢
    exact h
  | d :: ds, us, n, h => by
    simp only [noMs, Bool.and_eq_true] at n
    simp only [repL] at h ⊢
    obtain ⟨u, ws, e, h1, h2⟩ := h
    exact ⟨u, ws, e, rep_liftO dr hL d u n.1 h1, repL_liftO dr hL ds ws n.2 h2⟩
end
end
end Rx
namespace Rx
open PySem PySem.Spec PyProof.Rows L2
section
variable {K : PySem.W.Frag} {ms ms' : List Addr} {ps : List PEn} {H0 H H' H1 : Hp} {L L' : Addr} {d d' : D} {ds : List D} {u x : V} {vs : List V}
end
section
variable {α β S : Type} {K : PySem.W.Frag} {H1 H2 : Hp} {g : TG} {tt : TT} {te : TE} {vl : List Nat} {σ : L2.St} {Qd : Hp → Prop} {L : Addr}
end
end Rx
namespace Rx
open PySem PySem.Spec PyProof.Rows L2
section
variable {ms : List Addr} {H : Hp} {x y : V}
end
end Rx
namespace Rx
open PySem PySem.Spec PyProof.Rows L2
section
variable {K : PySem.W.Frag} {ms : List Addr} {H : Hp} {x y : V} {ds : List D} {vs : List V}
end
section
variable {α β S : Type} {K : PySem.W.Frag} {H1 : Hp} {g : TG} {tt : TT} {te : TE} {vl : List Nat} {σ : L2.St} {Qd : Hp → Prop} {L : Addr}
end
end Rx
namespace Rx
open PySem PySem.Spec PyProof.Rows L2
section
variable {X : Cx} {K : PySem.W.Frag}
theorem call_lenK (hK : X.K = K) : CallR X (.builtin "len") (fun xs H Q => ∃ x n, xs = [x] ∧ LenV K x H n ∧ Q (.int n) H) := by
  subst hK
  exact call_len
theorem call_isiK (hK : X.K = K) : CallR X (.builtin "isinstance") (rIsi K) := by
  subst hK
  exact call_isi
theorem cr_allK (hK : X.K = K) (hc : X.calm = true) : CallR X (.builtin "all") (rAll K) := by
  subst hK
  exact cr_all hc
theorem op_eqDK (hK : X.K = K) (hu : X.A.units + 64 < cLine) : OpR X (compareOp .Eq) (rEqD K) := by
  subst hK
  exact op_eqD hu
theorem op_neDK (hK : X.K = K) (hu : X.A.units + 64 < cLine) : OpR X (compareOp .NotEq) (rNeD K) := by
  subst hK
  exact op_neD hu
theorem call_reprAK {k : Nat} (hK : X.K = K) (gu : X.A.guards = some []) (hr : Room k X.A) : CallR X (.builtin "repr") (rReprA K) := by
  subst hK
  exact call_reprA gu hr
end
end Rx
namespace Rx
open PySem PySem.Spec PyProof.Rows L2
section
variable {X : Cx} {K : PySem.W.Frag} {T name id : String} {o e : Expr} {es : List Expr} {r : V → List V → Hp → VK → Prop} {to : TE} {t : TA} {apos cpos : Pos}
theorem pe_bmK (hK : X.K = K) (pa : PlainAttrs T) (slot : Slot T name id) (hty : typeOf (.builtin id) = pure (.type "method_descriptor")) (hm : MtR X id r) (ho : PE X o to) (ha : PA X (e :: es) t)
    (hbase : attributeBase o name X.env (eval o X.env) = eval o X.env := by rfl)
    (hfew : ((backTo cpos (starEach (e :: es) X.env)).all (fun x => !x.1) && (backToKw cpos (keywordEach [] X.env)).all (fun x => x.1.isSome)
      && decide ((e :: es).length + ([] : List Keyword).length + (if ([] : List Keyword).isEmpty then 0 else 1) < 30)) = true := by rfl)
    (hline : (apos.endLine == cpos.line) = true := by rfl) (hs : starEach (e :: es) X.env = (false, eval e X.env) :: starEach es X.env := by rfl) (hplain : (backTo cpos (starEach es X.env)).any (·.1) = false := by rfl) :
    PE X (.Call (.Attribute o name apos) (e :: es) [] cpos) (tBM K T r to t) := by
  subst hK
  exact pe_bm pa slot hty hm ho ha hbase hfew hline hs hplain
end
end Rx
namespace Rx
open PySem PySem.Spec PyProof.Rows L2
section
variable {M : Model} {s : Shared} {K : PySem.W.Frag} {C : Addr}
end
section
variable {M : Model} {prog : Program} {w : World} {A : Around} {E : Value → Shared → Prop} {s : Shared} {K : PySem.W.Frag} {x C : Addr} {uy : Value} {ox : Obj} {od : Option Obj}
end
section
variable {K : PySem.W.Frag} {ms : List Addr} {H : Hp} {x y : V} {d : D}
structure IsN (K : PySem.W.Frag) (C : Addr) : Prop where
  ic : PySem.W.isClsIn K C = true
  ty : PySem.W.typeIn K (.ref C) = some (.type "type")
end
end Rx
namespace Rx
open PySem PySem.Spec PyProof.Rows L2
section
variable {ms : List Addr} {ps : List PEn} {cs : List (Addr × List V)} {H0 H H' : Hp} {u : V}
end
end Rx
namespace Rx
open PySem PySem.Spec PyProof.Rows L2
section
variable {κ : Type} [DecidableEq κ]
theorem any_zip {k : κ} : ∀ {ks : List κ} {vs : List V}, ks.length = vs.length → ((ks.zip vs).any fun kv => decide (kv.1 = k)) = decide (k ∈ ks)
  | [], [], _ => by simp
  | k0 :: ks, v :: vs, h => by
    have ih := any_zip (k := k) (ks := ks) (vs := vs) (by simpa using h)
    rw [List.zip_cons_cons, List.any_cons, ih]
    by_cases e : k0 = k
    · subst e
      simp
    · have e' : k ≠ k0 := fun z => e z.symm
      simp [e, e']
  | [], _ :: _, h => by simp at h
  | _ :: _, [], h => by simp at h
theorem putK_new {k : κ} {v : V} {ks : List κ} {vs : List V} (h : ks.length = vs.length) (n : k ∉ ks) : putK (ks.zip vs) k v = (ks ++ [k]).zip (vs ++ [v]) := by
  unfold putK
  rw [any_zip h, if_neg (by simpa using n), List.zip_append h]
  rfl
theorem putK_old {k : κ} {v : V} : ∀ {ks : List κ} {vs : List V} {j : Nat}, ks.length = vs.length → ks.Nodup → ks[j]? = some k → putK (ks.zip vs) k v = ks.zip (vs.set j v) := by
  intro ks vs j h nd hj
  have hk : k ∈ ks := List.mem_of_getElem? hj
  unfold putK
  rw [any_zip h, if_pos (by simpa using hk)]
  induction ks generalizing vs j with
  | nil => simp at hj
  | cons k0 ks ih =>
    cases vs with
    | nil => simp at h
    | cons v0 vs =>
      have nd' := List.nodup_cons.mp nd
      cases j with
      | zero =>
        have e : k0 = k := Option.some.inj hj
        subst e
        rw [List.zip_cons_cons, List.map_cons, if_pos rfl, List.set_cons_zero, List.zip_cons_cons]
        congr 1
        conv => rhs; rw [← List.map_id (ks.zip vs)]
        refine List.map_congr_left fun q hq => ?_
        rw [if_neg]
        · rfl
        · intro z
          exact nd'.1 (by rw [← z]; exact (List.of_mem_zip (show (q.1, q.2) ∈ ks.zip vs from hq)).1)
      | succ j =>
        have hj' : ks[j]? = some k := by simpa using hj
        have ne : ¬ k0 = k := fun z => nd'.1 (by rw [z]; exact List.mem_of_getElem? hj')
        rw [List.zip_cons_cons, List.map_cons, if_neg ne, List.set_cons_succ, List.zip_cons_cons]
        congr 1
        exact ih (by simpa using h) nd'.2 hj' (List.mem_of_getElem? hj')
theorem valV_zip {k : κ} : ∀ {ks : List κ} {vs : List V} {j : Nat}, ks.Nodup → ks[j]? = some k → ks.length = vs.length → valV (ks.zip vs) k = vs[j]?
  | [], _, _, _, hj, _ => by simp at hj
  | k0 :: ks, [], _, _, _, h => by simp at h
  | k0 :: ks, v :: vs, 0, _, hj, _ => by
    have e : k0 = k := Option.some.inj hj
    subst e
    simp [valV]
  | k0 :: ks, v :: vs, j + 1, nd, hj, h => by
    have nd' := List.nodup_cons.mp nd
    have hj' : ks[j]? = some k := by simpa using hj
    have ne : ¬ k0 = k := fun z => nd'.1 (by rw [z]; exact List.mem_of_getElem? hj')
    rw [List.zip_cons_cons, valV_neg (p := (k0, v)) ne, valV_zip nd'.2 hj' (by simpa using h)]
    rfl
end
theorem mergeK_nodup : ∀ {more : List (Key × V)} {acc : List (Key × V)}, ((acc ++ more).map (·.1)).Nodup → mergeK acc more = acc ++ more
  | [], acc, _ => by simp [mergeK]
  | q :: more, acc, h => by
    have n : q.1 ∉ acc.map (·.1) := by
      rw [List.map_append, List.nodup_append] at h
      exact fun z => h.2.2 q.1 z q.1 (by simp) rfl
    have e : putK acc q.1 q.2 = acc ++ [q] := by
      unfold putK
      rw [if_neg]
      intro z
      obtain ⟨w, hw, ew⟩ := List.any_eq_true.mp z
      exact n (List.mem_map.mpr ⟨w, hw, of_decide_eq_true ew⟩)
    show mergeK (putK acc q.1 q.2) more = _
    rw [e, mergeK_nodup (by rw [List.append_assoc]; exact h), List.append_assoc]
    rfl
section
variable {K : PySem.W.Frag} {ms : List Addr} {ps : List PEn} {H0 H H' H1 : Hp} {L : Addr} {d : D} {ds : List D} {u x y : V} {vs : List V} {ks : List Key} {k : Key}
theorem map_fst_zip' : ∀ {ks : List Key} {vs : List V}, ks.length = vs.length → (ks.zip vs).map (·.1) = ks
  | [], [], _ => rfl
  | k :: ks, v :: vs, h => by
    rw [List.zip_cons_cons, List.map_cons, map_fst_zip' (by simpa using h)]
  | [], _ :: _, h => by simp at h
  | _ :: _, [], h => by simp at h
theorem merge_zip (h : ks.length = vs.length) (nd : ks.Nodup) : mergeK [] (ks.zip vs) = ks.zip vs := by
  rw [mergeK_nodup (by rw [List.nil_append, map_fst_zip' h]; exact nd), List.nil_append]
theorem mo_nilD (w : Wd ms ps [] H0 H) (nl : H L = none) : MutO (L :: ms) ps H0 (upd H L (.dK [])) L (.dct [] []) :=
  mo_newD (ks := []) (vs := []) (ds := []) w nl rfl repL_nil
theorem mo_dK0 (m : MutO ms ps H0 H L (.dct [] [])) : H L = some (.dK []) := by
  obtain ⟨vs, h1, h2, _⟩ := m.val
  rw [h1]
  simp
theorem mo_setD (m : MutO ms ps H0 H L d) (hl : ks.length = vs.length) (r : repL ms H ds vs) : MutO ms ps H0 (upd H L (.dK (ks.zip vs))) L (.dct ks ds) :=
  ⟨m.im, m.hp, m.h0, vs, upd_same, hl, repL_put m.im r⟩
theorem mo_putU {v : V} {Q : Hp → Prop} (m : MutO ms ps H0 H L (.dct ks ds)) (n : k ∉ ks) (hk : ks.length < 16777216)
    (q : ∀ vs, ks.length = vs.length → repL ms H ds vs → Q (upd H L (.dK ((ks ++ [k]).zip (vs ++ [v]))))) : rSetD (.ref L) (kV k) v H Q := by
  obtain ⟨vs, h1, h2, h3⟩ := m.val
  refine ⟨L, _, rfl, DPut.k h1 ?_, ?_⟩
  · rw [List.length_zip, ← h2, sizeLine_eq, Nat.min_self]
    exact hk
  · rw [putK_new h2 n]
    exact q vs h2 h3
theorem mo_putO {v : V} {Q : Hp → Prop} (j : Nat) (m : MutO ms ps H0 H L (.dct ks ds)) (nd : ks.Nodup) (hj : ks[j]? = some k) (hk : ks.length < 16777216)
    (q : ∀ vs, ks.length = (vs.set j v).length → repL ms H ds vs → Q (upd H L (.dK (ks.zip (vs.set j v))))) : rSetD (.ref L) (kV k) v H Q := by
  obtain ⟨vs, h1, h2, h3⟩ := m.val
  refine ⟨L, _, rfl, DPut.k h1 ?_, ?_⟩
  · rw [List.length_zip, ← h2, sizeLine_eq, Nat.min_self]
    exact hk
  · rw [putK_old h2 nd hj]
    exact q vs (by rw [List.length_set]; exact h2) h3
theorem repL_setD {v : V} {e : D} : ∀ {ds : List D} {vs : List V} (j : Nat), repL ms H ds vs → rep ms H e v → repL ms H (ds.set j e) (vs.set j v)
  | [], vs, j, h, r => by
    have ev := repL_empty h
    subst ev
    simpa using h
  | d :: ds, vs, 0, h, r => by
    obtain ⟨u, us, rfl, h1, h2⟩ := repL_uncons h
    exact repL_cons r h2
  | d :: ds, vs, j + 1, h, r => by
    obtain ⟨u, us, rfl, h1, h2⟩ := repL_uncons h
    exact repL_cons h1 (repL_setD j h2 r)
theorem dgetL (h1 : H L = some (.dK (ks.zip vs))) (nd : ks.Nodup) (hl : ks.length = vs.length) {j : Nat} (hj : ks[j]? = some k) {v : V} (hv : vs[j]? = some v) : DGet H L (kV k) (some v) := by
  have := DGet.k (k := k) h1
  rw [valV_zip nd hj hl, hv] at this
  exact this
theorem rep_dget {Q : VK} (j : Nat) (h : rep ms H (.dct ks ds) x) (nd : ks.Nodup) (hj : ks[j]? = some k) (hd : ds[j]? = some d) (q : ∀ v, rep ms H d v → Q v H) :
    ∃ a v, x = .ref a ∧ DGet H a (kV k) (some v) ∧ Q v H := by
  simp only [rep] at h
  obtain ⟨p, vs, rfl, _, hp, hl, hr⟩ := h
  obtain ⟨v, hv, rv⟩ := repL_get hr hd
  exact ⟨p, v, rfl, dgetL hp nd hl hj hv, q v rv⟩
theorem rep_items {Q : VK} (w : Wd ms ps [] H0 H) (h : rep ms H (.dct ks ds) x)
    (q : ∀ (H' : Hp) (p : Addr), Ret [] H H' → (∀ (r : List V → Hp → Prop), (∀ vs, ks.length = vs.length → repL ms H' ds vs → (∃ ps, SqL K H' p (ps.map V.ref) ∧ Paired (fun p kv => SqT K H' p [kV kv.1, kv.2]) ps (ks.zip vs)) → r vs H') → ∃ vs, ks.length = vs.length ∧ repL ms H' ds vs ∧ r vs H') → Q (.ref p) H') :
    ∃ (d : Addr) (kvs : List (Key × V)), x = .ref d ∧ H d = some (.dK kvs) ∧ ∀ (H' : Hp) (p : Addr) (ts : List Addr), (∀ b o, H b = some o → H' b = some o) → H p = none → (∀ t ∈ ts, H t = none) → p ∉ ts → H' p = some (.lst (ts.map V.ref)) → Paired (fun (t : Addr) (q : Key × V) => H' t = some (.tup [kV q.1, q.2])) ts kvs → Q (.ref p) H' := by
  simp only [rep] at h
  obtain ⟨d, vs, rfl, _, hp, hl, hr⟩ := h
  refine ⟨d, _, rfl, hp, fun H' p ts keep np nts pt hl' hpd => ?_⟩
  have e : Ret [] H H' := ⟨fun a o _ z => keep a o z, fun _ z => absurd z List.not_mem_nil, fun a z => by
    cases c : H a with
    | none => exact absurd c z
    | some o => rw [keep a o c]; exact fun z => nomatch z⟩
  refine q H' p e fun r hr' => ⟨vs, hl, repL_ext e hr, hr' vs hl (repL_ext e hr) ⟨ts, .inl (.inl hl'), ?_⟩⟩
  clear hr' hl' q hp
  generalize ks.zip vs = kvs at hpd
  induction hpd with
  | nil => exact .nil
  | cons a _ ih => exact .cons (.inl (.inl a)) (ih (fun t z => nts t (List.mem_cons_of_mem _ z)) fun z => pt (List.mem_cons_of_mem _ z))
end
end Rx
namespace Rx
open PySem PySem.Spec PyProof.Rows L2
section
variable {X : Cx} {K : PySem.W.Frag}
theorem call_dictPK (hK : X.K = K) (hcalm : X.calm = true) : CallR X (.type "dict") (fun xs H Q => ∃ (a : Addr) (ps : List Addr) (kvs : List (Key × V)), xs = [.ref a] ∧ SqL K H a (ps.map V.ref) ∧ Paired (fun p kv => SqT K H p [kV kv.1, kv.2]) ps kvs ∧
    ∀ p, H p = none → Q (.ref p) (upd H p (.dK (mergeK [] kvs)))) := by
  subst hK
  exact call_dictP hcalm
end
end Rx
namespace Rx
theorem nin_of {α : Type} {ks : List α} {k : α} (h : (ks ++ [k]).Nodup) : k ∉ ks := fun z => by
  rw [List.nodup_append] at h
  exact h.2.2 k z k (by simp) rfl
end Rx
namespace Rx
open PySem PySem.Spec PyProof.Rows L2
section
variable {ms : List Addr} {ps : List PEn} {H0 H H' He : Hp} {p L C dx : Addr} {d : D} {u : V} {fs : List (Str × V)} {o : HO}
structure KpI (p : Addr) (He H : Hp) : Prop where
  kp : ∀ a o, a ≠ p → He a = some o → H a = some o
  gr : ∀ a, He a ≠ none → H a ≠ none
theorem ki_refl : KpI p H H := ⟨fun _ _ _ h => h, fun _ h => h⟩
theorem ki_wd (k : KpI p He H0) (w : Wd ms [] [] H0 H) : KpI p He H := ⟨fun a o n h => w.kp a o (by simp) (k.kp a o n h), fun a h => w.grow a (k.gr a h)⟩
theorem ki_put (k : KpI p He H0) (w : Wd ms [] [] H0 H) : KpI p He (upd H p o) := ⟨fun a o' n h => by
  rw [upd_ne n]
  exact (ki_wd k w).kp a o' n h, fun a h => by
  by_cases e : a = p
  · rw [e, upd_same]
    exact fun z => nomatch z
  · rw [upd_ne e]
    exact (ki_wd k w).gr a h⟩
theorem wd_at (w : Wd ms [] [] H0 H) : Wd ms [] [] (upd H p o) (upd H p o) := ⟨fun _ _ _ h => h, fun _ h => h, fun m h => by
  by_cases e : m = p
  · rw [e, upd_same]
    exact fun z => nomatch z
  · rw [upd_ne e]
    exact w.tr m h, fun _ h => absurd h List.not_mem_nil, fun _ h => absurd h List.not_mem_nil, fun _ h => absurd h List.not_mem_nil⟩
theorem putF_zip {f : Str} {v : V} : ∀ {ns : List Str} {us : List V}, ns.length = us.length → f ∉ ns → putF f v (ns.zip us) = (ns ++ [f]).zip (us ++ [v])
  | [], [], _, _ => by simp [putF]
  | [], _ :: _, h, _ => by simp at h
  | _ :: _, [], h, _ => by simp at h
  | n :: ns, u :: us, h, nn => by
    have e : ¬ n = f := fun z => nn (by rw [z]; exact List.mem_cons_self)
    have ih := putF_zip (f := f) (v := v) (ns := ns) (us := us) (by simpa using h) fun z => nn (List.mem_cons_of_mem _ z)
    simp only [List.zip_cons_cons, List.cons_append]
    unfold putF
    rw [if_neg e, ih]
theorem mem_new (nl : H p = none) (h : rep ms H d u) (ndx : H dx = none) {o1 o2 : HO} : rep (p :: ms) (upd (upd H dx o1) p o2) d u :=
  rep_map (fun a o n hp => ⟨fun z => by
    rcases List.mem_cons.mp z with z | z
    · exact ne_of_none hp nl z
    · exact n z, by rw [upd_ne (ne_of_none hp nl), upd_ne (ne_of_none hp ndx)]; exact hp⟩) d u h
theorem wd_new (w : Wd ms ps cs H0 H) (nl : H p = none) (ndx : H dx = none) {o1 o2 : HO} : Wd (p :: ms) [] [] (upd (upd H dx o1) p o2) (upd (upd H dx o1) p o2) := ⟨fun _ _ _ h => h, fun _ h => h, fun m h => by
  by_cases e : m = p
  · rw [e, upd_same]
    exact fun z => nomatch z
  · rw [upd_ne e]
    by_cases e2 : m = dx
    · rw [e2, upd_same]
      exact fun z => nomatch z
    · rw [upd_ne e2]
      exact w.tr m ((List.mem_cons.mp h).elim (fun z => absurd z e) id), fun _ h => absurd h List.not_mem_nil, fun _ h => absurd h List.not_mem_nil, fun _ h => absurd h List.not_mem_nil⟩
theorem ext_new (k : KpI p (upd (upd H dx o1) p o2) H') (nl : H p = none) (ndx : H dx = none) : Ret [] H H' := ⟨fun a o _ h => k.kp a o (ne_of_none h nl) (by rw [upd_ne (ne_of_none h nl), upd_ne (ne_of_none h ndx)]; exact h), fun _ z => absurd z List.not_mem_nil, fun a h => k.gr a (by
  by_cases e : a = p
  · rw [e, upd_same]
    exact fun z => nomatch z
  · rw [upd_ne e]
    by_cases e2 : a = dx
    · rw [e2, upd_same]
      exact fun z => nomatch z
    · rw [upd_ne e2]
      exact h)⟩
theorem rep_insW (w : Wd ms ps cs H0 H) (np : H p = none) {ns : List Str} {us : List V} {ds : List D} (hp : H' p = some (.ins C dx (ns.zip us))) (hl : ns.length = us.length) (hr : repL (p :: ms) H' ds us) : rep ms H' (.ins C ns ds) (.ref p) := by
  simp only [rep]
  exact ⟨p, dx, us, rfl, fun z => w.tr p z np, hp, hl, repL_weak hr⟩
end
end Rx
namespace Rx
open PySem PySem.Spec PyProof.Rows L2
section
variable {K : PySem.W.Frag} {x qual : Str} {params : Arguments} {body : List Stmt} {scope : Scope} {dvs : List V} {f : Addr} {fd : FuncData} {ps : List Str}
theorem FunD_b0 (F : FunD K x qual params body scope dvs [] f fd) (hd : dvs ≠ [])
    (h : ∀ (T : Addr) (kV doc pm : Value) (an : Option Addr) (cdv ct : Value) (us its : List Value), us.length = ps.length → its.length = dvs.length →
      ∃ k, bindArgs (PySem.W.fnOf x qual params body scope (.ref T) kV doc pm an cdv ct) ⟨us, []⟩ = seqItems? (.ref T) >>= k ∧ k (some its.toArray) = pure (ps.zip us)) : Binds K fd ps [] := by
  obtain ⟨ds, rd, hb⟩ := F.binds1 (ps := ps) ps.length dvs.length hd (by omega) fun T kV doc pm an cdv ct us its h1 h2 => by
    obtain ⟨k, e1, e2⟩ := h T kV doc pm an cdv ct us its h1 h2
    refine ⟨k, e1, ?_⟩
    rw [e2, List.drop_of_length_le (by omega), List.append_nil]
  rw [List.drop_length] at rd
  cases rd
  exact hb
end
end Rx
namespace Rx
open PySem PySem.Spec PyProof.Rows L2
def rInW (K : PySem.W.Frag) (w : World) (d : Addr) (b : Bool) : R2 := fun x y H Q => ∃ (z c : Str), x = .str z ∧ y = .ref d ∧ KDct K w d z (.str c) ∧ Q (.bl b) H
section
variable {X : Cx} {K : PySem.W.Frag} {w : World} {d : Addr}
theorem op_ninW (hK : X.K = K) (hw : X.w = w) (low : (d == sysModules) = false) : OpR X (compareOp .NotIn) (rInW K w d false) := by
  subst hK hw
  intro pins s σ H x y v u Q I rx ry h
  obtain ⟨z, c, rfl, rfl, ⟨es, n, u0, at_, lit, ns, ru⟩, q⟩ := h
  exact op_notIn_kd ⟨at_, lit, low⟩ pins s σ H _ _ v u Q I rx ry ⟨z, some u0, rfl, rfl, ns, q⟩
theorem rep_inW {l : List (Str × Str)} {z c : Str} {b : Bool} {H : Hp} {σ : L2.St} {Q : VK} (t : ∀ z c : Str, l.lookup z = some c → KDct K w d z (.str c)) (h : l.lookup z = some c) (q : Q (.bl b) H) : tC (V.ref d) σ H fun y H2 => rInW K w d b (.str z) y H2 Q := ⟨z, c, rfl, rfl, t z c h, q⟩
end
end Rx
namespace Rx
open PySem PySem.Spec PyProof.Rows L2
section
variable {α β : Type} {K : PySem.W.Frag} {H1 H2 : Hp} {g : TG} {tt : TT} {te : TE} {vl : List Nat} {σ : L2.St} {Qd : Hp → Prop} {L : Addr}
end
section
variable {α S : Type} {K : PySem.W.Frag} {H1 : Hp} {g : TG} {tb : TS} {D' : Ends} {σ : L2.St}
end
section
variable {X : L2.Cx} {a b c e : PySem.Expr} {ta : TA}
end
section
variable {X : L2.Cx} {e : PySem.Expr} {te : TE}
end
section
variable {X : L2.Cx} {K : PySem.W.Frag} {ms : List Addr} {H : Hp} {u x : V}
end
section
variable {K : PySem.W.Frag} {ms : List Addr} {ps : List PEn} {H0 H H' H1 : Hp} {L : Addr} {d : D} {ds : List D} {u x y : V} {vs : List V} {ks : List Key} {k : Key}
theorem rep_itemsR {Q : VK} (w : Wd ms ps [] H0 H) (h : rep ms H (.dct ks ds) x)
    (q : ∀ (H' : Hp) (p : Addr), Ret [] H H' → (∀ (r : List V → Hp → Prop), (∀ vs, ks.length = vs.length → repL ms H' ds vs → (∃ ps, SqL K H' p (ps.map V.ref) ∧ Paired (fun p kv => SqT K H' p [kV kv.1, kv.2]) ps (ks.zip vs)) → r vs H') → ∃ vs, ks.length = vs.length ∧ repL ms H' ds vs ∧ r vs H') → Q (.ref p) H') : LiI.rItemsL x H Q := rep_items w h q
end
end Rx
namespace Rx
open PySem PySem.Spec PyProof.Rows L2
section
variable {K : PySem.W.Frag} {ms : List Addr} {ps : List PEn} {H0 H : Hp} {x : V}
end
section
variable {α S : Type} {K : PySem.W.Frag} {H1 : Hp} {g : TG} {tb : TS} {D' : Ends} {σ : L2.St}
end
end Rx
namespace Rx
open PySem PySem.Spec PyProof.Rows L2
section
variable {α κ : Type} [DecidableEq κ]
def getD (m : List (κ × α)) (k : κ) : Option α := (m.find? fun q => decide (q.1 = k)).map (·.2)
def hasD (m : List (κ × α)) (k : κ) : Bool := m.any fun q => decide (q.1 = k)
theorem zip_fst_any {k : κ} : ∀ {m : List (κ × α)} {vs : List V}, m.length = vs.length → (((m.map (·.1)).zip vs).any fun kv => decide (kv.1 = k)) = m.any fun q => decide (q.1 = k)
  | [], [], _ => rfl
  | q :: m, v :: vs, h => by
    rw [List.map_cons, List.zip_cons_cons, List.any_cons, List.any_cons, zip_fst_any (by simpa using h)]
  | [], _ :: _, h => by simp at h
  | _ :: _, [], h => by simp at h
end
section
variable {α : Type} {K : PySem.W.Frag} {ms : List Addr} {ps : List PEn} {H0 H : Hp} {L : Addr} {x : V} {e : α → D}
end
section
variable {K : PySem.W.Frag} {ms : List Addr} {H : Hp} {x : V}
end
theorem idxOf_le_of {w : Int} : ∀ {xs : List Int} {m : Nat}, xs[m]? = some w → xs.idxOf w ≤ m
  | [], _, h => by simp at h
  | x :: xs, 0, h => by
    have : x = w := Option.some.inj h
    subst this
    rw [List.idxOf_cons_self]
    exact Nat.le_refl 0
  | x :: xs, m + 1, h => by
    have ih := idxOf_le_of (xs := xs) (m := m) (by simpa using h)
    rw [List.idxOf_cons]
    cases x == w
    · show List.idxOf w xs + 1 ≤ m + 1
      omega
    · show 0 ≤ m + 1
      omega
def rIndexI (K : PySem.W.Frag) : V → List V → Hp → VK → Prop := rIndex K
theorem mt_indexK {X : Cx} {K : PySem.W.Frag} (hK : X.K = K) : MtR X "list.index" (rIndexI K) := by
  subst hK
  exact mt_index
theorem rep_indexI {K : PySem.W.Frag} {ms : List Addr} {H : Hp} {x : V} {xs : List Int} {n : Int} {Q : VK} (h : rep ms H (.lst (xs.map fun y => .v (.int y))) x) (hm : n ∈ xs) (q : Q (.int (xs.idxOf n : Int)) H) : rIndexI K x [.int n] H Q := by
  simp only [rep] at h
  obtain ⟨p, vs, rfl, _, hp, hr⟩ := h
  have ev : vs = xs.map V.int := by
    have := repL_flat (xs := xs.map V.int) (vs := vs) (ms := ms) (H := H)
    rw [List.map_map] at this
    exact this.mp hr
  subst ev
  have hl : xs.idxOf n < xs.length := List.idxOf_lt_length_iff.mpr hm
  have eqv : ∀ a b : Int, eqV (.int a) (.int b) = decide (a = b) := fun a b => by
    by_cases c : a = b
    · subst c
      rw [decide_eq_true rfl]
      show (a == a) = true
      exact beq_self_eq_true a
    · rw [decide_eq_false c]
      show (a == b) = false
      exact beq_eq_false_iff_ne.mpr c
  refine ⟨p, _, _, xs.idxOf n, .int n, rfl, rfl, .inl (.inl hp), rfl, ?_, ?_, ?_, ?_, q⟩
  · rw [List.all_eq_true]
    intro z hz
    obtain ⟨w, _, rfl⟩ := List.mem_map.mp hz
    rfl
  · rw [List.getElem?_map, List.getElem?_eq_getElem hl, List.getElem_idxOf hl]
    rfl
  · rw [eqv, decide_eq_true rfl]
  · intro m z' hm' hz
    rw [List.getElem?_map] at hz
    obtain ⟨w, hw, rfl⟩ := Option.map_eq_some_iff.mp hz
    rw [eqv]
    refine decide_eq_false fun c => ?_
    subst c
    have := idxOf_le_of hw
    omega
theorem rep_indexIC {K : PySem.W.Frag} {ms : List Addr} {H : Hp} {x : V} {xs : List Int} {n : Int} {σ : L2.St} {Q : VK} (h : rep ms H (.lst (xs.map fun y => .v (.int y))) x) (hm : n ∈ xs) (q : Q (.int (xs.idxOf n : Int)) H) : tCons (tC (V.int n)) tNil σ H fun ys H2 => rIndexI K x ys H2 Q := rep_indexI (K := K) (Q := Q) h hm q
end Rx
namespace Rx
open PySem PySem.Spec PyProof.Rows L2
section
variable {K : PySem.W.Frag} {ms : List Addr} {ps : List PEn} {H0 H : Hp} {d : D} {u x : V}
end
section
variable {α : Type} {K : PySem.W.Frag} {ms : List Addr} {ps : List PEn} {H0 H : Hp} {L : Addr} {x kx : V} {e : α → D}
theorem key_tup {ks : List Key} {ds : List D} (h : rep ms H (.tup ds) kx) (hd : ds = ks.map fun k => D.v (kV k)) : ∃ b, kx = .ref b ∧ H b = some (.tup (ks.map kV)) := by
  subst hd
  simp only [rep] at h
  obtain ⟨p, vs, rfl, _, hp, hr⟩ := h
  have : vs = ks.map kV := by
    have q := repL_flat (xs := ks.map kV) (vs := vs) (ms := ms) (H := H)
    rw [List.map_map] at q
    exact q.mp hr
  subst this
  exact ⟨p, rfl, hp⟩
end
section
variable {K : PySem.W.Frag} {ms : List Addr} {ps : List PEn} {H0 H : Hp} {x : V}
end
end Rx
namespace Rx
open PySem PySem.Spec PyProof.Rows L2
section
variable {prog : Program} {w : World} {A : Around} {E : Value → Shared → Prop} {s : Shared}
end
section
variable {prog : Program} {w : World} {A : Around} {E : Value → Shared → Prop} {s : Shared}
end
section
variable {K : PySem.W.Frag} {ms : List Addr} {H : Hp} {x : V}
end
section
variable {α β : Type} {K : PySem.W.Frag} {H1 : Hp} {g : TG} {tt : TT} {te : TE} {vl : List Nat} {σ : L2.St} {Qd : Hp → Prop} {L : Addr}
end
end Rx
namespace Rx
open PySem PySem.Spec PyProof.Rows L2
section
variable {K : PySem.W.Frag} {ms : List Addr} {ps : List PEn} {H0 H : Hp} {L : Addr} {u : V}
end
end Rx
namespace Rx
open PySem PySem.Spec PyProof.Rows L2
section
variable {X : Cx}
variable {n : Nat} {C f : Addr} {fd : FuncData} {ps : List Str} {sp : Sp}
end
end Rx
namespace PySem
open Sem (wp)
open AutoSeq1 (wpAny_loadPart')
section
variable {prog : Program} {w : World} {A : Around} {E : Value → Shared → Prop} {s : Shared}
end
end PySem
namespace Rx
open PySem PySem.Spec PyProof.Rows L2
section
variable {K : PySem.W.Frag} {a : Addr} {xs : List V}
end
section
variable {α S : Type} {K : PySem.W.Frag} {H1 : Hp} {g : TG} {tb : TS} {D' : Ends} {σ : L2.St}
end
section
variable {K : PySem.W.Frag} {ms : List Addr} {ps : List PEn} {H0 H : Hp} {x : V}
end
theorem noMs_mapT {α : Type} {e : α → D} (h : ∀ y, noM (e y) = true) : ∀ xs : List α, noMs (xs.map e) = true
  | [] => rfl
  | x :: xs => by
    rw [List.map_cons]
    simp only [noMs, h x, noMs_mapT h xs, Bool.and_self]
end Rx
namespace Rx
open PySem PySem.Spec PyProof.Rows L2
section
variable {K : PySem.W.Frag} {ms ms' : List Addr} {ps : List PEn} {H0 H H' H1 : Hp} {L L' : Addr} {d d' : D} {ds : List D} {u x : V} {vs : List V}
theorem rep_lstAt (h : rep ms H (.lst ds) u) : ∃ (L : Addr) (vs : List V), u = .ref L ∧ L ∉ ms ∧ H L = some (.lst vs) ∧ repL ms H ds vs := by
  simp only [rep] at h
  obtain ⟨p, vs, e, np, hp, hl⟩ := h
  exact ⟨p, vs, e, np, hp, hl⟩
theorem wd_fresh {o : HO} (w : Wd ms ps [] H0 H) (h : H L = some o) : Wd (L :: ms) ps [] H0 H :=
  ⟨w.kp, w.grow, fun m hm => by
    rcases List.mem_cons.mp hm with z | z
    · rw [z, h]
      exact fun z => nomatch z
    · exact w.tr m z, w.pot, fun a ha => List.mem_cons_of_mem _ (w.pm a ha), fun _ h => absurd h List.not_mem_nil⟩
theorem mo_fresh (w : Wd ms ps [] H0 H) (nl : H L = none) (n : L ∉ ms) (hL : H' L = some (.lst vs)) (hr : repL ms H' ds vs) (hn : noMs ds = true) : MutO (L :: ms) ps H0 H' L (.lst ds) :=
  ⟨List.mem_cons_self, pot_new w nl, wd_none w nl, vs, hL, repL_liftO (dr_here (L := L) (ms := ms)) (by rw [hL]; trivial) ds vs hn hr⟩
theorem noMs_mapF {α : Type} {e : α → D} (h : ∀ y, noM (e y) = true) : ∀ xs : List α, noMs (xs.map e) = true := noMs_mapT h
end
section
variable {K : PySem.W.Frag} {X : Cx} {o : PySem.Expr} {to : TE} {name : Str} {apos cpos : Pos} {T id : String} {r : V → List V → Hp → VK → Prop}
end
section
variable {K : PySem.W.Frag} {X : Cx} {C g : Addr} {CX : CXT} {k : Nat} {sp : Sp} {E : XK} {fe e : PySem.Expr} {es : List PySem.Expr} {tf : TE} {t : TA} {pos : Pos} {fd : FuncData} {ps : List Str}
end
end Rx
namespace PySem.W
open Lean Elab Tactic Meta PySem PySem.Calls PyProof.Rows
section
variable {prog : Program} {w : World} {A : Around} {E : Value → Shared → Prop} {s : Shared} {K : Frag} {x y C L f : Addr} {h₀ : Heap} {m : Str → Option Value} {ox oy : Obj} {od oe : Option Obj}
end
end PySem.W
namespace Rx
open PySem PySem.Spec PyProof.Rows L2
structure OwnBin (K : PySem.W.Frag) (C : Addr) (op : Operator) (f : Addr) : Prop where
  first : PySem.W.selfFirst K C = true
  hs : PySem.W.findIn K (.ref C) (PySem.dunder op.info.2) = some (some (.ref f))
  hf : PySem.W.isFn K (.ref f) = true
structure OwnBinT (K : PySem.W.Frag) (C : Addr) (op : Operator) (f : Addr) : Prop extends OwnBin K C op f where
  hr : ∃ rc : Option Value, PySem.W.findIn K (.ref C) (dunderR op.info.2) = some rc ∧ (rc = none ∨ ∃ g : Addr, rc = some (.ref g))
  i1 : ∃ fo : Option Value, PySem.W.findIn K (.type "int") (PySem.dunder op.info.2) = some fo
  i2 : ∃ ro : Option Value, PySem.W.findIn K (.type "int") (dunderR op.info.2) = some ro
section
variable {α γ β : Type} {K : PySem.W.Frag} {H1 : Hp} {g : TG} {tt : TT} {te : TE} {vl : List Nat} {σ : L2.St} {Qd : Hp → Prop} {L : Addr}
end
end Rx
namespace Rx
open PySem PySem.Spec PyProof.Rows L2
section
variable {K : PySem.W.Frag} {ms ms' : List Addr} {ps : List PEn} {H0 H H' H1 : Hp} {L L' : Addr} {d d' : D} {ds : List D} {u x : V} {vs : List V}
end
end Rx
namespace Rx
open PySem PySem.Spec PyProof.Rows L2
end Rx
namespace Rx
open PySem PySem.Spec PyProof.Rows L2
end Rx
namespace Rx
open PySem PySem.Spec PyProof.Rows L2
end Rx
namespace PySem.W
open Lean Elab Tactic Meta PySem PySem.Calls PyProof.Rows
section
variable {prog : Program} {w : World} {M : Model} {A : Around} {E : Value → Shared → Prop} {s : Shared} {K : Frag} {y C L f g : Addr} {h₀ : Heap} {m : Str → Option Value} {oy : Obj} {oe : Option Obj} {n : Int} {t : Tok}
end
end PySem.W
namespace Rx
open PySem PySem.Spec PyProof.Rows L2 RZ
structure OwnNeg (K : PySem.W.Frag) (C f : Addr) : Prop where
  hs : PySem.W.findIn K (.ref C) "__neg__" = some (some (.ref f))
  hf : PySem.W.isFn K (.ref f) = true
structure OwnBinR (K : PySem.W.Frag) (C : Addr) (op : Operator) (g : Addr) : Prop where
  first : PySem.W.selfFirst K C = true
  hs : ∃ f : Addr, PySem.W.findIn K (.ref C) (PySem.dunder op.info.2) = some (some (.ref f))
  hr : PySem.W.findIn K (.ref C) (dunderR op.info.2) = some (some (.ref g))
  hg : PySem.W.isFn K (.ref g) = true
  hsub : PySem.W.subIn K (.ref C) (.type "int") = some false
section
variable {α γ β S : Type}
variable {H1 : Hp} {g : TG} {tt : TT} {te : TE} {vl : List Nat} {σ : L2.St} {Qd : Hp → Prop} {L : Addr} {J : It}
variable {tb : TS} {D' : Ends}
end
end Rx
namespace PySem.W
open PySem PySem.Calls PyProof.Rows Builtin
section
variable {prog : Program} {w : World} {A : Around} {E : Value → Shared → Prop} {s : Shared} {K : Frag} {x C L f : Addr} {h₀ : Heap} {m : Str → Option Value} {ox : Obj} {od : Option Obj}
end
end PySem.W
namespace Rx
open PySem PySem.Spec PyProof.Rows L2
abbrev GL (a : Addr) (rest : List Value) : List Code := [.builtin "list.__repr__.loop" ⟨.ref a :: rest, []⟩]
structure FnQ (P : Program) (w : World) (K : PySem.W.Frag) (mg : Str → Option Value) (base : Heap) (k : Nat) (f : Addr) (fd : FuncData) (ps : List Str) (sp : Addr → Sp) : Prop where
  len : ∀ a vs H Q E, sp a vs H Q E → vs.length = ps.length
  run : ∀ (a : Addr) (rest : List Value) (A : Around), A.guards = some (GL a rest) → Room k A → ∀ (outer : List Env) (s : Shared) (H : Hp) (args : Args) (us : List Value) (vs : List V) (Q : VK) (E : XK), Env0 P w K mg base A outer s H → BindsTo s fd args (ps.zip us) → Vals vs us → sp a vs H Q E →
    codeAny (model P w) A (.call (.ref f) args) (CR CX0 outer P w H s Q E) s
theorem FnQ.mono {P : Program} {w : World} {K : PySem.W.Frag} {mg : Str → Option Value} {base : Heap} {j k : Nat} {f : Addr} {fd : FuncData} {ps : List Str} {sp : Addr → Sp} (F : FnQ P w K mg base j f fd ps sp) (h : j ≤ k) : FnQ P w K mg base k f fd ps sp :=
  ⟨F.len, fun a rest A gu hr => F.run a rest A gu (hr.mono h)⟩
section
variable {P : Program} {w : World} {K : PySem.W.Frag} {mg : Str → Option Value} {base : Heap}
end
def NoRd (H : Hp) (a : Addr) : Prop := ∃ vs b C dx fs, H a = some (.lst vs) ∧ V.ref b ∈ vs ∧ H b = some (.ins C dx fs)
theorem NoRd.ext {H H' : Hp} {a : Addr} (h : NoRd H a) (e : Ret [] H H') : NoRd H' a := by
  obtain ⟨vs, b, C, dx, fs, h1, h2, h3⟩ := h
  exact ⟨vs, b, C, dx, fs, e.keep h1, h2, e.keep h3⟩
section
variable {X : Cx} {pins : List (Addr × Obj)} {σ : L2.St} {H : Hp} {s : Shared}
end
section
variable {X : Cx}
end
section
variable {X : Cx} {n : Nat} {C f : Addr} {fd : FuncData} {ps : List Str} {sp : Addr → Sp}
end
section
variable {α : Type} {e : α → D} {C : Addr} {ns : List Str} {ms : List Addr} {H : Hp} {M : α → (Str → Prop) → Prop} {sp : Addr → Sp} {Q : VK} {KM : List Str → Prop}
end
end Rx
namespace PySem.W
open Lean Elab Tactic Meta PySem PySem.Calls PyProof.Rows
section
variable {prog : Program} {w : World} {A : Around} {E : Value → Shared → Prop} {s : Shared} {K : Frag} {x y C L f : Addr} {h₀ : Heap} {m : Str → Option Value} {ox oy : Obj} {od oe : Option Obj}
end
end PySem.W
namespace Rx
open PySem PySem.Spec PyProof.Rows L2
structure OwnIn (K : PySem.W.Frag) (C : Addr) (op : Operator) (f : Addr) : Prop extends OwnBin K C op f where
  mro : ∃ cd, PySem.W.clsIn K C = some cd ∧ cd.mro = [.ref C, .type "object"]
  hi : PySem.W.findIn K (.ref C) (dunderI op.info.2) = some none
structure SMet (K : PySem.W.Frag) (C : Addr) (m : Str) (g : Addr) : Prop where
  mc : ∃ mc, ClX.CRead K C mc ∧ ∃ p, PySem.W.findCls K (.ref C) mc m = some (.get (.builtin "staticmethod.__get__") (.ref p) .none (.ref C)) ∧ ∃ rest, PySem.W.recIn K p "staticmethod" = some (.ref g :: rest)
section
variable {X : Cx} {CX : CXT} {k : Nat} {C g : Addr} {fd : FuncData} {ps : List Str} {sp : Sp} {E : XK} {o e : Expr} {es : List Expr} {m : Str} {pos apos : Pos} {ta : TE} {t : TA}
end
end Rx
namespace Rx
open PySem PySem.Spec PyProof.Rows L2
def Apart (d e : D) : Prop := ∀ (ms ms' : List Addr) (H : Hp) (u : V), rep ms H d u → rep ms' H e u → False
section
variable {x : V} {ds es : List D} {C C' : Addr} {ns ns' : List Str}
theorem Apart.symm {d e : D} (h : Apart d e) : Apart e d := fun ms ms' H u a b => h ms' ms H u b a
end
mutual
/-- no list within d can be the one that tells e -/
def ApIn (e : D) : D → Prop
  | .v _ => True
  | .lst ds => Apart (.lst ds) e ∧ ApIns e ds
  | .tup ds => ApIns e ds
  | .ins _ _ ds => ApIns e ds
  | .dct _ _ => False
  | .dcT _ _ => False
def ApIns (e : D) : List D → Prop
  | [] => True
  | d :: ds => ApIn e d ∧ ApIns e ds
end
section
variable {ms ms' : List Addr} {ps : List PEn} {H0 H : Hp} {L : Addr} {es : List D}
theorem ne_dr {p : Addr} (dr : Drop ms L ms') (n : p ∉ ms') (q : p ≠ L) : p ∉ ms := fun z => (dr.ex p z).elim n q
mutual
theorem rep_liftA (dr : Drop ms L ms') (m : MutO ms ps H0 H L (.lst es)) : ∀ (d : D) (u : V), ApIn (.lst es) d → rep ms' H d u → rep ms H d u
  | .v x, u, _, h => by
    simp only [rep] at h ⊢
    exact h
  | .lst ds, u, n, h => by
    simp only [ApIn] at n
    have h0 := h
    simp only [rep] at h ⊢
    obtain ⟨p, vs, rfl, np, hp, hl⟩ := h
    refine ⟨p, vs, rfl, ne_dr dr np fun z => ?_, hp, repL_liftA dr m ds vs n.2 hl⟩
    rw [z] at h0
    exact n.1 _ _ _ _ h0 (mo_rep (ms' := []) (by simp) (fun a ha => absurd ha List.not_mem_nil) m)
  | .tup ds, u, n, h => by
    simp only [ApIn] at n
    simp only [rep] at h ⊢
    obtain ⟨p, vs, rfl, np, hp, hl⟩ := h
    refine ⟨p, vs, rfl, ne_dr dr np fun z => ?_, hp, repL_liftA dr m ds vs n hl⟩
    have := m.isMo
    rw [← z, hp] at this
    exact this
  | .ins C ns ds, u, n, h => by
    simp only [ApIn] at n
    simp only [rep] at h ⊢
    obtain ⟨p, dx, vs, rfl, np, hp, hn, hl⟩ := h
    refine ⟨p, dx, vs, rfl, ne_dr dr np fun z => ?_, hp, hn, repL_liftA dr m ds vs n hl⟩
    have := m.isMo
    rw [← z, hp] at this
    exact this
  | .dct _ ds, u, n, h => by
    simp only [ApIn] at n
  | .dcT _ ds, u, n, h => by
    simp only [ApIn] at n
theorem repL_liftA (dr : Drop ms L ms') (m : MutO ms ps H0 H L (.lst es)) : ∀ (ds : List D) (us : List V), ApIns (.lst es) ds → repL ms' H ds us → repL ms H ds us
  | [], us, _, h => by
    simp only [repL] at h ⊢
    exact h
  | d :: ds, us, n, h => by
    simp only [ApIns] at n
    simp only [repL] at h ⊢
    obtain ⟨u, ws, e, h1, h2⟩ := h
    exact ⟨u, ws, e, rep_liftA dr m d u n.1 h1, repL_liftA dr m ds ws n.2 h2⟩
end
end
end Rx
namespace Rx
open PySem PySem.Spec PyProof.Rows L2
end Rx
namespace Rx
open PySem PySem.Spec PyProof.Rows L2
section
variable {e : D} {x : V} {C : Addr} {ns : List Str} {ds : List D}
end
end Rx
namespace Rx
open PySem PySem.Spec PyProof.Rows L2
section
variable {α γ β : Type} {K : PySem.W.Frag} {H1 : Hp} {g : TG} {tt : TT} {te : TE} {vl : List Nat} {σ : L2.St} {Qd : Hp → Prop} {L : Addr}
end
end Rx
namespace Rx
open PySem PySem.Spec PyProof.Rows L2
section
variable {α : Type} {K : PySem.W.Frag} {H1 : Hp} {ms : List Addr}
end
section
end
section
end
section
variable {K : PySem.W.Frag} {ms : List Addr} {ps : List PEn} {H0 H : Hp} {x : V} {L : Addr} {ds : List D}
end
section
section
variable {X : Cx} {pins : List (Addr × Obj)} {σ : L2.St} {H : Hp} {s : Shared} {ms : List Addr}
end
end
section
variable {ms : List Addr} {p : Addr} {He H0 H H1 : Hp}
end
end Rx
namespace Rx
open PySem PySem.Spec PyProof.Rows L2
end Rx
namespace Rx
open PySem PySem.Spec PyProof.Rows L2
section
variable {ms : List Addr} {ps ps' : List PEn} {cs : List (Addr × List V)} {H0 H H' : Hp}
end
end Rx
namespace Rx
open PySem PySem.Spec PyProof.Rows L2
end Rx
namespace Rx
open PySem PySem.Spec PyProof.Rows L2
section
variable {ms ms' : List Addr} {ps : List PEn} {cs : List (Addr × List V)} {H0 H H1 H' : Hp} {C : Addr} {ns : List Str} {ds : List D} {cls : Value} {d : Option Addr}
end
inductive ClsOk (X : Cx) (n : Str) : List ExceptHandler → List (Value × (Addr → Value → Option Addr → TS)) → Prop
  | nil : ClsOk X n [] []
  | cons {x : Str} {c : Value} {ts : Addr → Value → Option Addr → TS} {st1 : Stmt} {suite : List Stmt} {np pos' : Pos} {hds : List ExceptHandler} {l : List (Value × (Addr → Value → Option Addr → TS))} (names : Names X x c)
      (each : ∀ (a : Addr) (oe : Obj) (cls : Value) (d : Option Addr) (pn : List (Addr × Obj)), Zc cls d oe → (∃ vs, oe.data = .fields vs) → PSs (X.suite a ((a, oe) :: pn)) (st1 :: suite) (ts a cls d)) (r : ClsOk X n hds l) :
      ClsOk X n (.ExceptHandler (some (.Name x np)) (some n) (st1 :: suite) pos' :: hds) ((c, ts) :: l)
end Rx
namespace Rx
open PySem PySem.Spec PyProof.Rows L2
section
variable {X : Cx} {pins : List (Addr × Obj)} {σ : L2.St} {H : Hp} {s : Shared}
end
def pyKey : Key → PyData
  | .inl i => .int i
  | .inr z => .str z
mutual
def pyX : D → PyData
  | .v .non => .none
  | .v (.bl b) => .bool b
  | .v (.int i) => .int i
  | .v (.str z) => .str z
  | .v _ => .none
  | .lst ds => .list (pyXs ds)
  | .tup ds => .tuple (pyXs ds)
  | .ins _ _ _ => .none
  | .dct ks ds => .dict ((ks.map pyKey).zip (pyXs ds))
  | .dcT _ _ => .none
def pyXs : List D → List PyData
  | [] => []
  | d :: ds => pyX d :: pyXs ds
def plainX : D → Bool
  | .v .non => true
  | .v (.bl _) => true
  | .v (.int _) => true
  | .v (.str _) => true
  | .v _ => false
  | .lst ds => plainXs ds
  | .tup ds => plainXs ds
  | .ins _ _ _ => false
  | .dct ks ds => decide (ks.length = ds.length) && plainXs ds
  | .dcT _ _ => false
def plainXs : List D → Bool
  | [] => true
  | d :: ds => plainX d && plainXs ds
end
section
variable {X : Cx} {pins : List (Addr × Obj)} {σ : L2.St} {H : Hp} {s : Shared} {ms : List Addr}
abbrev ShX (X : Cx) (s : Shared) (v : Value) (d : PyData) : Prop := ∃ as bs, Reads s.heap v d as ∧ ReadAtMost s.heap d.depth bs ∧ ReprK X.prog X.w bs s.heap d.depth v d.shown
abbrev ShXs (X : Cx) (s : Shared) (vs : List Value) (ds : List PyData) : Prop := ∃ as bs, ReadsAll s.heap vs ds as ∧ ReadAtMost s.heap (PyData.depthAll ds) bs ∧ ReprAllK X.prog X.w bs s.heap (PyData.depthAll ds) vs (PyData.shownAll ds)
theorem pyXs_len : ∀ ds : List D, (pyXs ds).length = ds.length
  | [] => rfl
  | d :: ds => by
    simp only [pyXs, List.length_cons]
    rw [pyXs_len ds]
theorem entries_vals {P : Program} {w : World} : ∀ {ks : List Key} {vs : List V} {ws : List (Key × Value)} {es : List DictEntry}, ks.length = vs.length → KV (ks.zip vs) ws → Pairs (mixKind P w) es ws →
    Vals (ks.map kV) (es.map (·.key)) ∧ Vals vs (es.map (·.val))
  | [], [], _, _, _, kv, pr => by
    cases kv
    cases pr
    exact ⟨.nil, .nil⟩
  | k :: ks, v :: vs, _, _, hl, kv, pr => by
    cases kv with
    | cons h1 h2 =>
      cases pr with
      | cons e1 e2 e3 =>
        obtain ⟨i1, i2⟩ := entries_vals (by simpa using hl) h2 e3
        exact ⟨.cons (relV_key (by have z := e1; rw [← h1.1] at z; exact z)) i1, .cons (by have z := h1.2; rw [← e2] at z; exact z) i2⟩
  | [], _ :: _, _, _, hl, _, _ => by simp at hl
  | _ :: _, [], _, _, hl, _, _ => by simp at hl
theorem shKeys (X : Cx) (s : Shared) : ∀ (ks : List Key) (us : List Value), Vals (ks.map kV) us → PyData.showableAll (ks.map pyKey) = true → (∀ t ∈ PyData.shownAll (ks.map pyKey), t.length ≤ sizeLine) → ShXs X s us (ks.map pyKey)
  | [], us, r, _, _ => by
    cases r
    exact ⟨_, [], .nil, (fun _ z => nomatch z), by simp only [List.map_nil, PyData.shownAll]; exact .nil⟩
  | k :: ks, us, r, sh, sz => by
    cases r with
    | cons r1 r2 =>
      simp only [List.map_cons, PyData.showableAll, PyData.shownAll, Bool.and_eq_true] at sh sz ⊢
      obtain ⟨a2, b2, d2, m2, k2⟩ := shKeys X s ks _ r2 sh.2 (fun t ht => sz t (List.mem_cons_of_mem _ ht))
      have one : ∀ v', RelV (kV k) v' → ShX X s v' (pyKey k) := fun v' r1 => by
        cases k with
        | inl i =>
          obtain ⟨t, rfl⟩ := r1
          exact ⟨_, [], .int i t, (fun _ z => nomatch z), by simp only [pyKey, PyData.shown]; exact .of_is (ReprIs.int t (by simpa [pyKey, PyData.showable] using sh.1)) _ _ _⟩
        | inr z =>
          obtain ⟨t, rfl⟩ := r1
          exact ⟨_, [], .str z t, (fun _ z => nomatch z), by simp only [pyKey, PyData.shown]; exact .of_is (ReprIs.str z t (by simpa only [pyKey, PyData.shown] using sz _ List.mem_cons_self)) _ _ _⟩
      obtain ⟨a1, b1, d1, m1, k1⟩ := one _ r1
      refine ⟨_, b1 ++ b2, .cons d1 d2, ?_, ?_⟩
      · simp only [PyData.depthAll]
        exact ReadAtMost.append (m1.mono (Nat.le_max_left _ _)) (m2.mono (Nat.le_max_right _ _))
      · simp only [PyData.depthAll]
        exact .cons ((k1.more fun _ z => List.mem_append_left _ z).level_le (Nat.le_max_left _ _)) (k2.more_le (fun _ z => List.mem_append_right _ z) (Nat.le_max_right _ _))
theorem reads_nil {h : Heap} {xs : List PyData} {as : List Addr} (r : ReadsAll h [] xs as) : xs = [] := by
  cases r
  rfl
mutual
theorem shX (I : L2.Inv X pins σ H s) : ∀ (d : D) (u : V) (v : Value), plainX d = true → rep ms H d u → RelV u v → (pyX d).showable = true → (pyX d).shown.length ≤ sizeLine → ShX X s v (pyX d)
  | .v x, u, v, p, h, r, sh, sz => by
    obtain rfl := of_v h
    cases u <;> simp only [plainX, pyX] at p sh sz ⊢
    case non =>
      cases r
      exact ⟨_, [], .none, (fun _ z => nomatch z), by simp only [PyData.shown]; exact .of_is ReprIs.none _ _ _⟩
    case bl b =>
      cases r
      exact ⟨_, [], .bool b, (fun _ z => nomatch z), by simp only [PyData.shown]; exact .of_is (ReprIs.bool b) _ _ _⟩
    case int i =>
      obtain ⟨t, rfl⟩ := r
      exact ⟨_, [], .int i t, (fun _ z => nomatch z), by simp only [PyData.shown]; exact .of_is (ReprIs.int t (by simpa [PyData.showable] using sh)) _ _ _⟩
    case str z =>
      obtain ⟨t, rfl⟩ := r
      exact ⟨_, [], .str z t, (fun _ z => nomatch z), by simp only [PyData.shown]; exact .of_is (ReprIs.str z t (by simpa only [PyData.shown] using sz)) _ _ _⟩
    all_goals cases p
  | .lst ds, u, v, p, h, r, sh, sz => by
    simp only [rep] at h
    obtain ⟨a, vs, rfl, _, hp, hl⟩ := h
    cases r
    obtain ⟨its, rv, ⟨o, n, ho, hc, _, hd⟩, _⟩ := I.list (.inl (.inl hp))
    simp only [plainX] at p
    simp only [pyX, PyData.showable, PyData.shown] at sh sz ⊢
    obtain ⟨as, bs, rd, most, all⟩ := shXs I ds vs its p hl rv sh (fun t ht => Nat.le_trans (listText_mem_le ht) sz)
    have rl : Reads s.heap (.ref a) (.list (pyXs ds)) _ := Reads.list ho hc hd rd
    have na : a ∉ bs := not_mem_of_deeper rl (by simp only [PyData.depth]; omega) most
    refine ⟨_, a :: bs, rl, ReadAtMost.cons rl (by simp only [PyData.depth]; omega) most, ?_⟩
    simp only [PyData.depth, PyData.shown]
    cases its with
    | nil =>
      rw [reads_nil rd]
      simp only [PyData.shownAll, listText_nil]
      exact ReprK.listEmpty ho hc hd
    | cons y l => exact ReprK.list ho hc hd na (by simpa using all.length_eq) (fun j z e => all.item j z (by simpa using e))
  | .tup ds, u, v, p, h, r, sh, sz => by
    simp only [rep] at h
    obtain ⟨a, vs, rfl, _, hp, hl⟩ := h
    cases r
    obtain ⟨its, rv, ⟨o, ho, hc, n, hd⟩, _⟩ := I.tuple (.inl (.inl hp))
    simp only [plainX] at p
    simp only [pyX, PyData.showable, PyData.shown] at sh sz ⊢
    obtain ⟨as, bs, rd, most, all⟩ := shXs I ds vs its p hl rv sh (fun t ht => Nat.le_trans (tupleText_mem_le ht) sz)
    have rl : Reads s.heap (.ref a) (.tuple (pyXs ds)) _ := Reads.tuple ho hc hd rd
    have na : a ∉ bs := not_mem_of_deeper rl (by simp only [PyData.depth]; omega) most
    refine ⟨_, a :: bs, rl, ReadAtMost.cons rl (by simp only [PyData.depth]; omega) most, ?_⟩
    simp only [PyData.depth, PyData.shown]
    exact ReprK.tuple ho hc hd na all
  | .ins _ _ _, u, v, p, h, r, sh, sz => by simp only [plainX] at p; cases p
  | .dct ks ds, u, v, p, h, r, sh, sz => by
    simp only [rep] at h
    obtain ⟨a, vs, rfl, _, hp, hlk, hl⟩ := h
    cases r
    obtain ⟨_, low, ws, kv, o, es, ep, ho, hc, hd, _, pr, _⟩ := dk_of I.hok hp
    simp only [plainX, Bool.and_eq_true, decide_eq_true_eq] at p
    obtain ⟨vk, vv⟩ := entries_vals (ks := ks) hlk kv pr
    have lx : (ks.map pyKey).length = (pyXs ds).length := by rw [List.length_map, pyXs_len]; exact p.1
    simp only [pyX, PyData.showable, PyData.shown] at sh sz ⊢
    generalize hkv : (ks.map pyKey).zip (pyXs ds) = kvs at sh sz ⊢
    have f1 : kvs.map (·.1) = ks.map pyKey := by rw [← hkv]; exact List.map_fst_zip (by omega)
    have f2 : kvs.map (·.2) = pyXs ds := by rw [← hkv]; exact List.map_snd_zip (by omega)
    obtain ⟨s1, s2⟩ := PyData.showableKv_split kvs sh
    obtain ⟨as1, b1, d1, m1, k1⟩ := shKeys X s ks _ vk (by rw [← f1]; exact s1) (fun t ht => let ⟨q, hq, hql⟩ := PyData.shownKv_key_le kvs t (by rw [f1]; exact ht); Nat.le_trans hql (Nat.le_trans (dictText_mem_le hq) sz))
    obtain ⟨as2, b2, d2, m2, k2⟩ := shXs I ds vs _ p.2 hl vv (by rw [← f2]; exact s2) (fun t ht => let ⟨q, hq, hql⟩ := PyData.shownKv_val_le kvs t (by rw [f2]; exact ht); Nat.le_trans hql (Nat.le_trans (dictText_mem_le hq) sz))
    rw [← f1] at d1 m1 k1
    rw [← f2] at d2 m2 k2
    have rl : Reads s.heap (.ref a) (.dict kvs) _ := Reads.dict ho hc.1 hd d1 d2
    have hb : ReadAtMost s.heap (PyData.depthKv kvs) (b1 ++ b2) := (m1.mono (PyData.depthAll_keys_le kvs)).append (m2.mono (PyData.depthAll_vals_le kvs))
    have na : a ∉ b1 ++ b2 := not_mem_of_deeper rl (by simp only [PyData.depth]; omega) hb
    refine ⟨_, a :: (b1 ++ b2), rl, ReadAtMost.cons rl (by simp only [PyData.depth]; omega) hb, ?_⟩
    simp only [PyData.depth, PyData.shown, PyData.shownKv_eq]
    exact ReprK.dict ho hc.1 hd low na (ReprEntriesK.of_two es.toList _ _
      (k1.more_le (fun b hb => List.mem_append_left _ hb) (PyData.depthAll_keys_le kvs)) (k2.more_le (fun b hb => List.mem_append_right _ hb) (PyData.depthAll_vals_le kvs)))
  | .dcT _ _, u, v, p, h, r, sh, sz => by simp only [plainX] at p; cases p
theorem shXs (I : L2.Inv X pins σ H s) : ∀ (ds : List D) (us : List V) (vs : List Value), plainXs ds = true → repL ms H ds us → Vals us vs → PyData.showableAll (pyXs ds) = true → (∀ t ∈ PyData.shownAll (pyXs ds), t.length ≤ sizeLine) → ShXs X s vs (pyXs ds)
  | [], us, vs, p, h, r, sh, sz => by
    obtain rfl := repL_empty h
    cases r
    simp only [pyXs]
    exact ⟨_, [], .nil, (fun _ z => nomatch z), by simp only [PyData.shownAll]; exact .nil⟩
  | d :: ds, us, vs, p, h, r, sh, sz => by
    obtain ⟨u, ws, rfl, h1, h2⟩ := repL_uncons h
    cases r with
    | cons r1 r2 =>
      simp only [plainXs, Bool.and_eq_true] at p
      simp only [pyXs, PyData.showableAll, PyData.shownAll, Bool.and_eq_true] at sh sz ⊢
      obtain ⟨a1, b1, d1, m1, k1⟩ := shX I d u _ p.1 h1 r1 sh.1 (sz _ List.mem_cons_self)
      obtain ⟨a2, b2, d2, m2, k2⟩ := shXs I ds ws _ p.2 h2 r2 sh.2 (fun t ht => sz t (List.mem_cons_of_mem _ ht))
      refine ⟨_, b1 ++ b2, .cons d1 d2, ?_, ?_⟩
      · simp only [PyData.depthAll]
        exact ReadAtMost.append (m1.mono (Nat.le_max_left _ _)) (m2.mono (Nat.le_max_right _ _))
      · simp only [PyData.depthAll]
        exact .cons ((k1.more fun _ z => List.mem_append_left _ z).level_le (Nat.le_max_left _ _)) (k2.more_le (fun _ z => List.mem_append_right _ z) (Nat.le_max_right _ _))
end
end
end Rx
namespace Rx
open PySem PySem.Spec PyProof.Rows L2
section
variable {P : Program} {w : World} {K : PySem.W.Frag} {mg mb : Str → Option Value} {k : Nat} {fa a : Addr} {fd : FuncData} {x : Str} {sp : Sp} {s1 : Shared} {vs : List Value} {ns : List Int} {cs : List (Addr × Addr)}
structure TabT (K : PySem.W.Frag) (h : Heap) (cs : List (Addr × Addr)) : Prop where
  at_ : ∀ p ∈ cs, h.get? p.2 = some { cls := .none, data := .fields #[] }
  un : ∀ p ∈ cs, K.lookup p.2 = none
  cd : ∀ p ∈ cs, PySem.W.CodeHd h p.1 p.2
end
end Rx
namespace Rx
open PySem PySem.Spec PyProof.Rows L2
section
variable {P : Program} {w : World} {K : PySem.W.Frag} {mg : Str → Option Value} {base : Heap}
end
section
variable {X : Cx}
end
end Rx
namespace Rx
open PySem PySem.Spec PyProof.Rows L2
end Rx
namespace Rx
open PySem PySem.Spec PyProof.Rows L2
section
variable {ms : List Addr} {ps : List PEn} {H0 H H1 H' : Hp} {d : D} {u : V} {L : Addr}
end
end Rx
namespace Rx
open PySem PySem.Spec PyProof.Rows L2
end Rx
namespace Rx
open PySem PySem.Spec PyProof.Rows L2
section
end
end Rx
namespace Rx
open PySem PySem.Spec PyProof.Rows L2
structure OexG (K : PySem.W.Frag) (C : Addr) : Prop where
  base : ∃ (B newId initId : String) (bmB : List Value), ExcBaseFacts B newId initId bmB ∧ StoreFacts B bmB "object.__setattr__" "object" ∧ PySem.W.excInitIn K C bmB newId = true ∧ PySem.W.excOver K C bmB = true
  cd : ∃ cd, PySem.W.clsIn K C = some cd ∧ cd.hasDict = true
  sa : PySem.W.findIn K (.ref C) "__setattr__" = some (some (.builtin "object.__setattr__"))
  exC : PySem.W.subIn K (.ref C) (.type "BaseException") = some true
  tyC : PySem.W.typeIn K (.ref C) = some (.type "type")
  kC : PySem.W.keepIn K (.ref C) = true
section
open PySem.W Builtin Builtin.ObjectAttr
variable {prog : Program} {w : World} {A : Around} {R : Result → Shared → Prop} {hp : Heap} {g : Array GenState} {d : Drawn} {t : Nat} {os : OsState} {K : PySem.W.Frag} {x C : Addr} {name : Str} {tk : Tok} {v : Value}
end
section
variable {X : Cx} {pins : List (Addr × Obj)} {σ : L2.St} {H : Hp} {s : Shared} {a C dx : Addr} {f : Str} {y : V} {u : Value} {fs : List (Str × V)} {Q : Unit → Shared → Prop} {E : Value → Shared → Prop}
end
section
variable {X : Cx} {o e : PySem.Expr} {es : List PySem.Expr} {to te : TE} {ta : TA} {f : Str} {p p' pos : Pos}
end
section
variable {ms ms' : List Addr} {ps : List PEn} {cs : List (Addr × List V)} {H0 H H1 H' : Hp} {C : Addr}
end
end Rx
namespace Rx
open PySem PySem.Spec PyProof.Rows L2
section
variable {α : Type}
end
section
end
section
variable {K : PySem.W.Frag} {ms : List Addr} {ps : List PEn} {H0 H : Hp} {x : V} {L : Addr} {ds : List D}
end
section
variable {X : L2.Cx}
end
section
variable {X : L2.Cx} {e : PySem.Expr} {te : TE}
end
section
variable {α β : Type} {K : PySem.W.Frag} {H1 : Hp} {σ : L2.St} {Qd : Hp → Prop} {L : Addr} {ms : List Addr} {tc : TE}
end
section
variable {K : PySem.W.Frag} {ms : List Addr} {H : Hp} {x : V} {a : Addr} {ds : List D}
end
end Rx
namespace Rx
open PySem PySem.Spec PyProof.Rows L2
section
variable {M : Model} {A : Around} {E : Value → Shared → Prop} {s : Shared} {a : Addr} {pos : Pos} {Q : Value → Shared → Prop}
end
section
variable {K : PySem.W.Frag} {X : Cx} {C g0 : Addr} {CX : CXT} {k : Nat} {sp : Sp} {E : XK} {fe : PySem.Expr} {tf : TE} {tk : TA} {pos : Pos} {fd : FuncData} {ps ks : List Str} {kws : List Keyword} {g : List Value → List Value → List Value} {gV : List V → List V → List V}
end
section
variable {X : Cx} {CX : CXT} {k : Nat} {C g0 : Addr} {fd : FuncData} {ps ks : List Str} {sp : Sp} {E : XK} {o : PySem.Expr} {m : Str} {pos apos : Pos} {ta : TE} {tk : TA} {kws : List Keyword} {g : List Value → List Value → List Value} {gV : List V → List V → List V}
end
section
variable {X : Cx} {b : List Stmt} {t1 t2 : TS}
end
section
variable {ms ms' : List Addr} {ps : List PEn} {H0 H H1 : Hp} {L : Addr}
end
end Rx
namespace Rx
open PySem PySem.Spec PyProof.Rows L2
section
variable {X : Cx} {pins : List (Addr × Obj)} {σ : L2.St} {H : Hp} {s : Shared}
end
end Rx
namespace PySem.W
open Lean Elab Tactic Meta PySem PySem.Calls PyProof.Rows
section
variable {prog : Program} {w : World} {A : Around} {E : Value → Shared → Prop} {s : Shared} {K : Frag} {y C L f g : Addr} {h₀ : Heap} {m : Str → Option Value} {oy : Obj} {oe : Option Obj} {v : Value} {T : String} {b : Bool} {t : Tok}
end
end PySem.W
namespace Rx
open PySem PySem.Spec PyProof.Rows L2
structure OpN (op : Operator) : Prop where
  n : ∀ T ∈ (["NoneType", "str", "list", "tuple", "dict"] : List String), fillsNumberSlot (.type T) op.info.2 = pure false
  b : fillsNumberSlot (.type "bool") op.info.2 = pure true
  r : ∃ ro, typeLookup (.type "bool") (dunderR op.info.2) = pure ro
structure OpI (op : Operator) : Prop where
  b : fillsNumberSlot (.type "int") op.info.2 = pure true
  r : ∃ ro, typeLookup (.type "int") (dunderR op.info.2) = pure ro
end Rx
namespace Rx
open PySem PySem.Spec PyProof.Rows L2
theorem shR_ok {K : PySem.W.Frag} {a : Addr} {x q : Str} {ps : Arguments} {body : List Stmt} {sc : Scope} {dV cd : Value}
    (e : shR K a = some (x, q, ps, .stmts body, sc, mainGlobals, [], builtinsNs)) (d : dfR K a = some dV) (c : cdR K a = cd) :
    ∃ oc od sl kV dc pm an ct, K.lookup a = some ⟨oc, od, .func (PySem.W.fnOf x q ps body sc dV kV dc pm an cd ct), sl⟩ := by
  unfold shR at e
  unfold dfR at d
  unfold cdR at c
  cases z : fdR K a with
  | none =>
    rw [z] at e
    cases e
  | some fd =>
    rw [z] at e d c
    obtain ⟨n1, n2, n3, n4, n5, n6, n7, n8, n9, n10, n11, n12, n13, n14, n15⟩ := fd
    have e1 := Option.some.inj e
    have d1 := Option.some.inj d
    simp only [Prod.mk.injEq] at e1 d1 c
    obtain ⟨h1, h2, h3, h4, h5, h6, h7, h8⟩ := e1
    subst h1 h2 h3 h4 h5 h6 h7 h8 d1 c
    unfold fdR at z
    split at z
    · rename_i oc od fd sl hl
      cases z
      exact ⟨oc, od, sl, _, _, _, _, _, hl⟩
    · cases z
theorem tuR_ok {K : PySem.W.Frag} {a : Addr} {l : List Value} (e : tuR K a = some l) : ∃ to ti ts, K.lookup a = some ⟨.type "tuple", to, .seq l.toArray ti, ts⟩ := by
  unfold tuR at e
  split at e
  · rename_i c od its ti sl hl
    cases z : decide (c = "tuple") with
    | false =>
      rw [z] at e
      cases e
    | true =>
      rw [z] at e
      cases e
      rw [of_decide_eq_true z] at hl
      exact ⟨od, ti, sl, hl⟩
  · cases e
theorem rcB_ok {K : PySem.W.Frag} {p : Addr} {T : String} (e : rcB K p T = true) : ∃ R, PySem.W.recIn K p T = some (.ref (rcA K p T) :: R) := by
  unfold rcB at e
  unfold rcA
  split at e
  · rename_i a r h
    exact ⟨r, by rw [h]; rfl⟩
  · cases e
theorem frcK_eq {α : Type} : ∀ (K : PySem.W.Frag) (k : PySem.W.Frag → α), frcK K k = k K
  | [], _ => rfl
  | (a, o) :: r, k => by
    show frcK r (fun r => k ((a, o) :: r)) = _
    rw [frcK_eq r]
theorem obF_eq {n : Nat} {ea eb : PySem.W.Frag → Bool} {fn : List (PySem.W.Frag → Addr)} {vs : List He.FnW} {ts : List He.Tab} (s : PySem.W.SharedT) : obF n ea eb fn ts s = (hkR n (fun K => ea K && eb K) fn vs ts).obs s.abs := by
  have e : HandSHeadRun.getT s = s.abs.heap.get? := funext fun a => HandSHeadRun.getT_eq s a
  show (frcK (He.frT (HandSHeadRun.getT s) (List.range n)) ea && frcK (He.frT (HandSHeadRun.getT s) (List.range n)) eb, frcK (He.frT (HandSHeadRun.getT s) (List.range n)) fun K => (fn.map fun a => shR K (a K), ts.map fun t => He.dicW K (t.1 K))) = obK (fun K => ea K && eb K) fn ts (He.frT s.abs.heap.get? (List.range n))
  rw [frcK_eq, frcK_eq, frcK_eq, e]
  rfl
theorem fnAt {K : PySem.W.Frag} {fn : List (PySem.W.Frag → Addr)} {vs : List He.FnW} (c : (fn.map fun a => shR K (a K)) = vs) (i : Nat) {a : PySem.W.Frag → Addr} {v : He.FnW} (ha : fn[i]? = some a) (hv : vs[i]? = some v) : shR K (a K) = v := by
  rw [← c, List.getElem?_map, ha] at hv
  exact Option.some.inj hv
theorem tsAt {K : PySem.W.Frag} {w : World} {ts : List He.Tab} (c : (ts.map fun t => He.dicW K (t.1 K)) = ts.map fun t => some (He.keysIn w.params t.2)) (i : Nat) {t : He.Tab} (ha : ts[i]? = some t) : ∃ es n, KDict K w (t.1 K) es n := by
  have e : (ts.map fun t => He.dicW K (t.1 K))[i]? = (ts.map fun t => some (He.keysIn w.params t.2))[i]? := by rw [c]
  rw [List.getElem?_map, List.getElem?_map, ha] at e
  exact He.dicW_ok (Option.some.inj e)
theorem walk_ofGE {l : PySem.W.OpenLaw} {n k : Nat} {q : Program} {loose : List Str} {XP : (Str → Option Value) → Heap → Prop} {YP : World → Heap → Prop} {d : DefRec} {x : Str}
    (most : l.most = some n) (small : n ≤ sizeLine) (plain : d.params.defaults = []) (hr : Room k callerA)
    (F : ∀ (w : World) (mg : Str → Option Value) (fa : Addr) (h : Heap), YP w h → h.Ns mainGlobals mg → mg d.name = some (.ref fa) →
      ∃ K : PySem.W.Frag, K.In h ∧ ∃ (fd : FuncData) (sp : Sp), (∀ (s : Shared) (u : Value), BindsTo s fd ⟨[u], []⟩ [(x, u)]) ∧
        (∀ (H : Hp) (a : Addr) (ns : List Int), ns.length ≤ n → Only H → SqL K H a (ns.map V.int) → sp [.ref a] H (fun v _ => v = .bl true) E0) ∧
        ∀ base : Heap, K.In base → base.Ns mainGlobals mg → FnG l.prog w K mg base k fa fd [x] sp) :
    PySem.W.WalkO q loose XP YP l.row.toRowW d [] (fun f vs => PySem.call f vs) := by
  refine Att.attach_call most plain fun w s₀ s₁ mg mb fa o pm cd doc a vs ns G Y ho hd hcd hmg obj its0 len ng => ?_
  obtain ⟨K, KX, fd, sp, bind, enter, hF⟩ := F w mg fa _ Y G.T.g hmg
  exact callG KX G.T.g G.T.b G.T.builtins G.T.nolimit ng obj its0 (Nat.le_trans len small) hr hF bind fun H only sq => enter H a ns len only sq
end Rx

namespace Rx
open PySem PySem.Spec PyProof.Rows L2
def Uniq {α : Type} (xs : List α) (n : Nat) : Prop := ∃ l : List α, l.Nodup ∧ (∀ x, x ∈ l ↔ x ∈ xs) ∧ l.length = n
theorem Uniq.nil {α : Type} : Uniq ([] : List α) 0 := ⟨[], List.nodup_nil, fun _ => Iff.rfl, rfl⟩
section
variable {P : Program} {w : World} {κ : Type} [DecidableEq κ] {knd : PySem.KeyKind P w κ}
end
section
variable {X : Cx}
end
section
variable {ms : List Addr} {H : Hp} {x : V} {K : PySem.W.Frag}
end
section
variable {X : Cx} {o e : Expr} {to te : TE}
def rJoinK (K : PySem.W.Frag) : V → List V → Hp → VK → Prop := fun x xs H Q => ∃ a p, ∃ ys : List Str, x = .str a ∧ xs = [.ref p] ∧ (SqL K H p (ys.map V.str) ∨ SqT K H p (ys.map V.str)) ∧ (ys.map (·.length)).sum + ys.length * a.length ≤ 16777216 ∧ Q (.str (Txt.join a ys)) H
theorem pe_joinK {K : PySem.W.Frag} (hK : X.K = K) {apos pos : Pos} (ho : PE X o to) (he : PE X e te) (hs : starEach [e] X.env = [(false, eval e X.env)] := by rfl) (hb : attributeBase o "join" X.env (eval o X.env) = eval o X.env := by rfl)
    (hl : (apos.endLine == pos.line) = true := by rfl) : PE X (.Call (.Attribute o "join" apos) [e] [] pos) (tM1 (rJoinK K) to te) := by
  subst hK
  exact pe_join ho he hs hb hl
end
end Rx
namespace Rx
open PySem PySem.Spec PyProof.Rows
abbrev ItT := Addr × Str × Tok
def StI (h : Heap) (t : ItT) (i : Nat) : Prop := h.IsStrIter t.1 (strIterType t.2.1) t.2.1 t.2.2 i
def Refs (its : List ItT) : List Value := its.map fun t => .ref t.1
def Chars (i : Nat) : List ItT → List Value → Prop
  | [], vs => vs = []
  | t :: ts, vs => ∃ c u us, t.2.1.cps[i]? = some c ∧ vs = .str ⟨#[c]⟩ u :: us ∧ Chars i ts us
theorem Chars.len {i : Nat} : ∀ {its : List ItT} {vs : List Value}, Chars i its vs → vs.length = its.length
  | [], _, h => by rw [show _ = _ from h]; rfl
  | t :: ts, _, ⟨c, u, us, _, e, h⟩ => by rw [e]; simp [Chars.len h]
theorem StI.keep {h h' : Heap} {t : ItT} {i : Nat} (st : StI h t i) (k : ∀ o, h.get? t.1 = some o → h'.get? t.1 = some o) : StI h' t i := by
  obtain ⟨o, ho, r⟩ := st
  exact ⟨o, k o ho, r⟩
def Tup (h : Heap) (a : Addr) (vs : List Value) : Prop := h.get? a = some { cls := .type "tuple", data := .seq vs.toArray }
structure ZS (h : Heap) (z TI TO T : Addr) (its : List ItT) (i : Nat) : Prop where
  hz : ∃ f, IsZipHeld h z TI TO T f
  hT : ∃ o, h.get? T = some o
  hTI : Tup h TI (Refs its)
  st : ∀ t ∈ its, StI h t i
structure ZAp (S z TI TO : Addr) (its : List ItT) : Prop where
  ne0 : its ≠ []
  nd : (its.map (·.1)).Nodup
  nz : ∀ t ∈ its, z ≠ t.1
  nto : ∀ t ∈ its, t.1 ≠ TO
  zto : z ≠ TO
  tiz : TI ≠ z
  tii : ∀ t ∈ its, TI ≠ t.1
  tito : TI ≠ TO
  sz : S ≠ z
  sti : S ≠ TI
  sto : S ≠ TO
  si : ∀ t ∈ its, S ≠ t.1
  hl : its.length ≤ sizeLine
section
open L2
def col (j : Nat) (xs : List Str) : List V := xs.map fun x => V.str ⟨#[x.cps.getD j 0]⟩
end
end Rx
namespace Rx
open PySem PySem.Spec PyProof.Rows L2
def lenZ (xs : List Str) : Nat := (xs.headD ⟨#[]⟩).cps.size
structure ZL (H H2 : Hp) (L : Addr) (as : List Addr) (xs : List Str) : Prop where
  nl : H L = none
  na : ∀ a ∈ as, H a = none
  len : as.length = lenZ xs
  hL : H2 L = some (.lst (as.map V.ref))
  hA : ∀ j a, as[j]? = some a → H2 a = some (.tup (col j xs))
section
variable {K : PySem.W.Frag} {ms : List Addr} {ps : List PEn} {cs : List (Addr × List V)} {H0 H H1 H2 : Hp} {x u y : V} {d : D}
end
section
variable {α S : Type} {K : PySem.W.Frag} {H1 : Hp} {g : TG} {tb : TS} {D' : Ends} {σ : L2.St}
end
section
variable {K : PySem.W.Frag} {H : Hp}
end
section
variable {K : PySem.W.Frag} {ms : List Addr} {ps : List PEn} {cs : List (Addr × List V)} {H0 H : Hp} {x : V}
end
end Rx
namespace Rx
open PySem PySem.Spec PyProof.Rows L2
section
variable {X : L2.Cx}
end
section
variable {α : Type} {K : PySem.W.Frag} {ms : List Addr} {H : Hp} {x : V} {vs : List V}
end
section
variable {ms : List Addr} {ps : List PEn} {H0 H : Hp} {L : Addr} {ds : List D} {ks : List Key}
end
end Rx
namespace Rx
open PySem PySem.Spec PyProof.Rows L2
structure SeqIt {α : Type} (ms : List Addr) (H1 : Hp) (J : It) (items : List α) (e : α → D) : Prop where
  ex : ∃ (G : Hp → Prop) (Y : Nat → Hp → V → Hp → Prop), L2.Walk J items.length G Y ∧ (∀ H, Keep ms H1 H → G H) ∧ ∀ (i : Nat) (x : V) (H H' : Hp) (h : i < items.length), Keep ms H1 H → Y i H x H' → H' = H ∧ rep ms H (e (items[i]'h)) x
section
variable {α : Type} {K : PySem.W.Frag} {ms : List Addr} {H1 : Hp} {items : List α} {e : α → D} {a : Addr} {xs : List V}
end
section
variable {α β S : Type} {K : PySem.W.Frag} {H1 : Hp} {g : TG} {tt : TT} {te : TE} {tb : TS} {D' : Ends} {vl : List Nat} {σ : L2.St} {Qd : Hp → Prop} {L : Addr} {J : It}
end
section
variable {α : Type} {K : PySem.W.Frag} {ms : List Addr} {ps : List PEn} {H0 H : Hp} {x u : V} {f : α → D} {m : Bool × List α}
end
end Rx
namespace Rx
open PySem PySem.Spec PyProof.Rows L2
section
variable {B : Cx}
end
section
variable {X : Cx}
end
end Rx
namespace Rx
open PySem PySem.Spec PyProof.Rows L2
section
variable {α : Type} {K : PySem.W.Frag} {H1 : Hp} {σ : L2.St} {J : It} {ms : List Addr}
end
section
variable {ms : List Addr} {ps : List PEn} {H0 H H' : Hp} {L : Addr}
end
end Rx
namespace Rx
open PySem PySem.Spec PyProof.Rows L2
section
variable {α : Type} {ms : List Addr} {H : Hp} {x kx : V} {e : α → D}
end
end Rx
namespace Rx
open PySem PySem.Spec PyProof.Rows L2
section
variable {X : Cx} {n : Nat} {CX : CXT} {C f : Addr} {fd : FuncData} {ps : List Str} {sp : Sp} {E : XK}
end
end Rx
namespace Rx
open PySem PySem.Spec PyProof.Rows L2
end Rx
namespace Rx
open PySem PySem.Spec PyProof.Rows L2
end Rx
namespace Rx
open PySem PySem.Spec PyProof.Rows L2
section
variable {K : PySem.W.Frag} {ms ms2 : List Addr} {H : Hp} {x y : V} {d : D} {es : List D} {Q : VK}
end
end Rx
namespace Rx
open PySem PySem.Spec PyProof.Rows L2
end Rx
namespace Rx
open PySem PySem.Spec PyProof.Rows L2
section
variable {X : Cx} {K : PySem.W.Frag}
end
section
variable {K : PySem.W.Frag} {ms : List Addr} {H : Hp} {x y : V} {d : D} {es : List D} {Q : VK}
end
section
variable {ms ms' : List Addr} {ps : List PEn} {H00 H0 H H' : Hp} {L p b : Addr} {u v : V} {d : D}
theorem none0 (w : Wd ms ps [] H0 H) (n : H b = none) : H0 b = none := Classical.byContradiction fun z => w.grow b z n
structure Own2 (H : Hp) (v : V) (As : List Addr) : Prop where
  at_ : ∃ p us, v = .ref p ∧ ((p ∈ As ∧ H p = some (.lst us)) ∨ H p = some (.tup us)) ∧ ∀ u ∈ us, ∃ b, u = .ref b ∧ b ≠ p ∧ ((b ∈ As ∧ ∃ ws, H b = some (.lst ws)) ∨ ∃ ws, H b = some (.tup ws))
  lst : ∀ a ∈ As, ∃ xs, H a = some (.lst xs)
structure Emp (As : List Addr) (H H' : Hp) : Prop where
  out : ∀ b, b ∉ As → H' b = H b
  lst : ∀ a ∈ As, ∃ xs, H' a = some (.lst xs)
end
end Rx
namespace Rx
open PySem PySem.Spec PyProof.Rows L2
abbrev lsI (xs : List Int) : D := D.lst (xs.map fun y_ : Int => (D.v (V.int y_)))
section
variable {ms : List Addr} {ps : List PEn} {H0 H H' : Hp} {p : Addr} {v x : V}
theorem rep_dT {ks : List (List L2.Key)} {ds : List D} (h : rep ms H (.dcT ks ds) v) : ∃ p vs, v = .ref p ∧ p ∉ ms ∧ H p = some (.dT (ks.zip vs)) ∧ ks.length = vs.length ∧ repL ms H ds vs := by
  simp only [rep] at h
  exact h
theorem repL_valsD {kvs : List (List L2.Key × V)} (hp : H p = some (.dT kvs)) : ∀ {m : List (List L2.Key × List Int)} {vs : List V}, repL ms H (m.map fun q => lsI q.2) vs → repL (p :: ms) H (m.map fun q => lsI q.2) vs
  | [], _, h => h
  | q :: m, vs, h => by
    obtain ⟨u, us, rfl, h1, h2⟩ := repL_uncons h
    refine repL_cons ?_ (repL_valsD hp h2)
    obtain ⟨a, ws, rfl, na, ha, hr⟩ := rep_lstAt h1
    simp only [rep]
    refine ⟨a, ws, rfl, fun z => ?_, ha, ?_⟩
    · rcases List.mem_cons.mp z with z | z
      · rw [z, hp] at ha
        cases ha
      · exact na z
    · have e := (repL_flat (xs := q.2.map V.int) (vs := ws) (ms := ms) (H := H)).mp (by rw [List.map_map]; exact hr)
      have f := (repL_flat (xs := q.2.map V.int) (vs := ws) (ms := p :: ms) (H := H)).mpr e
      rw [List.map_map] at f
      exact f
theorem wd_lock {o u : HO} (w : Wd ms ps [] H0 H) (pin : p ∈ ms) (z : H0 p = none) (hp : H p = some u) (h1 : ∀ xs, u ≠ .lst xs) (h2 : ∀ xs, u ≠ .tbl xs) (h3 : ∀ q, u ≠ LamX.CodeO p q) : Wd ms ps [] H0 (upd H p o) := by
  have nb : ∀ b, H b ≠ none → (upd H p o) b ≠ none := fun b h => by
    by_cases c : b = p
    · rw [c, upd_same]
      exact fun z => nomatch z
    · rw [upd_ne c]
      exact h
  refine ⟨fun a u na h => ?_, fun a h => nb a (w.grow a h), fun m h => nb m (w.tr m h), fun q hq => ?_, w.pm, fun _ h => absurd h List.not_mem_nil⟩
  · rw [upd_ne fun e => by rw [e, z] at h; cases h]
    exact w.kp a u na h
  · have ne : q.1 ≠ p := fun e => by
      rcases ent_ne (w.pot q hq) (by rw [e]; exact hp) with ⟨xs, k⟩ | ⟨xs, k⟩
      · exact h1 xs k
      · exact h2 xs k
    refine ent_stay (w.pot q hq) (fun o h => by rw [upd_ne ne]; exact h) fun c nm h => ?_
    rw [upd_ne fun e => by rw [e, hp] at h; exact h3 nm (Option.some.inj h)]
    exact h
theorem wd_lockT {o : HO} {kvs : List (List L2.Key × V)} (w : Wd ms ps [] H0 H) (pin : p ∈ ms) (z : H0 p = none) (hp : H p = some (.dT kvs)) : Wd ms ps [] H0 (upd H p o) :=
  wd_lock w pin z hp (fun _ z => nomatch z) (fun _ z => nomatch z) (fun _ z => nomatch z)
theorem wd_lockF {o u : HO} {od : Obj} (w : Wd ms ps [] H0 H) (pin : p ∈ ms) (z : H0 p = none) (hp : H p = some (.frz od u)) : Wd ms ps [] H0 (upd H p o) :=
  wd_lock w pin z hp (fun _ z => nomatch z) (fun _ z => nomatch z) (fun _ z => nomatch z)
theorem dT_pot {ps' : List PEn} {kvs : List (List L2.Key × V)} (w : Wd ms ps' [] H0 H) (hp : H p = some (.dT kvs)) : p ∉ ad ps' := fun z => by
  obtain ⟨q, hq, e⟩ := List.mem_map.mp z
  rcases ent_ne (w.pot q hq) (by rw [e]; exact hp) with ⟨xs, k⟩ | ⟨xs, k⟩ <;> cases k
theorem val_at {ks : List L2.Key} {y : List Int} : ∀ {m : List (List L2.Key × List Int)} {vs : List V}, repL ms H (m.map fun q => lsI q.2) vs → Rx.getD m ks = some y → ∃ u, valV ((m.map (·.1)).zip vs) ks = some u ∧ rep ms H (lsI y) u
  | [], _, _, hg => by simp [Rx.getD] at hg
  | q :: m, vs, h, hg => by
    obtain ⟨u, us, rfl, h1, h2⟩ := repL_uncons h
    by_cases c : q.1 = ks
    · have e : Rx.getD (q :: m) ks = some q.2 := by
        unfold Rx.getD
        rw [List.find?_cons_of_pos (by simpa using c)]
        rfl
      rw [e] at hg
      cases hg
      refine ⟨u, ?_, h1⟩
      rw [List.map_cons, List.zip_cons_cons]
      exact valV_pos c
    · have e : Rx.getD (q :: m) ks = Rx.getD m ks := by
        unfold Rx.getD
        rw [List.find?_cons_of_neg (by simpa using c)]
      rw [e] at hg
      obtain ⟨w, hw, rw_⟩ := val_at h2 hg
      refine ⟨w, ?_, rw_⟩
      rw [List.map_cons, List.zip_cons_cons, valV_neg c]
      exact hw
theorem ownd_get {ms' : List Addr} {m : List (List L2.Key × List Int)} {vs : List V} {ks : List L2.Key} {ds : List D} {y : List Int} {kx : V} {Q : VK} (hp : Rd H p (.dT ((m.map (·.1)).zip vs))) (hr : repL ms H (m.map fun q => lsI q.2) vs)
    (hk : rep ms' H (.tup ds) kx) (hd : ds = ks.map fun k => D.v (kV k)) (hg : Rx.getD m ks = some y) (q : ∀ u, rep ms H (lsI y) u → Q u H) : ∃ a v, V.ref p = .ref a ∧ DGet H a kx (some v) ∧ Q v H := by
  obtain ⟨b, rfl, hb⟩ := key_tup hk hd
  obtain ⟨u, hu, ru⟩ := val_at hr hg
  exact ⟨p, u, rfl, .inr ⟨_, ks, b, hp, rfl, hb, hu.symm⟩, q u ru⟩
end
section
variable {β S : Type} {items : List β} {e : β → D} {kf : β → List L2.Key} {g : L2.TG} {tb : L2.TS} {D' : L2.Ends} {σ : L2.St} {H1 : Hp} {d : Addr} {od : Obj} {kvs : List (List L2.Key × V)}
theorem for_keysG {body : β → S → (S → Prop) → Prop} {KM : S → Prop} (he : ∀ y, e y = D.tup ((kf y).map fun k => D.v (kV k))) (hk : kvs.map (·.1) = items.map kf) (SI : S → L2.St → Hp → Prop) (s0 : S)
    (kp : ∀ s σ H, SI s σ H → H d = some (.frz od (.dT kvs))) (hM : forC body items s0 KM) (h0 : SI s0 σ H1)
    (hs : ∀ (x : β) (u : V) (s : S) (k : S → Prop) (σ : L2.St) (H : Hp), SI s σ H → rep ([] : List Addr) H (e x) u → body x s k → ∀ Nx : L2.St → Hp → Prop, (∀ s' σ' H', k s' → SI s' σ' H' → Nx σ' H') →
      g u σ H fun σ2 H2 => tb { D' with nx := Nx, ct := Nx, bk := D'.nx } σ2 H2)
    (hd : ∀ s σ H, KM s → SI s σ H → D'.nx σ H) :
    ∃ W : Nat → Nat → L2.St → Hp → Prop, (∃ m, W 0 m σ H1) ∧ ∀ i m σ H, W i m σ H →
      ((Itkt d od kvs).stop i H ∧ D'.nx σ H) ∨ ((Itkt d od kvs).go i H ∧ ∃ Nx : L2.St → Hp → Prop, (∀ σ' H', Nx σ' H' → ∃ m', m' < m ∧ W (i + 1) m' σ' H') ∧ ∀ x H', (Itkt d od kvs).yld i H x H' → g x σ H' fun σ2 H2 => tb { D' with nx := Nx, ct := Nx, bk := D'.nx } σ2 H2) := by
  have len : kvs.length = items.length := by
    have := congrArg List.length hk
    rwa [List.length_map, List.length_map] at this
  refine L2.for_it walk_keysT (D := D') (fun i σ H => ∃ s, SI s σ H ∧ forC body (items.drop i) s KM) ⟨s0, h0, hM⟩ (fun i σ H _ z => ?_) (fun i u σ H H' hi z y => ?_) (fun σ H z => ?_)
  · obtain ⟨s, si, _⟩ := z
    exact kp s σ H si
  · obtain ⟨s, si, q⟩ := z
    obtain ⟨rfl, k, w, b, hkv, rfl, hb⟩ := y
    have hi' : i < items.length := by omega
    rw [drop_cons' (List.getElem?_eq_getElem hi')] at q
    have ek : k = kf (items[i]'hi') := by
      have := congrArg (fun l => l[i]?) hk
      simp only [List.getElem?_map, hkv, List.getElem?_eq_getElem hi', Option.map_some] at this
      exact Option.some.inj this
    refine hs _ _ s _ _ H' si ?_ q _ fun s' σ' H'' hk' si' => ⟨s', si', hk'⟩
    rw [he, ← ek]
    simp only [rep]
    refine ⟨b, _, rfl, List.not_mem_nil, hb, ?_⟩
    have z := (repL_flat (xs := k.map kV) (vs := k.map kV) (ms := ([] : List Addr)) (H := H')).mpr rfl
    rw [List.map_map] at z
    exact z
  · obtain ⟨s, si, q⟩ := z
    rw [List.drop_of_length_le (by omega)] at q
    exact hd s σ H q si
end
theorem upd_twice' {H : Hp} {a : Addr} {o o' : HO} : upd (upd H a o) a o' = upd H a o' := by
  funext b
  by_cases c : b = a
  · rw [c, upd_same, upd_same]
  · rw [upd_ne c, upd_ne c, upd_ne c]
theorem upd_undo' {H : Hp} {p D : Addr} {u o' l : HO} (hp : H p = some u) (ne : D ≠ p) : upd (upd (upd H p o') D l) p u = upd H D l := by
  funext b
  by_cases c : b = p
  · rw [c, upd_same, upd_ne (fun z => ne z.symm), hp]
  · rw [upd_ne c]
    by_cases d : b = D
    · rw [d, upd_same, upd_same]
    · rw [upd_ne d, upd_ne c, upd_ne d]
section
variable {K : PySem.W.Frag} {ms : List Addr} {H0 H : Hp} {p : Addr}
abbrev kfI (y_ : Int × Int) : List L2.Key := [Sum.inl y_.1, Sum.inl y_.2]
abbrev tpI (y_ : Int × Int) : D := D.tup [(D.v (V.int y_.1)), (D.v (V.int y_.2))]
def lenAt (m : List (List L2.Key × List Int)) (k : List L2.Key) : Nat := ((Rx.getD m k).getD []).length
theorem getD_in {m : List (List L2.Key × List Int)} {q : List L2.Key × List Int} (h : q ∈ m) : ∃ y, Rx.getD m q.1 = some y := by
  unfold Rx.getD
  cases c : m.find? (fun z => decide (z.1 = q.1)) with
  | none =>
    have := List.find?_eq_none.mp c q h
    simp at this
  | some z => exact ⟨z.2, rfl⟩
theorem lc_lens {m : List (List L2.Key × List Int)} {ws : List V} {n : Int} {td : L2.TE} {g : L2.TG} {te : L2.TE} {vs : List Nat} {σ : L2.St} {Q : VK}
    (hp : H p = some (.dT ((m.map (·.1)).zip ws))) (hr : repL ms H (m.map fun q => lsI q.2) ws) (hz : m.length ≤ 16777215)
    (hv : ∀ (H' : Hp) (k : VK), k (.ref p) H' → td σ H' k)
    (hs : ∀ (k : List L2.Key) (b : Addr) (v : V) (H2 : Hp) (R1 : VK), DGet H2 p (.ref b) (some v) → LenV K v H2 (lenAt m k) → R1 (.bl (decide (V.int (lenAt m k : Int) = V.int n))) H2 →
      g (.ref b) (wipe σ vs) H2 fun σ2 H3 => wipe σ2 vs = wipe σ vs ∧ te σ2 H3 R1)
    (q : ∀ L, H L = none → Q (.ref L) (upd H L (.lst ((m.map fun q => decide (V.int (lenAt m q.1 : Int) = V.int n)).map V.bl)))) :
    tLockE (tLc (iKeys td) g tYes te vs) σ H Q := by
  have hl : m.length = ws.length := by
    have := repL_len hr
    rwa [List.length_map] at this
  have lKV : ((m.map (·.1)).zip ws).length = m.length := by rw [List.length_zip, List.length_map, ← hl, Nat.min_self]
  refine ⟨p, _, hp, True.intro, fun od => hv _ _ ⟨p, od, rfl, .inr ⟨_, upd_same, fun L nL => ?_⟩⟩⟩
  have ne : L ≠ p := fun z => by
    rw [z, upd_same] at nL
    cases nL
  have nL0 : H L = none := by rwa [upd_ne ne] at nL
  refine ⟨fun i k Hh => k = m.length - i ∧ i ≤ m.length ∧ Hh = upd (upd H p (.frz od (.dT ((m.map (·.1)).zip ws)))) L (.lst (((m.take i).map fun q => decide (V.int (lenAt m q.1 : Int) = V.int n)).map V.bl)), ⟨_, rfl, Nat.zero_le _, rfl⟩, ?_⟩
  rintro i k Hh ⟨rfl, hi, rfl⟩
  generalize hus : ((m.take i).map fun q => decide (V.int (lenAt m q.1 : Int) = V.int n)).map V.bl = us
  have lus : us.length ≤ m.length := by
    rw [← hus, List.length_map, List.length_map, List.length_take]
    omega
  have frz : (upd (upd H p (.frz od (.dT ((m.map (·.1)).zip ws)))) L (.lst us)) p = some (.frz od (.dT ((m.map (·.1)).zip ws))) := by
    rw [upd_ne ne.symm, upd_same]
  by_cases hlt : i < m.length
  · refine .inr ⟨⟨frz, by rw [lKV]; exact hlt⟩, fun H' => H' = upd (upd H p (.frz od (.dT ((m.map (·.1)).zip ws)))) L (.lst (((m.take (i + 1)).map fun q => decide (V.int (lenAt m q.1 : Int) = V.int n)).map V.bl)), fun H' h' => ⟨_, by omega, rfl, hlt, h'⟩, fun x H' y => ?_⟩
    obtain ⟨rfl, kk, w, b, hkv, rfl, hb⟩ := y
    have em : m[i]? = some (m[i]'hlt) := List.getElem?_eq_getElem hlt
    have tk : m.take (i + 1) = m.take i ++ [m[i]'hlt] := List.take_succ_eq_append_getElem hlt
    have mem : m[i]'hlt ∈ m := List.getElem_mem hlt
    generalize m[i]'hlt = q0 at em tk mem
    have ek : kk = q0.1 := by
      have z : ((m.map (·.1)).zip ws)[i]? = some (kk, w) := hkv
      rw [List.getElem?_zip_eq_some] at z
      have z1 := z.1
      rw [List.getElem?_map, em] at z1
      exact (Option.some.inj z1).symm
    subst ek
    obtain ⟨ys, hy⟩ := getD_in mem
    obtain ⟨u, hu, ru⟩ := val_at hr hy
    obtain ⟨a, zs, rfl, _, ha, hzs⟩ := rep_lstAt ru
    have la : lenAt m q0.1 = zs.length := by
      unfold lenAt
      rw [hy]
      have := repL_len hzs
      rwa [List.length_map] at this
    have na : (upd (upd H p (.frz od (.dT ((m.map (·.1)).zip ws)))) L (.lst us)) a = some (.lst zs) := by
      have aL : a ≠ L := fun z => by
        rw [z, nL0] at ha
        cases ha
      have ap : a ≠ p := fun z => by
        rw [z, hp] at ha
        cases ha
      rw [upd_ne aL, upd_ne ap]
      exact ha
    have dg : DGet (upd (upd H p (.frz od (.dT ((m.map (·.1)).zip ws)))) L (.lst us)) p (.ref b) (some (.ref a)) := .inr ⟨_, q0.1, b, .inr ⟨od, frz⟩, rfl, hb, hu.symm⟩
    obtain hgo := hs q0.1 b (.ref a) _ (fun y H4 => ∃ acc, H4 L = some (.lst acc) ∧ acc.length < sizeLine ∧ (upd H4 L (.lst (acc ++ [y]))) = upd (upd H p (.frz od (.dT ((m.map (·.1)).zip ws)))) L (.lst (((m.take (i + 1)).map fun q => decide (V.int (lenAt m q.1 : Int) = V.int n)).map V.bl))) dg (.inl ⟨zs, .inl (.inl na), la⟩)
      ⟨us, upd_same, by rw [sizeLine_eq]; omega, by rw [tk, List.map_append, List.map_append, hus]; exact upd_twice'⟩
    exact hgo
  · have ei : i = m.length := by omega
    refine .inl ⟨⟨frz, by rw [lKV]; omega⟩, frz, ?_⟩
    have z := q L nL0
    rw [ei, List.take_length] at hus
    rw [hus] at z
    rw [show upd (upd (upd H p (.frz od (.dT ((m.map (·.1)).zip ws)))) L (.lst us)) p (.dT ((m.map (·.1)).zip ws)) = upd H L (.lst us) from upd_undo' hp ne]
    exact z
theorem keys_list {ap : Addr} {kvs : List (List L2.Key × V)} {bs : List Addr} (w : Wd ms [(ap, none)] [] H0 H) (k : IsKeys H kvs bs) {ks : List (Int × Int)} (e : kvs.map (·.1) = ks.map kfI) {L : Addr} (nl : H L = none) :
    rep [ap] (upd H L (.lst (bs.map V.ref))) (D.lst (ks.map tpI)) (.ref L) := by
  obtain ⟨i, j, hap, _⟩ : PotH H ap := w.pot (ap, none) List.mem_cons_self
  have all : ∀ {kvs : List (List L2.Key × V)} {bs : List Addr} {ks : List (Int × Int)}, IsKeys H kvs bs → kvs.map (·.1) = ks.map kfI → repL [ap] (upd H L (.lst (bs.map V.ref))) (ks.map tpI) (bs.map V.ref) ∧ ∀ o, repL [ap] (upd H L o) (ks.map tpI) (bs.map V.ref) := by
    intro kvs bs ks k
    suffices h : ∀ o, kvs.map (·.1) = ks.map kfI → repL [ap] (upd H L o) (ks.map tpI) (bs.map V.ref) from fun e => ⟨h _ e, fun o => h o e⟩
    intro o
    induction k generalizing ks with
    | nil =>
      intro e
      cases ks with
      | nil => exact repL_nil
      | cons _ _ => cases e
    | @cons q b qs bs hq t ih =>
      intro e
      cases ks with
      | nil => cases e
      | cons y ks =>
        rw [List.map_cons, List.map_cons, List.cons.injEq] at e
        refine repL_cons ?_ (ih e.2)
        have hb : H b = some (.tup (q.1.map kV)) := hq
        have bL : b ≠ L := fun z => by rw [z, nl] at hb; cases hb
        simp only [rep]
        refine ⟨b, _, rfl, fun z => ?_, by rw [upd_ne bL]; exact hb, ?_⟩
        · rw [List.mem_singleton.mp z, hap] at hb
          cases hb
        · rw [e.1]
          exact repL_cons rep_v (repL_cons rep_v repL_nil)
  simp only [rep]
  refine ⟨L, _, rfl, fun z => ?_, upd_same, (all k e).1⟩
  rw [List.mem_singleton.mp z] at nl
  rw [nl] at hap
  cases hap
theorem wd_pot {ap : Addr} (w : Wd ms [(ap, none)] [] H0 H) : Wd [ap] [(ap, none)] [] H0 H :=
  wd_sub (fun a h => w.pm a (by rw [List.mem_singleton.mp h]; exact List.mem_cons_self)) (fun a h => h) w
theorem rep_low {ap : Addr} {d : D} {u : V} (w : Wd ms [(ap, none)] [] H0 H) (h : rep ms H d u) : rep [ap] H d u :=
  rep_map (fun p o n hp => ⟨fun z => n (by rw [List.mem_singleton.mp z]; exact w.pm ap List.mem_cons_self), hp⟩) _ _ h
theorem at_putL {u o : HO} {ps : List PEn} {L : Addr} {ds : List D} (hp : H p = some u) (h : ∀ xs, u ≠ .lst xs) (m : MutO ms ps H0 H L (.lst ds)) : upd H L o p = some u := by
  obtain ⟨xs, hL, _⟩ := m.val
  rw [upd_ne fun z => h xs ?_]
  · exact hp
  · rw [← z, hp] at hL
    exact Option.some.inj hL
theorem rep_neD2 {x y : V} {ms' : List Addr} {d e : D} {Q : VK} (h1 : rep ms H d x) (h2 : rep ms' H e y) (p1 : plainD d = true) (p2 : plainD e = true) (s1 : SeqAt.shaped (pyOf d) = true) (s2 : SeqAt.shaped (pyOf e) = true) (k : Q (.bl (!PyData.eqv (pyOf d) (pyOf e))) H) : rNeD K x y H Q :=
  ⟨_, _, dp_of d x p1 h1, dp_of e y p2 h2, s1, s2, k⟩
theorem rep_eqD2 {x y : V} {ms' : List Addr} {d e : D} {Q : VK} (h1 : rep ms H d x) (h2 : rep ms' H e y) (p1 : plainD d = true) (p2 : plainD e = true) (s1 : SeqAt.shaped (pyOf d) = true) (s2 : SeqAt.shaped (pyOf e) = true) (k : Q (.bl (PyData.eqv (pyOf d) (pyOf e))) H) : rEqD K x y H Q :=
  ⟨_, _, dp_of d x p1 h1, dp_of e y p2 h2, s1, s2, k⟩
theorem keys_zip {ks0 : List (List L2.Key)} {ws : List V} {ks : List (Int × Int)} (hl : ks0.length = ws.length) (h : ks0 = ks.map kfI) : (ks0.zip ws).map (·.1) = ks.map kfI := by
  rw [← h]
  exact List.map_fst_zip (by omega)
theorem repL_blsM : ∀ {xs : List Bool}, repL ms H (xs.map fun y_ : Bool => (D.v (V.bl y_))) (xs.map V.bl)
  | [] => repL_nil
  | _ :: _ => repL_cons rep_v repL_blsM
end
end Rx
namespace Rx
open PySem PySem.Spec PyProof.Rows L2
def addF : List (List L2.Key × List Int) → List L2.Key → Int → List (List L2.Key × List Int)
  | [], _, _ => []
  | q :: m, k, x => if q.1 = k then (q.1, q.2 ++ [x]) :: m else q :: addF m k x
theorem addF_keys {k : List L2.Key} {x : Int} : ∀ m : List (List L2.Key × List Int), (addF m k x).map (·.1) = m.map (·.1)
  | [] => rfl
  | q :: m => by
    unfold addF
    split
    · rfl
    · rw [List.map_cons, List.map_cons, addF_keys m]
def NP (H0 : Hp) (X : List Addr) (H : Hp) (L : Addr) : List (List L2.Key × List Int) → List Addr → Prop
  | [], [] => True
  | q :: m, a :: as => (H a = some (.lst (q.2.map V.int)) ∧ H0 a = none ∧ a ≠ L ∧ a ∉ X) ∧ NP H0 X H L m as
  | _, _ => False
structure Nst (H0 : Hp) (X : List Addr) (H : Hp) (L : Addr) (m : List (List L2.Key × List Int)) : Prop where
  h0 : H0 L = none
  val : ∃ as : List Addr, H L = some (.dT ((m.map (·.1)).zip (as.map V.ref))) ∧ NP H0 X H L m as ∧ as.Nodup
section
variable {H0 H H' : Hp} {X : List Addr} {L p : Addr} {m : List (List L2.Key × List Int)}
theorem np_len : ∀ {m : List (List L2.Key × List Int)} {as : List Addr}, NP H0 X H L m as → m.length = as.length
  | [], [], _ => rfl
  | _ :: m, _ :: as, h => by rw [List.length_cons, List.length_cons, np_len h.2]
  | [], _ :: _, h => h.elim
  | _ :: _, [], h => h.elim
theorem np_mem : ∀ {m : List (List L2.Key × List Int)} {as : List Addr}, NP H0 X H L m as → ∀ a ∈ as, (∃ xs, H a = some (.lst xs)) ∧ H0 a = none ∧ a ≠ L ∧ a ∉ X
  | [], [], _ => fun a h => absurd h List.not_mem_nil
  | _ :: m, b :: as, h => fun a ha => by
    rcases List.mem_cons.mp ha with e | e
    · rw [e]
      exact ⟨⟨_, h.1.1⟩, h.1.2⟩
    · exact np_mem h.2 a e
  | [], _ :: _, h => h.elim
  | _ :: _, [], h => h.elim
theorem np_map {X' : List Addr} : ∀ {m : List (List L2.Key × List Int)} {as : List Addr}, (∀ a ∈ as, ∀ xs, H a = some (.lst xs) → H' a = some (.lst xs) ∧ a ∉ X') → NP H0 X H L m as → NP H0 X' H' L m as
  | [], [], _, _ => trivial
  | _ :: m, b :: as, f, h => ⟨⟨(f b List.mem_cons_self _ h.1.1).1, h.1.2.1, h.1.2.2.1, (f b List.mem_cons_self _ h.1.1).2⟩, np_map (fun a ha => f a (List.mem_cons_of_mem _ ha)) h.2⟩
  | [], _ :: _, _, h => h.elim
  | _ :: _, [], _, h => h.elim
theorem ret_new {o : HO} (z : H0 p = none) (e : Ret [] H0 H) : Ret [] H0 (upd H p o) := by
  refine ⟨fun a u na h => ?_, fun _ h => absurd h List.not_mem_nil, fun a h => ?_⟩
  · rw [upd_ne fun q => by rw [q, z] at h; cases h]
    exact e.kp a u na h
  · rw [upd_ne fun q => h (by rw [q]; exact z)]
    exact e.grow a h
theorem ret_tr (e : Ret [] H0 H) (f : Ret [] H H') : Ret [] H0 H' :=
  ⟨fun a u na h => f.kp a u na (e.kp a u na h), fun _ h => absurd h List.not_mem_nil, fun a h => f.grow a (e.grow a h)⟩
theorem nst_nil (nl : H L = none) (e : Ret [] H0 H) : Nst H0 [] (upd H L (.dT [])) L [] :=
  ⟨Classical.byContradiction fun z => e.grow L z nl, [], upd_same, trivial, List.nodup_nil⟩
theorem nst_ext (e : Ret [] H H') (n : Nst H0 X H L m) : Nst H0 X H' L m := by
  obtain ⟨as, h1, h2, h3⟩ := n.val
  exact ⟨n.h0, as, e.kp _ _ (by simp) h1, np_map (fun a ha xs h => ⟨e.kp _ _ (by simp) h, (np_mem h2 a ha).2.2.2⟩) h2, h3⟩
theorem nst_avoid (nl : H p = none) (n : Nst H0 X H L m) : Nst H0 (p :: X) H L m := by
  obtain ⟨as, h1, h2, h3⟩ := n.val
  refine ⟨n.h0, as, h1, np_map (fun a ha xs h => ⟨h, fun z => ?_⟩) h2, h3⟩
  rcases List.mem_cons.mp z with z | z
  · rw [z, nl] at h
    cases h
  · exact (np_mem h2 a ha).2.2.2 z
theorem nst_less (n : Nst H0 (p :: X) H L m) : Nst H0 X H L m := by
  obtain ⟨as, h1, h2, h3⟩ := n.val
  exact ⟨n.h0, as, h1, np_map (fun a ha xs h => ⟨h, fun z => (np_mem h2 a ha).2.2.2 (List.mem_cons_of_mem _ z)⟩) h2, h3⟩
theorem np_snoc {k : List L2.Key} {o : HO} : ∀ {m : List (List L2.Key × List Int)} {as : List Addr}, NP H0 (p :: X) H L m as → H p = some (.lst []) → H0 p = none → p ≠ L → p ∉ X → NP H0 X (upd H L o) L (m ++ [(k, [])]) (as ++ [p])
  | [], [], _, h1, h2, h3, h4 => ⟨⟨by rw [upd_ne h3]; exact h1, h2, h3, h4⟩, trivial⟩
  | _ :: m, b :: as, h, h1, h2, h3, h4 => ⟨⟨by rw [upd_ne h.1.2.2.1]; exact h.1.1, h.1.2.1, h.1.2.2.1, fun z => h.1.2.2.2 (List.mem_cons_of_mem _ z)⟩, np_snoc h.2 h1 h2 h3 h4⟩
  | [], _ :: _, h, _, _, _, _ => h.elim
  | _ :: _, [], h, _, _, _, _ => h.elim
theorem nst_put {ms' : List Addr} {ks : List L2.Key} {ds : List D} {kx : V} {Q : Hp → Prop} (n : Nst H0 (p :: X) H L m) (hp : H p = some (.lst [])) (p0 : H0 p = none) (pX : p ∉ X) (hk : rep ms' H (.tup ds) kx) (hd : ds = ks.map fun k => D.v (kV k))
    (hn : ¬ hasD m ks = true) (hs : m.length < 16777216) (e : Ret [] H0 H) (q : ∀ H', Nst H0 X H' L (m ++ [(ks, [])]) → Ret [] H0 H' → Q H') : rSetD (.ref L) kx (.ref p) H Q := by
  obtain ⟨as, h1, h2, h3⟩ := n.val
  obtain ⟨b, rfl, hb⟩ := key_tup hk hd
  have l := np_len h2
  have hl : m.length = (as.map V.ref).length := by rw [List.length_map]; exact l
  have pL : p ≠ L := fun z => by
    rw [z, h1] at hp
    cases hp
  refine ⟨L, _, rfl, DPut.t h1 hb ?_, ?_⟩
  · rw [List.length_zip, List.length_map, ← hl, sizeLine_eq, Nat.min_self]
    exact hs
  · refine q _ ⟨n.h0, as ++ [p], ?_, np_snoc h2 hp p0 pL pX, ?_⟩ (ret_new n.h0 e)
    · rw [upd_same]
      unfold putK
      rw [zip_fst_any hl, if_neg (show ¬ (m.any fun q => decide (q.1 = ks)) = true from hn)]
      have z : (m.map (·.1)).zip (as.map V.ref) ++ [(ks, V.ref p)] = ((m ++ [(ks, ([] : List Int))]).map (·.1)).zip ((as ++ [p]).map V.ref) := by
        rw [List.map_append, List.map_append, List.zip_append (by rw [List.length_map]; exact hl)]
        rfl
      rw [z]
    · refine List.nodup_append.mpr ⟨h3, by simp, fun a ha c hc z => ?_⟩
      rw [List.mem_singleton.mp hc] at z
      exact (np_mem h2 a ha).2.2.2 (by rw [z]; exact List.mem_cons_self)
theorem np_add {ks : List L2.Key} {y : List Int} : ∀ {m : List (List L2.Key × List Int)} {as : List Addr}, NP H0 X H L m as → as.Nodup → Rx.getD m ks = some y →
    ∃ a, valV ((m.map (·.1)).zip (as.map V.ref)) ks = some (.ref a) ∧ H a = some (.lst (y.map V.int)) ∧ a ∈ as ∧ ∀ w : Int, NP H0 X (upd H a (.lst (y.map V.int ++ [V.int w]))) L (addF m ks w) as
  | [], [], _, _, hg => by simp [Rx.getD] at hg
  | q :: m, b :: as, h, nd, hg => by
    rw [List.nodup_cons] at nd
    by_cases c : q.1 = ks
    · have e : Rx.getD (q :: m) ks = some q.2 := by
        unfold Rx.getD
        rw [List.find?_cons_of_pos (by simpa using c)]
        rfl
      rw [e] at hg
      cases hg
      refine ⟨b, ?_, h.1.1, List.mem_cons_self, fun w => ?_⟩
      · rw [List.map_cons, List.map_cons, List.zip_cons_cons]
        exact valV_pos c
      · unfold addF
        rw [if_pos c]
        refine ⟨⟨?_, h.1.2⟩, np_map (fun a ha xs hx => ⟨?_, (np_mem h.2 a ha).2.2.2⟩) h.2⟩
        · rw [upd_same, List.map_append]
          rfl
        · rw [upd_ne fun z => nd.1 (by rw [← z]; exact ha)]
          exact hx
    · have e : Rx.getD (q :: m) ks = Rx.getD m ks := by
        unfold Rx.getD
        rw [List.find?_cons_of_neg (by simpa using c)]
      rw [e] at hg
      obtain ⟨a, e1, e2, e3, e4⟩ := np_add h.2 nd.2 hg
      refine ⟨a, ?_, e2, List.mem_cons_of_mem _ e3, fun w => ?_⟩
      · rw [List.map_cons, List.map_cons, List.zip_cons_cons, valV_neg c]
        exact e1
      · unfold addF
        rw [if_neg c]
        refine ⟨⟨?_, h.1.2⟩, e4 w⟩
        rw [upd_ne fun z => nd.1 (by rw [z]; exact e3)]
        exact h.1.1
  | [], _ :: _, h, _, _ => h.elim
  | _ :: _, [], h, _, _ => h.elim
theorem nst_get {ms' : List Addr} {ks : List L2.Key} {ds : List D} {kx : V} {y : List Int} {Q : VK} (n : Nst H0 X H L m) (hk : rep ms' H (.tup ds) kx) (hd : ds = ks.map fun k => D.v (kV k)) (hg : Rx.getD m ks = some y) (e : Ret [] H0 H)
    (q : ∀ a, H a = some (.lst (y.map V.int)) → a ∉ X → (∀ w : Int, Nst H0 X (upd H a (.lst (y.map V.int ++ [V.int w]))) L (addF m ks w) ∧ Ret [] H0 (upd H a (.lst (y.map V.int ++ [V.int w])))) → Q (.ref a) H) :
    ∃ a v, V.ref L = .ref a ∧ DGet H a kx (some v) ∧ Q v H := by
  obtain ⟨as, h1, h2, h3⟩ := n.val
  obtain ⟨b, rfl, hb⟩ := key_tup hk hd
  obtain ⟨a, e1, e2, e3, e4⟩ := np_add h2 h3 hg
  obtain ⟨_, a0, aL, aX⟩ := np_mem h2 a e3
  refine ⟨L, .ref a, rfl, .inr ⟨_, ks, b, .inl h1, rfl, hb, e1.symm⟩, q a e2 aX fun w => ⟨⟨n.h0, as, ?_, e4 w, h3⟩, ret_new a0 e⟩⟩
  rw [upd_ne aL.symm, addF_keys]
  exact h1
theorem nst_rep {ms : List Addr} (out : ∀ a, H0 a = none → a ∉ ms) (n : Nst H0 X H L m) : rep ms H (.dcT (m.map (·.1)) (m.map fun q => lsI q.2)) (.ref L) := by
  obtain ⟨as, h1, h2, h3⟩ := n.val
  have all : ∀ {m : List (List L2.Key × List Int)} {as : List Addr}, NP H0 X H L m as → repL ms H (m.map fun q => lsI q.2) (as.map V.ref) := by
    intro m
    induction m with
    | nil =>
      intro as h
      cases as with
      | nil => exact repL_nil
      | cons _ _ => exact h.elim
    | cons q m ih =>
      intro as h
      cases as with
      | nil => exact h.elim
      | cons a as =>
        refine repL_cons ?_ (ih h.2)
        simp only [rep]
        refine ⟨a, _, rfl, out a h.1.2.1, h.1.1, ?_⟩
        have f := (repL_flat (xs := q.2.map V.int) (vs := q.2.map V.int) (ms := ms) (H := H)).mpr rfl
        rw [List.map_map] at f
        exact f
  simp only [rep]
  refine ⟨L, as.map V.ref, rfl, out L n.h0, h1, ?_, all h2⟩
  rw [List.length_map, List.length_map]
  exact np_len h2
theorem rep_ints {xs : List Int} {s : Addr} (h : H s = some (.lst (xs.map V.int))) : rep ([] : List Addr) H (D.lst (xs.map (fun y_ : Int => (D.v (V.int y_))))) (.ref s) := by
  simp only [rep]
  refine ⟨s, _, rfl, List.not_mem_nil, h, ?_⟩
  have f := (repL_flat (xs := xs.map V.int) (vs := xs.map V.int) (ms := ([] : List Addr)) (H := H)).mpr rfl
  rw [List.map_map] at f
  exact f
theorem ints_at {ms : List Addr} {xs : List Int} {u : V} (h : rep ms H (D.lst (xs.map (fun y_ : Int => (D.v (V.int y_))))) u) : ∃ s, u = .ref s ∧ H s = some (.lst (xs.map V.int)) := by
  obtain ⟨p, vs, e, _, hp, hr⟩ := rep_lstAt h
  have z := (repL_flat (xs := xs.map V.int) (vs := vs) (ms := ms) (H := H)).mp (by rw [List.map_map]; exact hr)
  exact ⟨p, e, by rw [hp, z]⟩
theorem tup2_mk {a b : Int} {q : Addr} (h : H q = some (.tup [V.int a, V.int b])) : rep ([] : List Addr) H (D.tup [(D.v (V.int a)), (D.v (V.int b))]) (.ref q) := by
  simp only [rep]
  exact ⟨q, _, rfl, List.not_mem_nil, h, repL_cons rep_v (repL_cons rep_v repL_nil)⟩
theorem wd_none_ {H : Hp} : Wd ([] : List Addr) [] [] H H where
  kp := fun _ _ _ h => h
  grow := fun _ h => h
  tr := fun _ h => absurd h List.not_mem_nil
  pot := fun _ h => absurd h List.not_mem_nil
  pm := fun a ha => by simp [Rx.ad] at ha
  cel := fun _ h => absurd h List.not_mem_nil
end
end Rx
namespace Wm
open PySem PySem.Spec PyProof.Rows L2

abbrev L (z : Str) : List Nat := z.cps.toList
theorem len_L (z : Str) : z.length = (L z).length := by
  show z.cps.size = z.cps.toList.length
  simp
theorem L_ext {a b : Str} (h : L a = L b) : a = b := ext_toList h
theorem L_app (a b : Str) : L (a ++ b) = L a ++ L b := by
  show (a.cps ++ b.cps).toList = _
  simp [L]
theorem L_empty : L ("" : Str) = [] := by decide +kernel
theorem L_one (c : Nat) : L ⟨#[c]⟩ = [c] := by simp [L]
theorem h_mk : ("h" : Str) = ⟨#[104]⟩ := by decide +kernel
theorem a_mk : ("a" : Str) = ⟨#[97]⟩ := by decide +kernel
theorem eqS {a b : Str} : decide (V.str a = V.str b) = decide (L a = L b) := by
  by_cases h : a = b
  · subst h
    simp
  · rw [decide_eq_false (fun z => h (V.str.inj z)), decide_eq_false (fun z => h (L_ext z))]
theorem eqI {a b : Int} : decide (V.int a = V.int b) = decide (a = b) := by
  by_cases h : a = b
  · subst h
    simp
  · rw [decide_eq_false (fun z => h (V.int.inj z)), decide_eq_false h]

def cn (c : Nat) (l : List Nat) : Int := ((l.count c : Nat) : Int)
theorem cn_nil (c : Nat) : cn c [] = 0 := rfl
theorem cn_cons (c x : Nat) (l : List Nat) : cn c (x :: l) = (if x = c then 1 else 0) + cn c l := by
  unfold cn
  rw [List.count_cons]
  by_cases h : x = c
  · simp [h]
    omega
  · simp [h]
theorem cnt_cn (c : Nat) : ∀ l : List Nat, cnt c l = cn c l
  | [] => by rw [cn_nil]; rfl
  | x :: l => by rw [cn_cons, cnt_cons, cnt_cn c l]
theorem count_h (x : Str) : Txt.count x ("h" : Str) = cn 104 (L x) := by rw [h_mk, count_cnt, cnt_cn]
theorem count_a (x : Str) : Txt.count x ("a" : Str) = cn 97 (L x) := by rw [a_mk, count_cnt, cnt_cn]
theorem marks_all : ∀ l : List Nat, (∀ c ∈ l, c = 104 ∨ c = 97) → cn 104 l + cn 97 l = l.length
  | [], _ => rfl
  | x :: l, h => by
    have ih := marks_all l fun c hc => h c (List.mem_cons_of_mem _ hc)
    rw [cn_cons, cn_cons, List.length_cons]
    rcases h x List.mem_cons_self with e | e <;> subst e <;> simp <;> omega

theorem join_L (ys : List Str) : L (Txt.join ("" : Str) ys) = (ys.map L).flatten := by
  rw [TL.join_eq]
  show TL.tl (Str.join _ _) = _
  rw [TL.tl_join]
  show TL.joinL (L ("" : Str)) _ = _
  rw [L_empty]
  show _ = (ys.map TL.tl).flatten
  generalize ys.map TL.tl = ls
  induction ls with
  | nil => rfl
  | cons p ls ih =>
    cases ls with
    | nil => simp [TL.joinL]
    | cons q r =>
      show p ++ ([] ++ TL.joinL [] (q :: r)) = _
      rw [ih]
      simp

def cyc (m : List Nat) (k : Nat) : List Nat := (List.range k).map fun j => m.getD (j % m.length) 0
def row (h m t : List Nat) (n : Nat) : List Nat := h ++ cyc m (n - h.length - t.length) ++ t
section
variable {h m t : List Nat} {n : Nat}
end

section
open Rx
variable {α β S : Type}
theorem mapC_ok {body : α → (β → Prop) → Prop} {k : List β → Prop} (g : α → β) : ∀ {xs : List α} {acc : List β}, (∀ x ∈ xs, ∀ k' : β → Prop, k' (g x) → body x k') → k (acc ++ xs.map g) → mapC body xs acc k
  | [], acc, _, q => by
    rw [List.map_nil, List.append_nil] at q
    exact q
  | x :: xs, acc, h, q => h x List.mem_cons_self _ (mapC_ok g (fun y hy => h y (List.mem_cons_of_mem _ hy)) (by rw [List.append_assoc]; exact q))
theorem mapC_any {body : α → (β → Prop) → Prop} {k : List β → Prop} (P : β → Prop) : ∀ {xs : List α} {acc : List β}, (∀ x ∈ xs, ∀ k' : β → Prop, (∀ y, P y → k' y) → body x k') → (∀ ys : List β, ys.length = xs.length → (∀ y ∈ ys, P y) → k (acc ++ ys)) → mapC body xs acc k
  | [], acc, _, q => by
    have := q [] rfl (fun _ h => absurd h List.not_mem_nil)
    rw [List.append_nil] at this
    exact this
  | x :: xs, acc, h, q => h x List.mem_cons_self _ fun y hy => mapC_any P (fun z hz => h z (List.mem_cons_of_mem _ hz)) fun ys hl hp => by
    rw [List.append_assoc]
    exact q (y :: ys) (congrArg Nat.succ hl) fun z hz => by
      rcases List.mem_cons.mp hz with e | hz
      · rw [e]
        exact hy
      · exact hp z hz
theorem filC_ok {body : α → (Option β → Prop) → Prop} {k : List β → Prop} (g : α → Option β) : ∀ {xs : List α} {acc : List β}, (∀ x ∈ xs, ∀ k' : Option β → Prop, k' (g x) → body x k') → k (acc ++ xs.filterMap g) → filC body xs acc k
  | [], acc, _, q => by
    rw [List.filterMap_nil, List.append_nil] at q
    exact q
  | x :: xs, acc, h, q => h x List.mem_cons_self _ (by
    show match g x with | some y => filC body xs (acc ++ [y]) k | none => filC body xs acc k
    cases e : g x with
    | none => exact filC_ok g (fun y hy => h y (List.mem_cons_of_mem _ hy)) (by rw [List.filterMap_cons_none e] at q; exact q)
    | some y => exact filC_ok g (fun y hy => h y (List.mem_cons_of_mem _ hy)) (by rw [List.filterMap_cons_some e] at q; rw [List.append_assoc]; exact q))
theorem forC_ok {body : α → S → (S → Prop) → Prop} {k : S → Prop} (I : S → Prop) : ∀ {xs : List α} {s0 : S}, (∀ x ∈ xs, ∀ (s : S) (k' : S → Prop), I s → (∀ s', I s' → k' s') → body x s k') → I s0 → (∀ s, I s → k s) → forC body xs s0 k
  | [], s0, _, i, q => q s0 i
  | x :: xs, s0, h, i, q => h x List.mem_cons_self s0 _ i fun s' i' => forC_ok I (fun y hy => h y (List.mem_cons_of_mem _ hy)) i' q
theorem rangeI_mem {lo hi x : Int} (h : x ∈ rangeI lo hi) : lo ≤ x ∧ x < hi := by
  unfold rangeI at h
  obtain ⟨i, hi', e⟩ := List.mem_map.mp h
  have := List.mem_range.mp hi'
  omega
end
end Wm

namespace Lw
open PySem PySem.Spec PyProof.Rows L2 Rx
abbrev St := L2.St
theorem sc_spots : FnScope ["_law_model_here", "_law_half", "_law_when", "_law_found", "_law_ring", "_law_who", "_law_here", "_law_spot"] ["_law_model_here", "_law_half", "_law_when"] (defScope s_spots) := ⟨rfl, rfl, rfl, by decide +kernel, rfl, by decide +kernel, by decide +kernel⟩
theorem sc_draw : FnScope ["_law_pot_here", "_law_much", "_law_digit"] ["_law_pot_here", "_law_much"] (defScope s_draw) := ⟨rfl, rfl, rfl, by decide +kernel, rfl, by decide +kernel, by decide +kernel⟩
theorem sc_pick : FnScope ["_law_pot_here", "_law_some"] ["_law_pot_here", "_law_some"] (defScope s_pick) := ⟨rfl, rfl, rfl, by decide +kernel, rfl, by decide +kernel, by decide +kernel⟩
theorem sc_signs : FnScope ["_law_pot_here", "_law_few", "_law_most", "_law_turn"] ["_law_pot_here", "_law_few", "_law_most"] (defScope s_signs) := ⟨rfl, rfl, rfl, by decide +kernel, rfl, by decide +kernel, by decide +kernel⟩
theorem sc_model : FnScope ["_law_pot_here", "_law_found"] ["_law_pot_here"] (defScope s_model) := ⟨rfl, rfl, rfl, by decide +kernel, rfl, by decide +kernel, by decide +kernel⟩
theorem sc_least : FnScope ["_law_model_here"] ["_law_model_here"] (defScope s_least) := ⟨rfl, rfl, rfl, by decide +kernel, rfl, by decide +kernel, by decide +kernel⟩
theorem sc_is_marks : FnScope ["value"] ["value"] (defScope s_is_marks) := ⟨rfl, rfl, rfl, by decide +kernel, rfl, by decide +kernel, by decide +kernel⟩
theorem sc_check_part : FnScope ["marks"] ["marks"] (defScope s_check_part) := ⟨rfl, rfl, rfl, by decide +kernel, rfl, by decide +kernel, by decide +kernel⟩
theorem sc_Word_init : FnScope ["self", "head", "middle", "tail"] ["self", "head", "middle", "tail"] (defScope s_Word_init) := ⟨rfl, rfl, rfl, by decide +kernel, rfl, by decide +kernel, by decide +kernel⟩
theorem sc_is_integer : FnScope ["value"] ["value"] (defScope s_is_integer) := ⟨rfl, rfl, rfl, by decide +kernel, rfl, by decide +kernel, by decide +kernel⟩
theorem sc_Rule_init : FnScope ["self", "step", "word", "stander", "turned"] ["self", "step", "word", "stander", "turned"] (defScope s_Rule_init) := ⟨rfl, rfl, rfl, by decide +kernel, rfl, by decide +kernel, by decide +kernel⟩
theorem sc_rule : FnScope ["_law_model_here", "_law_start", "_law_inner", "_law_end"] ["_law_model_here"] (defScope s_rule) := ⟨rfl, rfl, rfl, by decide +kernel, rfl, by decide +kernel, by decide +kernel⟩
theorem sc_meetings : FnScope ["_law_model_here", "_law_half", "_law_ring", "_law_found", "_law_who", "_law_mate", "_law_when", "_law_spots_here"] ["_law_model_here", "_law_half"] (defScope s_meetings) := ⟨rfl, rfl, rfl, by decide +kernel, rfl, by decide +kernel, by decide +kernel⟩
theorem sc_Word_least : FnScope ["self"] ["self"] (defScope s_Word_least) := ⟨rfl, rfl, rfl, by decide +kernel, rfl, by decide +kernel, by decide +kernel⟩
theorem sc_Rule_least_size : FnScope ["self"] ["self"] (defScope s_Rule_least_size) := ⟨rfl, rfl, rfl, by decide +kernel, rfl, by decide +kernel, by decide +kernel⟩
theorem sc_is_size : FnScope ["rule", "value"] ["rule", "value"] (defScope s_is_size) := ⟨rfl, rfl, rfl, by decide +kernel, rfl, by decide +kernel, by decide +kernel⟩
theorem sc_check_size : FnScope ["rule", "size"] ["rule", "size"] (defScope s_check_size) := ⟨rfl, rfl, rfl, by decide +kernel, rfl, by decide +kernel, by decide +kernel⟩
theorem sc_is_count : FnScope ["value"] ["value"] (defScope s_is_count) := ⟨rfl, rfl, rfl, by decide +kernel, rfl, by decide +kernel, by decide +kernel⟩
theorem sc_check_team : FnScope ["team", "teams"] ["team", "teams"] (defScope s_check_team) := ⟨rfl, rfl, rfl, by decide +kernel, rfl, by decide +kernel, by decide +kernel⟩
theorem sc_check_pair : FnScope ["one", "other", "teams"] ["one", "other", "teams"] (defScope s_check_pair) := ⟨rfl, rfl, rfl, by decide +kernel, rfl, by decide +kernel, by decide +kernel⟩
theorem sc_Rule_step : FnScope ["self"] ["self"] (defScope s_Rule_step) := ⟨rfl, rfl, rfl, by decide +kernel, rfl, by decide +kernel, by decide +kernel⟩
theorem sc_rounds_at : FnScope ["step", "places", "ring", "steps", "rest", "goals", "lap", "goal"] ["step", "places", "ring"] (defScope s_rounds_at) := ⟨rfl, rfl, rfl, by decide +kernel, rfl, by decide +kernel, by decide +kernel⟩
theorem sc_rounds_of : FnScope ["rule", "size", "one", "other"] ["rule", "size", "one", "other"] (defScope s_rounds_of) := ⟨rfl, rfl, rfl, by decide +kernel, rfl, by decide +kernel, by decide +kernel⟩
theorem sc_is_rightP : FnScope ["rule", "size"] ["rule", "size"] (defScope s_is_rightP) := ⟨rfl, rfl, rfl, by decide +kernel, rfl, by decide +kernel, by decide +kernel⟩
theorem sc_is_right : FnScope ["rule", "size"] ["rule", "size"] (defScope s_is_right) := ⟨rfl, rfl, rfl, by decide +kernel, rfl, by decide +kernel, by decide +kernel⟩
theorem sc_right : FnScope ["_law_pot_here", "_law_model_here", "_law_half", "_law_peer", "_law_makes", "_law_many", "_law_due", "_law_is_due", "_law_turn", "_law_who", "_law_mate", "_law_told", "_law_spare", "_law_pair", "_law_made"] ["_law_pot_here"] (defScope s_right) := ⟨rfl, rfl, rfl, by decide +kernel, rfl, by decide +kernel, by decide +kernel⟩
theorem sc_pot : FnScope ["_law_script", "_law_k", "_law_cell"] ["_law_script", "_law_k"] (defScope s_pot) := ⟨rfl, rfl, rfl, by decide +kernel, rfl, by decide +kernel, by decide +kernel⟩
theorem sc_law : FnScope ["_law_script", "_law_k"] ["_law_script"] (defScope s_law) := ⟨rfl, rfl, rfl, by decide +kernel, rfl, by decide +kernel, by decide +kernel⟩
def wd_CONTRARY_STANDERS : List (Str × Str) := [("home", "away"), ("away", "home"), ("even", "odd"), ("odd", "even")]
structure Ad where
  a_spots : Addr
  d_spots : FuncData
  a_draw : Addr
  d_draw : FuncData
  a_pick : Addr
  d_pick : FuncData
  a_signs : Addr
  d_signs : FuncData
  a_model : Addr
  d_model : FuncData
  a_least : Addr
  d_least : FuncData
  a_is_marks : Addr
  d_is_marks : FuncData
  a_check_part : Addr
  d_check_part : FuncData
  a_Word_init : Addr
  d_Word_init : FuncData
  a_is_integer : Addr
  d_is_integer : FuncData
  a_Rule_init : Addr
  d_Rule_init : FuncData
  a_rule : Addr
  d_rule : FuncData
  a_meetings : Addr
  d_meetings : FuncData
  a_Word_least : Addr
  d_Word_least : FuncData
  a_Rule_least_size : Addr
  d_Rule_least_size : FuncData
  a_is_size : Addr
  d_is_size : FuncData
  a_check_size : Addr
  d_check_size : FuncData
  a_is_count : Addr
  d_is_count : FuncData
  a_check_team : Addr
  d_check_team : FuncData
  a_check_pair : Addr
  d_check_pair : FuncData
  a_Rule_step : Addr
  d_Rule_step : FuncData
  a_rounds_at : Addr
  d_rounds_at : FuncData
  a_rounds_of : Addr
  d_rounds_of : FuncData
  a_is_rightP : Addr
  d_is_rightP : FuncData
  a_is_right : Addr
  d_is_right : FuncData
  a_right : Addr
  d_right : FuncData
  a_pot : Addr
  d_pot : FuncData
  a_law : Addr
  d_law : FuncData
  c_Word : Addr
  c_Rule : Addr
  pa_Rule_least_size : Addr
  pa_Rule_step : Addr
  pa_Word_least : Addr
  wd_CONTRARY_STANDERS : Addr
abbrev Ad.tbs (A : Ad) : List PEn := []
structure Txt (w : World) (K : PySem.W.Frag) (mg : Str → Option Value) (A : Ad) : Prop where
  F_spots : Fun K "_law_spots" "_law_spots" s_spots A.a_spots A.d_spots
  b_spots : Binds K A.d_spots ["_law_model_here", "_law_half", "_law_when"] []
  g_spots : mg "_law_spots" = some (.ref A.a_spots)
  F_draw : Fun K "_law_draw" "_law_draw" s_draw A.a_draw A.d_draw
  b_draw : Binds K A.d_draw ["_law_pot_here", "_law_much"] []
  g_draw : mg "_law_draw" = some (.ref A.a_draw)
  F_pick : Fun K "_law_pick" "_law_pick" s_pick A.a_pick A.d_pick
  b_pick : Binds K A.d_pick ["_law_pot_here", "_law_some"] []
  g_pick : mg "_law_pick" = some (.ref A.a_pick)
  F_signs : Fun K "_law_signs" "_law_signs" s_signs A.a_signs A.d_signs
  b_signs : Binds K A.d_signs ["_law_pot_here", "_law_few", "_law_most"] []
  g_signs : mg "_law_signs" = some (.ref A.a_signs)
  F_model : Fun K "_law_model" "_law_model" s_model A.a_model A.d_model
  b_model : Binds K A.d_model ["_law_pot_here"] []
  g_model : mg "_law_model" = some (.ref A.a_model)
  F_least : Fun K "_law_least" "_law_least" s_least A.a_least A.d_least
  b_least : Binds K A.d_least ["_law_model_here"] []
  g_least : mg "_law_least" = some (.ref A.a_least)
  F_is_marks : Fun K "is_marks" "is_marks" s_is_marks A.a_is_marks A.d_is_marks
  b_is_marks : Binds K A.d_is_marks ["value"] []
  g_is_marks : mg "is_marks" = some (.ref A.a_is_marks)
  F_check_part : Fun K "_check_part" "_check_part" s_check_part A.a_check_part A.d_check_part
  b_check_part : Binds K A.d_check_part ["marks"] []
  g_check_part : mg "_check_part" = some (.ref A.a_check_part)
  F_Word_init : Fun K "__init__" "Word.__init__" s_Word_init A.a_Word_init A.d_Word_init
  b_Word_init : Binds K A.d_Word_init ["self", "head", "middle", "tail"] []
  F_is_integer : Fun K "is_integer" "is_integer" s_is_integer A.a_is_integer A.d_is_integer
  b_is_integer : Binds K A.d_is_integer ["value"] []
  g_is_integer : mg "is_integer" = some (.ref A.a_is_integer)
  F_Rule_init : FunD K "__init__" "Rule.__init__" (defArgs s_Rule_init) (defBody s_Rule_init) (defScope s_Rule_init) [V.bl false] [] A.a_Rule_init A.d_Rule_init
  b_Rule_init : Binds K A.d_Rule_init ["self", "step", "word", "stander", "turned"] []
  F_rule : Fun K "_law_rule" "_law_rule" s_rule A.a_rule A.d_rule
  b_rule : Binds K A.d_rule ["_law_model_here"] []
  g_rule : mg "_law_rule" = some (.ref A.a_rule)
  F_meetings : Fun K "_law_meetings" "_law_meetings" s_meetings A.a_meetings A.d_meetings
  b_meetings : Binds K A.d_meetings ["_law_model_here", "_law_half"] []
  g_meetings : mg "_law_meetings" = some (.ref A.a_meetings)
  F_Word_least : Fun K "least" "Word.least" s_Word_least A.a_Word_least A.d_Word_least
  b_Word_least : Binds K A.d_Word_least ["self"] []
  p_Word_least : PropOf K A.c_Word "least" A.pa_Word_least A.a_Word_least
  F_Rule_least_size : Fun K "least_size" "Rule.least_size" s_Rule_least_size A.a_Rule_least_size A.d_Rule_least_size
  b_Rule_least_size : Binds K A.d_Rule_least_size ["self"] []
  p_Rule_least_size : PropOf K A.c_Rule "least_size" A.pa_Rule_least_size A.a_Rule_least_size
  F_is_size : Fun K "is_size" "is_size" s_is_size A.a_is_size A.d_is_size
  b_is_size : Binds K A.d_is_size ["rule", "value"] []
  g_is_size : mg "is_size" = some (.ref A.a_is_size)
  F_check_size : Fun K "check_size" "check_size" s_check_size A.a_check_size A.d_check_size
  b_check_size : Binds K A.d_check_size ["rule", "size"] []
  g_check_size : mg "check_size" = some (.ref A.a_check_size)
  F_is_count : Fun K "is_count" "is_count" s_is_count A.a_is_count A.d_is_count
  b_is_count : Binds K A.d_is_count ["value"] []
  g_is_count : mg "is_count" = some (.ref A.a_is_count)
  F_check_team : Fun K "check_team" "check_team" s_check_team A.a_check_team A.d_check_team
  b_check_team : Binds K A.d_check_team ["team", "teams"] []
  g_check_team : mg "check_team" = some (.ref A.a_check_team)
  F_check_pair : Fun K "check_pair" "check_pair" s_check_pair A.a_check_pair A.d_check_pair
  b_check_pair : Binds K A.d_check_pair ["one", "other", "teams"] []
  g_check_pair : mg "check_pair" = some (.ref A.a_check_pair)
  F_Rule_step : Fun K "step" "Rule.step" s_Rule_step A.a_Rule_step A.d_Rule_step
  b_Rule_step : Binds K A.d_Rule_step ["self"] []
  p_Rule_step : PropOf K A.c_Rule "step" A.pa_Rule_step A.a_Rule_step
  F_rounds_at : Fun K "_rounds_at" "_rounds_at" s_rounds_at A.a_rounds_at A.d_rounds_at
  b_rounds_at : Binds K A.d_rounds_at ["step", "places", "ring"] []
  g_rounds_at : mg "_rounds_at" = some (.ref A.a_rounds_at)
  F_rounds_of : Fun K "rounds_of" "rounds_of" s_rounds_of A.a_rounds_of A.d_rounds_of
  b_rounds_of : Binds K A.d_rounds_of ["rule", "size", "one", "other"] []
  g_rounds_of : mg "rounds_of" = some (.ref A.a_rounds_of)
  F_is_rightP : Fun K "_is_right" "_is_right" s_is_rightP A.a_is_rightP A.d_is_rightP
  b_is_rightP : Binds K A.d_is_rightP ["rule", "size"] []
  g_is_rightP : mg "_is_right" = some (.ref A.a_is_rightP)
  F_is_right : Fun K "is_right" "is_right" s_is_right A.a_is_right A.d_is_right
  b_is_right : Binds K A.d_is_right ["rule", "size"] []
  g_is_right : mg "is_right" = some (.ref A.a_is_right)
  F_right : Fun K "_law_right" "_law_right" s_right A.a_right A.d_right
  b_right : Binds K A.d_right ["_law_pot_here"] []
  g_right : mg "_law_right" = some (.ref A.a_right)
  F_pot : Fun K "_law_pot" "_law_pot" s_pot A.a_pot A.d_pot
  b_pot : Binds K A.d_pot ["_law_script", "_law_k"] []
  g_pot : mg "_law_pot" = some (.ref A.a_pot)
  F_law : Fun K "law" "law" s_law A.a_law A.d_law
  b_law : Binds K A.d_law ["_law_script"] []
  g_law : mg "law" = some (.ref A.a_law)
  cl_Word : Cls K A.c_Word
  g_Word : mg "Word" = some (.ref A.c_Word)
  mk_Word : Mk K A.c_Word A.a_Word_init
  na_Word__head : NoAttr K A.c_Word "_head"
  na_Word__middle : NoAttr K A.c_Word "_middle"
  na_Word__tail : NoAttr K A.c_Word "_tail"
  cl_Rule : Cls K A.c_Rule
  g_Rule : mg "Rule" = some (.ref A.c_Rule)
  mk_Rule : Mk K A.c_Rule A.a_Rule_init
  na_Rule__step : NoAttr K A.c_Rule "_step"
  na_Rule__word : NoAttr K A.c_Rule "_word"
  na_Rule__stander : NoAttr K A.c_Rule "_stander"
  na_Rule__turned : NoAttr K A.c_Rule "_turned"
  g_CONTRARY_STANDERS : mg "CONTRARY_STANDERS" = some (.ref A.wd_CONTRARY_STANDERS)
  kd_CONTRARY_STANDERS : ∀ z c : Str, wd_CONTRARY_STANDERS.lookup z = some c → KDct K w A.wd_CONTRARY_STANDERS z (.str c)
  lo_CONTRARY_STANDERS : (A.wd_CONTRARY_STANDERS == sysModules) = false
  z_abs : mg "abs" = none
  z_all : mg "all" = none
  z_any : mg "any" = none
  z_bool : mg "bool" = none
  z_dict : mg "dict" = none
  z_divmod : mg "divmod" = none
  z_enumerate : mg "enumerate" = none
  z_int : mg "int" = none
  z_isinstance : mg "isinstance" = none
  z_len : mg "len" = none
  z_list : mg "list" = none
  z_max : mg "max" = none
  z_min : mg "min" = none
  z_range : mg "range" = none
  z_repr : mg "repr" = none
  z_set : mg "set" = none
  z_sorted : mg "sorted" = none
  z_str : mg "str" = none
  z_sum : mg "sum" = none
  z_tuple : mg "tuple" = none
  z_zip : mg "zip" = none
  i_gcd : mg "gcd" = some (.builtin "math.gcd")
  c_MOST_MARKS : ∃ u, mg "MOST_MARKS" = some u ∧ RelV (.int 4) u
  c_MOST_STEP : ∃ u, mg "MOST_STEP" = some u ∧ RelV (.int 7) u
  k_is_right_size_rule : KBn K A.d_is_right ["rule", "size"] 0 ["size", "rule"] (fun us ws => us ++ [ws.getD 1 .none, ws.getD 0 .none]) (fun us ws => us ++ [ws.getD 1 .non, ws.getD 0 .non])
  k_rounds_of_other_one_size_rule : KBn K A.d_rounds_of ["rule", "size", "one", "other"] 0 ["other", "one", "size", "rule"] (fun us ws => us ++ [ws.getD 3 .none, ws.getD 2 .none, ws.getD 1 .none, ws.getD 0 .none]) (fun us ws => us ++ [ws.getD 3 .non, ws.getD 2 .non, ws.getD 1 .non, ws.getD 0 .non])
abbrev ns_Word : List Str := ["_head", "_middle", "_tail"]
theorem nd_Word : ns_Word.Nodup := by decide +kernel
abbrev eWord (A : Ad) (x : (Str × Str × Str)) : D := .ins A.c_Word ns_Word [(D.v (V.str x.1)), (D.v (V.str x.2.1)), (D.v (V.str x.2.2))]
abbrev ns_Rule : List Str := ["_step", "_word", "_stander", "_turned"]
theorem nd_Rule : ns_Rule.Nodup := by decide +kernel
abbrev eRule (A : Ad) (x : (Int × (Str × Str × Str) × Str × Bool)) : D := .ins A.c_Rule ns_Rule [(D.v (V.int x.1)), (eWord A x.2.1), (D.v (V.str x.2.2.1)), (D.v (V.bl x.2.2.2))]
def M_spots (x_model_here : (Int × (Str × Str × Str) × Str × Bool)) (x_half : Int) (x_when : Int) (KM : (List Int) → Prop) : Prop :=
  (forC (fun (x11 : Int) (s13 : (List Int)) (k14 : ((List Int)) → Prop) => (CMulW x_model_here.1 x_when ∧ ((rangeI ((0 : Int) - x_half) (x_half + (1 : Int))).length < 100000 ∧ filC (fun (x37 : Int) (k30 : Option Int → Prop) => (0 < (((2 : Int) * x_half) + (1 : Int)) ∧ (if (decide (V.int (((x11 - (x_model_here.1 * x_when)) - x37) % (((2 : Int) * x_half) + (1 : Int))) = V.int (0 : Int))) = true then (k30 (some x37)) else (k30 none)))) (rangeI ((0 : Int) - x_half) (x_half + (1 : Int))) [] fun ys52 => (0 ≤ (0 : Int) ∧ ∃ g57 : Int.toNat (0 : Int) < ys52.length, ∀ x59, x59 = ys52[Int.toNat (0 : Int)]'g57 → (s13.length < 16777216 ∧ (k14 ((s13 ++ [x59])))))))) (rangeI (0 : Int) (((2 : Int) * x_half) + (1 : Int))) (([] : List Int)) fun s68 => (KM s68))
def sp_spots (A : Ad) : Sp := fun vs H Q _ => ∃ (ms : List Addr) (v_model_here : V) (x_model_here : (Int × (Str × Str × Str) × Str × Bool)) (x_half : Int) (x_when : Int) (KM : (List Int) → Prop), vs = [v_model_here, V.int x_half, V.int x_when] ∧ Wd ms [] [] H H ∧ rep ms H (D.dct [(Sum.inr ("stride" : Str) : Key), (Sum.inr ("parts" : Str) : Key), (Sum.inr ("stand" : Str) : Key), (Sum.inr ("flips" : Str) : Key)] [(D.v (V.int x_model_here.1)), (D.tup [(D.v (V.str x_model_here.2.1.1)), (D.v (V.str x_model_here.2.1.2.1)), (D.v (V.str x_model_here.2.1.2.2))]), (D.v (V.str x_model_here.2.2.1)), (D.v (V.bl x_model_here.2.2.2))]) v_model_here ∧ M_spots x_model_here x_half x_when KM ∧ ∀ (r : (List Int)) (u : V) (H1 : Hp), KM r → Ret [] H H1 → rep ms H1 (D.lst (r.map (fun y_ : Int => (D.v (V.int y_))))) u → Q u H1
set_option maxHeartbeats 16000000 in
theorem ok_spots {P : Program} {w : World} {K : PySem.W.Frag} {mg : Str → Option Value} {base : Heap} {A : Ad} (T : Txt w K mg A) : FnOk P w K mg base CX0 1 A.a_spots A.d_spots ["_law_model_here", "_law_half", "_law_when"] (sp_spots A) := by
  refine T.F_spots.ok sc_spots (fun vs H Q E h => ?_) (fun cdv A_ outer s_ H_0 vs Q E hr h => ?_)
  · obtain ⟨ms, v_model_here, x_model_here, x_half, x_when, KM, rfl, _⟩ := h
    rfl
  · obtain ⟨ms, v_model_here, x_model_here, x_half, x_when, KM, rfl, hW, h_model_here, hM, hQ⟩ := h
    unfold M_spots at hM
    refine ⟨_, (pss_cons (ps_asg (pe_tup (pa_cons (pe_lst pa_nil) (pa_cons (pe_op op_add (pe_op op_mul pe_int (pv 1)) pe_int) pa_nil))) (pg_tup rfl (pgs_cons (pg_name (i := 3) sc_spots.nd rfl (by first | exact Or.inl rfl | exact Or.inr rfl)) (pgs_cons (pg_name (i := 4) sc_spots.nd rfl (by first | exact Or.inl rfl | exact Or.inr rfl)) pgs_nil)))) (pss_cons (ps_for PassesOwn.never rfl (pi_rangeW1 (by rfl) T.z_range (pa_cons (pv 4) pa_nil)) (pg_name (i := 5) sc_spots.nd rfl (by first | exact Or.inl rfl | exact Or.inr rfl)) (pss_cons (ps_set (i := 6) sc_spots.nd rfl (by first | exact Or.inl rfl | exact Or.inr rfl) (pe_op op_sub (pv 5) (pe_op op_mulW (pe_dget (hu_of hr) (pv 0) pe_str (fun _ _ => rfl)) (pv 2)))) (pss_one (ps_expr (pe_bmK (K := K) rfl PySem.F.plainAttrs_list PySem.F.slot_list_append PySem.F.type_list_append mt_append (pv 3) (pa_cons (pe_ix (ix_listK (K := K) rfl) (pe_lc (own := [("_law_spot", 7)]) (g := gName 7) rfl sc_spots.nd (pi_rangeW2 (by rfl) T.z_range (pa_cons (pe_op op_sub pe_int (pv 1)) (pa_cons (pe_op op_add (pv 1) pe_int) pa_nil))) (blkOk_by (N := ["_law_model_here", "_law_half", "_law_when", "_law_found", "_law_ring", "_law_who", "_law_here", "_law_spot"]) (sc := defScope s_spots) (by decide +kernel)) (fun _ _ _ _ _ => pg_name (i := 7) sc_spots.nd rfl (by first | exact Or.inl rfl | exact Or.inr rfl)) (fun _ _ _ _ _ => (pts_one (pt_cmpR op_eq (pe_op op_mod (pe_op op_sub (pv 6) (pv 7)) (pv 4)) pe_int (nomark _)))) (fun _ _ _ _ _ => (pv 7))) pe_int (fun _ _ => rfl)) pa_nil)))))) (pss_one (ps_ret (pv 3))))), ?_⟩
    refine ⟨(by show 0 ≤ sizeLine; decide), ?_⟩
    intro L1 nl2
    have nm3 := nm_new hW nl2
    have mu4 := mo_newL (ds := ([] : List Int).map (fun y_ : Int => (D.v (V.int y_)))) (vs := []) hW nl2 repL_nil
    replace h_model_here := rep_cell (o := .lst []) nl2 h_model_here
    replace hW := wd_cell (o := .lst []) hW nl2
    generalize upd H_0 L1 (.lst []) = H5 at *
    replace mu4 : MutO (L1 :: ms) [] H_0 H5 L1 (D.lst (([] : List Int).map (fun y_ : Int => (D.v (V.int y_))))) := mu4
    refine ⟨_, rfl, ?_⟩
    refine ⟨_, _, rfl, rfl, .inl ⟨by decide, by decide⟩, ?_⟩
    refine ⟨_, _, rfl, rfl, ?_⟩
    refine ⟨(by show 2 ≤ sizeLine; decide), ?_⟩
    intro p6 n9
    have e7 := Rx.Ext.new (H := H5) (o := (HO.tup [(V.ref L1), V.int (((2 : Int) * x_half) + (1 : Int))])) n9
    have hp8 : upd H5 p6 (HO.tup [(V.ref L1), V.int (((2 : Int) * x_half) + (1 : Int))]) p6 = some (HO.tup [(V.ref L1), V.int (((2 : Int) * x_half) + (1 : Int))]) := upd_same
    generalize upd H5 p6 (HO.tup [(V.ref L1), V.int (((2 : Int) * x_half) + (1 : Int))]) = H10 at e7 hp8 ⊢
    replace h_model_here := rep_ext e7 h_model_here
    replace mu4 := mo_ext e7 mu4
    replace hW := hW.ret0 e7
    refine ⟨_, _, rfl, .inl (.inl hp8), rfl, ?_⟩
    refine ⟨_, _, rfl, ?_⟩
    refine ⟨_, _, rfl, ?_⟩
    refine ⟨rfl, ?_⟩
    refine ⟨_, rfl, ?_⟩
    refine ⟨_, rfl, ?_⟩
    refine for_rangeG (S := (List Int)) (lo := (0 : Int)) (hi := (((2 : Int) * x_half) + (1 : Int))) (N := Int.toNat (((2 : Int) * x_half) + (1 : Int))) (fun (s : (List Int)) σ_ h_ => ∃ (w_0 : Option V), ∃ (w_1 : Option V), σ_ = [some v_model_here, some (V.int x_half), some (V.int x_when), some (V.ref L1), some (V.int (((2 : Int) * x_half) + (1 : Int))), w_0, w_1, none] ∧ Wd (L1 :: ms) [] [] H_0 h_ ∧ Keep (L1 :: ms) H10 h_ ∧ MutO (L1 :: ms) [] H_0 h_ L1 (D.lst (s.map (fun y_ : Int => (D.v (V.int y_)))))) (([] : List Int)) (by simp) hM ⟨_, _, rfl, hW, Keep.refl, mu4⟩ ?_ ?_
    · skip
      clear mu4
      rintro x11 s13 k14 _ H22 ⟨w19, w20, rfl, hW, hk15, mu21⟩ hM Nx17 hN18
      replace h_model_here := rep_keep hk15 h_model_here
      refine ⟨_, rfl, ?_⟩
      refine ⟨_, rfl, ?_⟩
      apply rep_dget (k := (Sum.inr ("stride" : Str) : Key)) 0 h_model_here (by decide +kernel) rfl rfl
      intro u24 h23
      obtain rfl := of_v h23
      refine ⟨_, rfl, ?_⟩
      obtain ⟨g25, hM⟩ := hM
      refine ⟨_, _, rfl, rfl, g25, ?_⟩
      refine ⟨_, _, rfl, rfl, ?_⟩
      refine ⟨_, rfl, ?_⟩
      refine ⟨mo_tyL mu21, ?_⟩
      refine ⟨_, rfl, ?_⟩
      refine ⟨_, _, rfl, rfl, ?_⟩
      refine ⟨_, rfl, ?_⟩
      refine ⟨_, _, rfl, rfl, ?_⟩
      refine ⟨_, _, rfl, ?_⟩
      refine fun L26 nl27 => ?_
      have nm41 := nm_new hW nl27
      have kn42 := keep_none (w := hW) nl27 hk15
      have ne43 := mo_ne nl27 mu21
      refine lf_rangeG (L := L26) (fun n_ ys_ h_ => Wd (L26 :: (L1 :: ms)) [] [] H_0 h_ ∧ Keep (L26 :: (L1 :: ms)) H22 h_ ∧ MutO (L26 :: (L1 :: ms)) [] H_0 h_ L26 (D.lst (ys_.map (fun y_ : Int => (D.v (V.int y_))))) ∧ ys_.length ≤ n_ ∧ MutO (L26 :: (L1 :: ms)) [] H_0 h_ L1 (D.lst (s13.map (fun y_ : Int => (D.v (V.int y_)))))) (lo := ((0 : Int) - x_half)) (hi := (x_half + (1 : Int))) (N := Int.toNat ((x_half + (1 : Int)) - ((0 : Int) - x_half))) (by simp) hM ⟨wd_cell hW nl27, keep_cell nl27 Keep.refl, mo_newL (ds := []) hW nl27 repL_nil, Nat.le_refl _, mo_cell nl27 mu21⟩ ?_ ?_
      · skip
        clear mu21
        rintro x37  n28 ys29 k30 H44 hn ⟨hW, hk31, mu32, ln33, mu45⟩ hM Nx36 hN34 hNn35
        replace h_model_here := rep_keep hk31 (rep_new nl27 h_model_here)
        replace hk15 := Keep.trans (Keep.new hk15) hk31
        refine ⟨rfl, ?_⟩
        refine ⟨_, rfl, ?_⟩
        refine ⟨_, rfl, ?_⟩
        refine ⟨_, _, rfl, rfl, ?_⟩
        refine ⟨_, rfl, ?_⟩
        obtain ⟨g46, hM⟩ := hM
        refine ⟨_, _, rfl, rfl, g46, ?_⟩
        refine ⟨rfl, ?_⟩
        refine ⟨_, rfl, ?_⟩
        refine ite3 hM (fun hM => ?_) (fun hM => ?_)
        · skip
          refine ⟨_, rfl, ?_⟩
          refine mo_end mu32 hn (by rw [List.length_map]; exact ln33) fun vs47 hr48 => ?_
          have mk50 := mo_setL mu32 (repL_snoc (e := (fun y_ : Int => (D.v (V.int y_)))) (xs := ys29) (y := x37) hr48 rep_v)
          replace mu45 := mo_put (o := .lst (vs47 ++ [V.int x37])) mu32.im ne43 mu45
          replace h_model_here := rep_put (o := .lst (vs47 ++ [V.int x37])) mu32.im h_model_here
          replace hk15 := keep_put (o := .lst (vs47 ++ [V.int x37])) mu32.im hk15
          replace hk31 := keep_put (o := .lst (vs47 ++ [V.int x37])) mu32.im hk31
          replace hW := wd_put (o := .lst (vs47 ++ [V.int x37])) hW mu32
          replace mu32 := mk50
          generalize upd H44 L26 (.lst (vs47 ++ [V.int x37])) = H51 at *
          replace mu32 : MutO (L26 :: (L1 :: ms)) [] H_0 H51 L26 (D.lst ((ys29 ++ [x37]).map (fun y_ : Int => (D.v (V.int y_))))) := mu32
          clear mk50
          exact hN34 x37 _ hM ⟨hW, hk31, mu32, by rw [List.length_append]; exact Nat.add_le_add_right ln33 1, mu45⟩
        · skip
          exact hNn35 _ hM ⟨hW, hk31, mu32, Nat.le_succ_of_le ln33, mu45⟩
      · skip
        clear mu21
        rintro n28 ys52 H53 hM ⟨hW, hk31, mu32, ln33, mu54⟩
        replace h_model_here := rep_keep hk31 (rep_new nl27 h_model_here)
        replace hk15 := Keep.trans (Keep.new hk15) hk31
        clear hk31 ln33
        have h55 := mo_rep_dr dr_here nm41 mu32
        replace hW := wd_dr dr_here mu32.hp hW
        replace h_model_here := rep_dr dr_here h_model_here
        replace hk15 := keep_dr dr_here kn42 hk15
        replace mu54 := mo_dr dr_here ne43 mu54
        clear mu32
        obtain ⟨g56, g57, hM⟩ := hM
        apply rep_ixL (e := (fun y_ : Int => (D.v (V.int y_)))) (xs := ys52) h55 g56 g57
        intro u60 h58
        obtain ⟨x59, x59e⟩ : ∃ x_, x_ = ys52[Int.toNat (0 : Int)]'g57 := ⟨_, rfl⟩
        rw [← x59e] at h58
        replace hM := hM x59 x59e
        obtain rfl := of_v h58
        obtain ⟨g61, hM⟩ := hM
        apply mo_appU mu54 (by rw [List.length_map]; exact g61)
        intro vs62 hr64
        have mk66 := mo_setL mu54 (repL_snoc (e := (fun y_ : Int => (D.v (V.int y_)))) (xs := s13) (y := x59) hr64 rep_v)
        replace h_model_here := rep_put (o := .lst (vs62 ++ [V.int x59])) mu54.im h_model_here
        replace hk15 := keep_put (o := .lst (vs62 ++ [V.int x59])) mu54.im hk15
        replace h55 := rep_put (o := .lst (vs62 ++ [V.int x59])) mu54.im h55
        replace hW := wd_put (o := .lst (vs62 ++ [V.int x59])) hW mu54
        replace mu54 := mk66
        generalize upd H53 L1 (.lst (vs62 ++ [V.int x59])) = H67 at *
        replace mu54 : MutO (L1 :: ms) [] H_0 H67 L1 (D.lst ((s13 ++ [x59]).map (fun y_ : Int => (D.v (V.int y_))))) := mu54
        clear mk66
        exact hN18 ((s13 ++ [x59])) _ _ hM ⟨_, _, rfl, hW, hk15, mu54⟩
    · skip
      clear mu4
      rintro s68 _ H73 hM ⟨w70, w71, rfl, hW, hk69, mu72⟩
      replace h_model_here := rep_keep hk69 h_model_here
      have h74 := mo_rep_dr dr_here nm3 mu72
      replace hW := wd_dr dr_here mu72.hp hW
      replace h_model_here := rep_dr dr_here h_model_here
      clear mu72
      refine ⟨_, rfl, ?_⟩
      exact hQ s68 _ _ hM hW.out h74
def sp_spotsB (A : Ad) : Sp := fun vs H Q _ => ∃ (ms : List Addr) (v_model_here : V) (x_model_here : (Int × (Str × Str × Str) × Str × Bool)) (x_half : Int) (x_when : Int) (KM : (List Int) → Prop), vs = [v_model_here, V.int x_half, V.int x_when] ∧ Wd ms [] [] H H ∧ rep ms H (D.dct [(Sum.inr ("stride" : Str) : Key), (Sum.inr ("parts" : Str) : Key), (Sum.inr ("stand" : Str) : Key), (Sum.inr ("flips" : Str) : Key)] [(D.v (V.int x_model_here.1)), (D.tup [(D.v (V.str x_model_here.2.1.1)), (D.v (V.str x_model_here.2.1.2.1)), (D.v (V.str x_model_here.2.1.2.2))]), (D.v (V.str x_model_here.2.2.1)), (D.v (V.bl x_model_here.2.2.2))]) v_model_here ∧ M_spots x_model_here x_half x_when KM ∧ ∀ (r : (List Int)) (u : V) (H1 : Hp), KM r → Ret [] H H1 → rep ms H1 (D.lst (r.map (fun y_ : Int => (D.v (V.int y_))))) u → (∀ p_, u = .ref p_ → H p_ = none) → Q u H1
set_option maxHeartbeats 16000000 in
theorem ok_spotsB {P : Program} {w : World} {K : PySem.W.Frag} {mg : Str → Option Value} {base : Heap} {A : Ad} (T : Txt w K mg A) : FnOk P w K mg base CX0 1 A.a_spots A.d_spots ["_law_model_here", "_law_half", "_law_when"] (sp_spotsB A) := by
  refine T.F_spots.ok sc_spots (fun vs H Q E h => ?_) (fun cdv A_ outer s_ H_0 vs Q E hr h => ?_)
  · obtain ⟨ms, v_model_here, x_model_here, x_half, x_when, KM, rfl, _⟩ := h
    rfl
  · obtain ⟨ms, v_model_here, x_model_here, x_half, x_when, KM, rfl, hW, h_model_here, hM, hQ⟩ := h
    unfold M_spots at hM
    refine ⟨_, (pss_cons (ps_asg (pe_tup (pa_cons (pe_lst pa_nil) (pa_cons (pe_op op_add (pe_op op_mul pe_int (pv 1)) pe_int) pa_nil))) (pg_tup rfl (pgs_cons (pg_name (i := 3) sc_spots.nd rfl (by first | exact Or.inl rfl | exact Or.inr rfl)) (pgs_cons (pg_name (i := 4) sc_spots.nd rfl (by first | exact Or.inl rfl | exact Or.inr rfl)) pgs_nil)))) (pss_cons (ps_for PassesOwn.never rfl (pi_rangeW1 (by rfl) T.z_range (pa_cons (pv 4) pa_nil)) (pg_name (i := 5) sc_spots.nd rfl (by first | exact Or.inl rfl | exact Or.inr rfl)) (pss_cons (ps_set (i := 6) sc_spots.nd rfl (by first | exact Or.inl rfl | exact Or.inr rfl) (pe_op op_sub (pv 5) (pe_op op_mulW (pe_dget (hu_of hr) (pv 0) pe_str (fun _ _ => rfl)) (pv 2)))) (pss_one (ps_expr (pe_bmK (K := K) rfl PySem.F.plainAttrs_list PySem.F.slot_list_append PySem.F.type_list_append mt_append (pv 3) (pa_cons (pe_ix (ix_listK (K := K) rfl) (pe_lc (own := [("_law_spot", 7)]) (g := gName 7) rfl sc_spots.nd (pi_rangeW2 (by rfl) T.z_range (pa_cons (pe_op op_sub pe_int (pv 1)) (pa_cons (pe_op op_add (pv 1) pe_int) pa_nil))) (blkOk_by (N := ["_law_model_here", "_law_half", "_law_when", "_law_found", "_law_ring", "_law_who", "_law_here", "_law_spot"]) (sc := defScope s_spots) (by decide +kernel)) (fun _ _ _ _ _ => pg_name (i := 7) sc_spots.nd rfl (by first | exact Or.inl rfl | exact Or.inr rfl)) (fun _ _ _ _ _ => (pts_one (pt_cmpR op_eq (pe_op op_mod (pe_op op_sub (pv 6) (pv 7)) (pv 4)) pe_int (nomark _)))) (fun _ _ _ _ _ => (pv 7))) pe_int (fun _ _ => rfl)) pa_nil)))))) (pss_one (ps_ret (pv 3))))), ?_⟩
    refine ⟨(by show 0 ≤ sizeLine; decide), ?_⟩
    intro L1 nl2
    have nm3 := nm_new hW nl2
    have mu4 := mo_newL (ds := ([] : List Int).map (fun y_ : Int => (D.v (V.int y_)))) (vs := []) hW nl2 repL_nil
    replace h_model_here := rep_cell (o := .lst []) nl2 h_model_here
    replace hW := wd_cell (o := .lst []) hW nl2
    generalize upd H_0 L1 (.lst []) = H5 at *
    replace mu4 : MutO (L1 :: ms) [] H_0 H5 L1 (D.lst (([] : List Int).map (fun y_ : Int => (D.v (V.int y_))))) := mu4
    refine ⟨_, rfl, ?_⟩
    refine ⟨_, _, rfl, rfl, .inl ⟨by decide, by decide⟩, ?_⟩
    refine ⟨_, _, rfl, rfl, ?_⟩
    refine ⟨(by show 2 ≤ sizeLine; decide), ?_⟩
    intro p6 n9
    have e7 := Rx.Ext.new (H := H5) (o := (HO.tup [(V.ref L1), V.int (((2 : Int) * x_half) + (1 : Int))])) n9
    have hp8 : upd H5 p6 (HO.tup [(V.ref L1), V.int (((2 : Int) * x_half) + (1 : Int))]) p6 = some (HO.tup [(V.ref L1), V.int (((2 : Int) * x_half) + (1 : Int))]) := upd_same
    generalize upd H5 p6 (HO.tup [(V.ref L1), V.int (((2 : Int) * x_half) + (1 : Int))]) = H10 at e7 hp8 ⊢
    replace h_model_here := rep_ext e7 h_model_here
    replace mu4 := mo_ext e7 mu4
    replace hW := hW.ret0 e7
    refine ⟨_, _, rfl, .inl (.inl hp8), rfl, ?_⟩
    refine ⟨_, _, rfl, ?_⟩
    refine ⟨_, _, rfl, ?_⟩
    refine ⟨rfl, ?_⟩
    refine ⟨_, rfl, ?_⟩
    refine ⟨_, rfl, ?_⟩
    refine for_rangeG (S := (List Int)) (lo := (0 : Int)) (hi := (((2 : Int) * x_half) + (1 : Int))) (N := Int.toNat (((2 : Int) * x_half) + (1 : Int))) (fun (s : (List Int)) σ_ h_ => ∃ (w_0 : Option V), ∃ (w_1 : Option V), σ_ = [some v_model_here, some (V.int x_half), some (V.int x_when), some (V.ref L1), some (V.int (((2 : Int) * x_half) + (1 : Int))), w_0, w_1, none] ∧ Wd (L1 :: ms) [] [] H_0 h_ ∧ Keep (L1 :: ms) H10 h_ ∧ MutO (L1 :: ms) [] H_0 h_ L1 (D.lst (s.map (fun y_ : Int => (D.v (V.int y_)))))) (([] : List Int)) (by simp) hM ⟨_, _, rfl, hW, Keep.refl, mu4⟩ ?_ ?_
    · skip
      clear mu4
      rintro x11 s13 k14 _ H22 ⟨w19, w20, rfl, hW, hk15, mu21⟩ hM Nx17 hN18
      replace h_model_here := rep_keep hk15 h_model_here
      refine ⟨_, rfl, ?_⟩
      refine ⟨_, rfl, ?_⟩
      apply rep_dget (k := (Sum.inr ("stride" : Str) : Key)) 0 h_model_here (by decide +kernel) rfl rfl
      intro u24 h23
      obtain rfl := of_v h23
      refine ⟨_, rfl, ?_⟩
      obtain ⟨g25, hM⟩ := hM
      refine ⟨_, _, rfl, rfl, g25, ?_⟩
      refine ⟨_, _, rfl, rfl, ?_⟩
      refine ⟨_, rfl, ?_⟩
      refine ⟨mo_tyL mu21, ?_⟩
      refine ⟨_, rfl, ?_⟩
      refine ⟨_, _, rfl, rfl, ?_⟩
      refine ⟨_, rfl, ?_⟩
      refine ⟨_, _, rfl, rfl, ?_⟩
      refine ⟨_, _, rfl, ?_⟩
      refine fun L26 nl27 => ?_
      have nm41 := nm_new hW nl27
      have kn42 := keep_none (w := hW) nl27 hk15
      have ne43 := mo_ne nl27 mu21
      refine lf_rangeG (L := L26) (fun n_ ys_ h_ => Wd (L26 :: (L1 :: ms)) [] [] H_0 h_ ∧ Keep (L26 :: (L1 :: ms)) H22 h_ ∧ MutO (L26 :: (L1 :: ms)) [] H_0 h_ L26 (D.lst (ys_.map (fun y_ : Int => (D.v (V.int y_))))) ∧ ys_.length ≤ n_ ∧ MutO (L26 :: (L1 :: ms)) [] H_0 h_ L1 (D.lst (s13.map (fun y_ : Int => (D.v (V.int y_)))))) (lo := ((0 : Int) - x_half)) (hi := (x_half + (1 : Int))) (N := Int.toNat ((x_half + (1 : Int)) - ((0 : Int) - x_half))) (by simp) hM ⟨wd_cell hW nl27, keep_cell nl27 Keep.refl, mo_newL (ds := []) hW nl27 repL_nil, Nat.le_refl _, mo_cell nl27 mu21⟩ ?_ ?_
      · skip
        clear mu21
        rintro x37  n28 ys29 k30 H44 hn ⟨hW, hk31, mu32, ln33, mu45⟩ hM Nx36 hN34 hNn35
        replace h_model_here := rep_keep hk31 (rep_new nl27 h_model_here)
        replace hk15 := Keep.trans (Keep.new hk15) hk31
        refine ⟨rfl, ?_⟩
        refine ⟨_, rfl, ?_⟩
        refine ⟨_, rfl, ?_⟩
        refine ⟨_, _, rfl, rfl, ?_⟩
        refine ⟨_, rfl, ?_⟩
        obtain ⟨g46, hM⟩ := hM
        refine ⟨_, _, rfl, rfl, g46, ?_⟩
        refine ⟨rfl, ?_⟩
        refine ⟨_, rfl, ?_⟩
        refine ite3 hM (fun hM => ?_) (fun hM => ?_)
        · skip
          refine ⟨_, rfl, ?_⟩
          refine mo_end mu32 hn (by rw [List.length_map]; exact ln33) fun vs47 hr48 => ?_
          have mk50 := mo_setL mu32 (repL_snoc (e := (fun y_ : Int => (D.v (V.int y_)))) (xs := ys29) (y := x37) hr48 rep_v)
          replace mu45 := mo_put (o := .lst (vs47 ++ [V.int x37])) mu32.im ne43 mu45
          replace h_model_here := rep_put (o := .lst (vs47 ++ [V.int x37])) mu32.im h_model_here
          replace hk15 := keep_put (o := .lst (vs47 ++ [V.int x37])) mu32.im hk15
          replace hk31 := keep_put (o := .lst (vs47 ++ [V.int x37])) mu32.im hk31
          replace hW := wd_put (o := .lst (vs47 ++ [V.int x37])) hW mu32
          replace mu32 := mk50
          generalize upd H44 L26 (.lst (vs47 ++ [V.int x37])) = H51 at *
          replace mu32 : MutO (L26 :: (L1 :: ms)) [] H_0 H51 L26 (D.lst ((ys29 ++ [x37]).map (fun y_ : Int => (D.v (V.int y_))))) := mu32
          clear mk50
          exact hN34 x37 _ hM ⟨hW, hk31, mu32, by rw [List.length_append]; exact Nat.add_le_add_right ln33 1, mu45⟩
        · skip
          exact hNn35 _ hM ⟨hW, hk31, mu32, Nat.le_succ_of_le ln33, mu45⟩
      · skip
        clear mu21
        rintro n28 ys52 H53 hM ⟨hW, hk31, mu32, ln33, mu54⟩
        replace h_model_here := rep_keep hk31 (rep_new nl27 h_model_here)
        replace hk15 := Keep.trans (Keep.new hk15) hk31
        clear hk31 ln33
        have h55 := mo_rep_dr dr_here nm41 mu32
        replace hW := wd_dr dr_here mu32.hp hW
        replace h_model_here := rep_dr dr_here h_model_here
        replace hk15 := keep_dr dr_here kn42 hk15
        replace mu54 := mo_dr dr_here ne43 mu54
        clear mu32
        obtain ⟨g56, g57, hM⟩ := hM
        apply rep_ixL (e := (fun y_ : Int => (D.v (V.int y_)))) (xs := ys52) h55 g56 g57
        intro u60 h58
        obtain ⟨x59, x59e⟩ : ∃ x_, x_ = ys52[Int.toNat (0 : Int)]'g57 := ⟨_, rfl⟩
        rw [← x59e] at h58
        replace hM := hM x59 x59e
        obtain rfl := of_v h58
        obtain ⟨g61, hM⟩ := hM
        apply mo_appU mu54 (by rw [List.length_map]; exact g61)
        intro vs62 hr64
        have mk66 := mo_setL mu54 (repL_snoc (e := (fun y_ : Int => (D.v (V.int y_)))) (xs := s13) (y := x59) hr64 rep_v)
        replace h_model_here := rep_put (o := .lst (vs62 ++ [V.int x59])) mu54.im h_model_here
        replace hk15 := keep_put (o := .lst (vs62 ++ [V.int x59])) mu54.im hk15
        replace h55 := rep_put (o := .lst (vs62 ++ [V.int x59])) mu54.im h55
        replace hW := wd_put (o := .lst (vs62 ++ [V.int x59])) hW mu54
        replace mu54 := mk66
        generalize upd H53 L1 (.lst (vs62 ++ [V.int x59])) = H67 at *
        replace mu54 : MutO (L1 :: ms) [] H_0 H67 L1 (D.lst ((s13 ++ [x59]).map (fun y_ : Int => (D.v (V.int y_))))) := mu54
        clear mk66
        exact hN18 ((s13 ++ [x59])) _ _ hM ⟨_, _, rfl, hW, hk15, mu54⟩
    · skip
      clear mu4
      rintro s68 _ H73 hM ⟨w70, w71, rfl, hW, hk69, mu72⟩
      replace h_model_here := rep_keep hk69 h_model_here
      have h74 := mo_rep_dr dr_here nm3 mu72
      replace hW := wd_dr dr_here mu72.hp hW
      replace h_model_here := rep_dr dr_here h_model_here
      have z0 := mu72.h0
      clear mu72
      refine ⟨_, rfl, ?_⟩
      exact hQ s68 _ _ hM hW.out h74 (fun p_ e_ => by cases e_; exact z0)
/-! ### draws: any number below the size -/
def M_draw (x_size : Int) (KM : Int → Prop) : Prop := (0 < x_size ∧ x_size < 1073741824) ∧ ∀ d : Int, 0 ≤ d → d < x_size → KM d
def sp_draw (A : Ad) : Sp := fun vs H Q _ => ∃ (ms : List Addr) (ap : Addr) (x_size : Int) (KM : Int → Prop), vs = [.ref ap, V.int x_size] ∧ Wd ms [(ap, none)] [] H H ∧ M_draw x_size KM ∧ ∀ (r : Int) (u : V) (H1 : Hp), KM r → Ret [(ap, none)] H H1 → rep ms H1 (D.v (V.int r)) u → Q u H1
theorem ret_pot1 {H : Hp} {ap : Addr} {o : HO} {i j : Int} (ha : H ap = some o) (hj : j.natAbs < 4294967296) : Ret [(ap, none)] H (upd H ap (.lst [.int i, .int j])) := by
  refine ⟨fun a u n h => ?_, fun a h => ?_, fun a h => ?_⟩
  · rw [upd_ne (fun z => n (by rw [z]; exact List.mem_singleton.mpr rfl))]
    exact h
  · rw [List.mem_singleton.mp h]
    exact (⟨i, j, upd_same, hj⟩ : PotH _ _)
  · by_cases e : a = ap
    · rw [e, upd_same]
      exact fun z => nomatch z
    · rw [upd_ne e]
      exact h
theorem ret_pot2 {H : Hp} {ap p : Addr} {o u : HO} {i j : Int} (ha : H ap = some o) (np : H p = none) (hj : j.natAbs < 4294967296) : Ret [(ap, none)] H (upd (upd H p u) ap (.lst [.int i, .int j])) := by
  have e := Rx.Ext.new (o := u) np
  have h2 := ret_pot1 (i := i) (j := j) (e.keep ha) hj
  exact ⟨fun a w n h => h2.kp a w n (e.keep h), h2.pot, fun a h => h2.grow a (e.grow a h)⟩
theorem ok_draw {P : Program} {w : World} {K : PySem.W.Frag} {mg : Str → Option Value} {base : Heap} {A : Ad} (T : Txt w K mg A) : FnOk P w K mg base CX0 1 A.a_draw A.d_draw ["_law_pot_here", "_law_much"] (sp_draw A) := by
  refine T.F_draw.ok sc_draw (fun vs H Q E h => ?_) (fun cdv A_ outer s_ H_0 vs Q E hr h => ?_)
  · obtain ⟨ms, ap, x_size, KM, rfl, _⟩ := h
    rfl
  · obtain ⟨ms, ap, n, KM, rfl, hW, ⟨⟨n0, n1⟩, hM⟩, hQ⟩ := h
    obtain ⟨i, j, hp, hj⟩ : PotH _ ap := hW.pot (ap, none) (List.mem_singleton.mpr rfl)
    refine ⟨_, pss_cons (ps_if (pt_cmpR op_gt (pe_ix ix_list (pv 0) pe_int (fun _ _ => rfl)) pe_int (nomark _))
        (pss_cons (ps_asg (pe_callB call_divmod (by rfl) T.z_divmod (by decide +kernel) (pa_cons (pe_ix ix_list (pv 0) pe_int (fun _ _ => rfl)) (pa_cons (pv 1) pa_nil)))
            (pg_tup rfl (pgs_cons (pg_sub (pv 0) pe_int set_list) (pgs_cons (pg_name (i := 2) sc_draw.nd rfl (.inl rfl)) pgs_nil)))) (pss_one (ps_ret (pv 2)))) pss_nil)
      (pss_cons (ps_asg (pe_op op_mod (pe_callTy call_int1 (by rfl) T.z_int (by decide +kernel) (pa_cons (pe_op op_add (pe_op op_mul (pe_ix ix_list (pv 0) pe_int (fun _ _ => rfl)) pe_int) pe_int) pa_nil)) pe_int) (pg_sub (pv 0) pe_int set_list))
      (pss_one (ps_ret (pe_op op_mod (pe_callTy call_int1 (by rfl) T.z_int (by decide +kernel) (pa_cons (pe_op op_fdiv (pe_op op_mod (pe_callTy call_int1 (by rfl) T.z_int (by decide +kernel)
          (pa_cons (pe_op op_mul (pe_ix ix_list (pv 0) pe_int (fun _ _ => rfl)) (pe_ix ix_list (pv 0) pe_int (fun _ _ => rfl))) pa_nil)) pe_int) pe_int) pa_nil)) (pv 1))))), ?_⟩
    refine ⟨_, rfl, ap, _, 0, .int i, rfl, rfl, .inl (.inl hp), rfl, _, _, rfl, rfl, _, rfl, ?_⟩
    refine ite2 (fun c => ?_) (fun c => ?_)
    · refine ⟨_, rfl, ap, _, 0, .int i, rfl, rfl, .inl (.inl hp), rfl, _, rfl, _, _, rfl, ⟨n0, n1⟩, fun p np => ?_⟩
      have npa : ap ≠ p := ne_of_none hp np
      refine ⟨p, _, rfl, .inl (.inl upd_same), rfl, _, _, rfl, _, rfl, ap, _, 0, 0, rfl, rfl, (by rw [upd_ne npa]; exact hp), rfl, _, _, rfl, rfl, _, rfl, ?_⟩
      exact hQ (i % n) _ _ (hM _ (Int.emod_nonneg _ (by omega)) (Int.emod_lt_of_pos _ n0)) (ret_pot2 hp np hj) rep_v
    · refine ⟨_, rfl, ap, _, 1, .int j, rfl, rfl, .inl (.inl hp), rfl, _, _, rfl, rfl, .inr ⟨by decide, by decide⟩, _, _, rfl, rfl, .inl ⟨_, rfl, _, _, rfl, rfl, (by show (0 : Int) < 2147483587; decide), ?_⟩⟩
      refine ⟨_, rfl, ap, _, 1, 1, rfl, rfl, hp, rfl, ?_⟩
      refine ⟨_, rfl, ap, _, 1, _, rfl, rfl, .inl (.inl upd_same), rfl, _, rfl, ap, _, 1, _, rfl, rfl, .inl (.inl upd_same), rfl, _, _, rfl, rfl, .inl ⟨?_, ?_⟩, .inl ⟨_, rfl, _, _, rfl, rfl, (by show (0 : Int) < 2147483563; decide), _, _, rfl, rfl, ⟨by decide, by decide⟩, .inl ⟨_, rfl, _, rfl, _, _, rfl, rfl, n0, ?_⟩⟩⟩
      · omega
      · omega
      · refine hQ _ _ _ (hM _ (Int.emod_nonneg _ (by omega)) (Int.emod_lt_of_pos _ n0)) (ret_pot1 (i := i) hp ?_) rep_v
        omega

def M_pick (x_some : (List Int)) (KM : Int → Prop) : Prop :=
  (M_draw (x_some.length : Int) fun r1 => (0 ≤ r1 ∧ ∃ g7 : Int.toNat r1 < x_some.length, ∀ x9, x9 = x_some[Int.toNat r1]'g7 → (KM x9)))
def sp_pick (A : Ad) : Sp := fun vs H Q _ => ∃ (ms : List Addr) (ap : Addr) (v_some : V) (x_some : (List Int)) (KM : Int → Prop), vs = [.ref ap, v_some] ∧ Wd ms [(ap, none)] [] H H ∧ rep ms H (D.lst (x_some.map (fun y_ : Int => (D.v (V.int y_))))) v_some ∧ M_pick x_some KM ∧ ∀ (r : Int) (u : V) (H1 : Hp), KM r → Ret [(ap, none)] H H1 → rep ms H1 (D.v (V.int r)) u → Q u H1
set_option maxHeartbeats 16000000 in
theorem ok_pick {P : Program} {w : World} {K : PySem.W.Frag} {mg : Str → Option Value} {base : Heap} {A : Ad} (T : Txt w K mg A) : FnOk P w K mg base CX0 2 A.a_pick A.d_pick ["_law_pot_here", "_law_some"] (sp_pick A) := by
  refine T.F_pick.ok sc_pick (fun vs H Q E h => ?_) (fun cdv A_ outer s_ H_0 vs Q E hr h => ?_)
  · obtain ⟨ms, ap, v_some, x_some, KM, rfl, _⟩ := h
    rfl
  · obtain ⟨ms, ap, v_some, x_some, KM, rfl, hW, h_some, hM, hQ⟩ := h
    unfold M_pick at hM
    refine ⟨_, (pss_one (ps_ret (pe_ix (ix_listK (K := K) rfl) (pv 1) (pe_call (ok_draw T) (hr.mono (by decide)) (by rfl) T.g_draw T.F_draw.kp T.b_draw .nil pass0 (pa_cons (pv 0) (pa_cons (pe_callB (call_lenK (K := K) rfl) (by rfl) T.z_len PySem.boot_len (pa_cons (pv 1) pa_nil)) pa_nil))) (fun _ _ => rfl)))), ?_⟩
    refine ⟨_, rfl, ?_⟩
    refine ⟨_, rfl, ?_⟩
    refine ⟨_, rfl, ?_⟩
    apply rep_lenL (e := (fun y_ : Int => (D.v (V.int y_)))) (xs := x_some) h_some
    refine ⟨ms, ap, (x_some.length : Int), _, rfl, hW.enterP, hM, fun r1 u4 H5 hM e3 h2 => ?_⟩
    replace h_some := rep_ret hW e3 h_some
    replace hW := hW.retP e3
    obtain rfl := of_v h2
    obtain ⟨g6, g7, hM⟩ := hM
    apply rep_ixL (e := (fun y_ : Int => (D.v (V.int y_)))) (xs := x_some) h_some g6 g7
    intro u10 h8
    obtain ⟨x9, x9e⟩ : ∃ x_, x_ = x_some[Int.toNat r1]'g7 := ⟨_, rfl⟩
    rw [← x9e] at h8
    replace hM := hM x9 x9e
    obtain rfl := of_v h8
    exact hQ x9 _ _ hM hW.out rep_v
def M_signs (x_few : Int) (x_most : Int) (KM : Str → Prop) : Prop :=
  (M_draw ((x_most - x_few) + (1 : Int)) fun r1 => ((rangeI (0 : Int) (x_few + r1)).length < 100000 ∧ mapC (fun (x17 : Int) (k10 : Str → Prop) => (M_draw (2 : Int) fun r23 => (("ha" : Str).length ≤ sizeLine ∧ ∃ c29, atI ("ha" : Str).cps.toList r23 = some c29 ∧ (k10 (Str.mk #[c29]))))) (rangeI (0 : Int) (x_few + r1)) [] fun ys35 => ((ys35.map (·.length)).sum + ys35.length * ("" : Str).length ≤ 16777216 ∧ (KM (Txt.join ("" : Str) ys35)))))
def sp_signs (A : Ad) : Sp := fun vs H Q _ => ∃ (ms : List Addr) (ap : Addr) (x_few : Int) (x_most : Int) (KM : Str → Prop), vs = [.ref ap, V.int x_few, V.int x_most] ∧ Wd ms [(ap, none)] [] H H ∧ M_signs x_few x_most KM ∧ ∀ (r : Str) (u : V) (H1 : Hp), KM r → Ret [(ap, none)] H H1 → rep ms H1 (D.v (V.str r)) u → Q u H1
set_option maxHeartbeats 16000000 in
theorem ok_signs {P : Program} {w : World} {K : PySem.W.Frag} {mg : Str → Option Value} {base : Heap} {A : Ad} (T : Txt w K mg A) : FnOk P w K mg base CX0 2 A.a_signs A.d_signs ["_law_pot_here", "_law_few", "_law_most"] (sp_signs A) := by
  refine T.F_signs.ok sc_signs (fun vs H Q E h => ?_) (fun cdv A_ outer s_ H_0 vs Q E hr h => ?_)
  · obtain ⟨ms, ap, x_few, x_most, KM, rfl, _⟩ := h
    rfl
  · obtain ⟨ms, ap, x_few, x_most, KM, rfl, hW, hM, hQ⟩ := h
    unfold M_signs at hM
    refine ⟨_, (pss_one (ps_ret (pe_joinK (K := K) rfl pe_str (pe_lc (own := [("_law_turn", 3)]) (g := gName 3) rfl sc_signs.nd (pi_rangeW1 (by rfl) T.z_range (pa_cons (pe_op op_add (pv 1) (pe_call (ok_draw T) (hr.mono (by decide)) (by rfl) T.g_draw T.F_draw.kp T.b_draw .nil pass0 (pa_cons (pv 0) (pa_cons (pe_op op_add (pe_op op_sub (pv 2) (pv 1)) pe_int) pa_nil)))) pa_nil)) (blkOk_by (N := ["_law_pot_here", "_law_few", "_law_most", "_law_turn"]) (sc := defScope s_signs) (by decide +kernel)) (fun _ _ _ _ _ => pg_name (i := 3) sc_signs.nd rfl (by first | exact Or.inl rfl | exact Or.inr rfl)) (fun _ _ _ _ _ => pts_nil) (fun _ _ _ _ _ => (pe_ix ix_str pe_str (pe_call (ok_draw T) (hr.mono (by decide)) (by rfl) T.g_draw T.F_draw.kp T.b_draw .nil pass0 (pa_cons (pv 0) (pa_cons pe_int pa_nil))) (fun _ _ => rfl))))))), ?_⟩
    refine ⟨⟨_, rfl⟩, ?_⟩
    refine ⟨_, rfl, ?_⟩
    refine ⟨_, rfl, ?_⟩
    refine ⟨_, rfl, ?_⟩
    refine ⟨_, rfl, ?_⟩
    refine ⟨_, _, rfl, rfl, ?_⟩
    refine ⟨_, _, rfl, rfl, ?_⟩
    refine ⟨ms, ap, ((x_most - x_few) + (1 : Int)), _, rfl, hW.enterP, hM, fun r1 u4 H5 hM e3 h2 => ?_⟩
    replace hW := hW.retP e3
    obtain rfl := of_v h2
    refine ⟨_, _, rfl, rfl, ?_⟩
    refine ⟨_, rfl, ?_⟩
    refine fun L6 nl7 => ?_
    have nm21 := nm_new hW nl7
    refine lc_rangeG (L := L6) (fun n_ ys_ h_ => Wd (L6 :: ms) [(ap, none)] [] H_0 h_ ∧ Keep (L6 :: ms) H5 h_ ∧ MutO (L6 :: ms) [(ap, none)] H_0 h_ L6 (D.lst (ys_.map (fun y_ : Str => (D.v (V.str y_))))) ∧ ys_.length ≤ n_) (lo := (0 : Int)) (hi := (x_few + r1)) (N := Int.toNat (x_few + r1)) (by simp) hM ⟨wd_cell hW nl7, keep_cell nl7 Keep.refl, mo_newL (ds := []) hW nl7 repL_nil, Nat.le_refl _⟩ ?_ ?_
    · skip
      rintro x17  n8 ys9 k10 H22 hn ⟨hW, hk11, mu12, ln13⟩ hM Nx16 hN14
      refine ⟨rfl, ?_⟩
      refine tyes_of ?_
      refine ⟨_, rfl, ?_⟩
      refine ⟨(L6 :: ms), ap, (2 : Int), _, rfl, hW.enterP, hM, fun r23 u26 H27 hM e25 h24 => ?_⟩
      replace hk11 := keep_ret hW e25 hk11
      replace mu12 := mo_ret hW e25 mu12
      replace hW := hW.retP e25
      obtain rfl := of_v h24
      obtain ⟨g28, hM⟩ := hM
      obtain ⟨c29, c29h, hM⟩ := hM
      refine ⟨_, _, _, rfl, rfl, g28, c29h, ?_⟩
      refine mo_end mu12 hn (by rw [List.length_map]; exact ln13) fun vs30 hr31 => ?_
      have mk33 := mo_setL mu12 (repL_snoc (e := (fun y_ : Str => (D.v (V.str y_)))) (xs := ys9) (y := (Str.mk #[c29])) hr31 rep_v)
      replace hk11 := keep_put (o := .lst (vs30 ++ [V.str (Str.mk #[c29])])) mu12.im hk11
      replace hW := wd_put (o := .lst (vs30 ++ [V.str (Str.mk #[c29])])) hW mu12
      replace mu12 := mk33
      generalize upd H27 L6 (.lst (vs30 ++ [V.str (Str.mk #[c29])])) = H34 at *
      replace mu12 : MutO (L6 :: ms) [(ap, none)] H_0 H34 L6 (D.lst ((ys9 ++ [(Str.mk #[c29])]).map (fun y_ : Str => (D.v (V.str y_))))) := mu12
      clear mk33
      exact hN14 (Str.mk #[c29]) _ hM ⟨hW, hk11, mu12, by rw [List.length_append]; exact Nat.add_le_add_right ln13 1⟩
    · skip
      rintro n8 ys35 H36 hM ⟨hW, hk11, mu12, ln13⟩
      clear hk11 ln13
      have h37 := mo_rep_dr dr_here nm21 mu12
      replace hW := wd_dr dr_here mu12.hp hW
      clear mu12
      obtain ⟨g38, hM⟩ := hM
      apply rep_join (a := ("" : Str)) (ys := ys35) h37 g38
      exact hQ (Txt.join ("" : Str) ys35) _ _ hM hW.out rep_v
def M_pick_pls (x_some : (List Str)) (KM : Str → Prop) : Prop :=
  (M_draw (x_some.length : Int) fun r1 => (0 ≤ r1 ∧ ∃ g7 : Int.toNat r1 < x_some.length, ∀ x9, x9 = x_some[Int.toNat r1]'g7 → (KM x9)))
def sp_pick_pls (A : Ad) : Sp := fun vs H Q _ => ∃ (ms : List Addr) (ap : Addr) (v_some : V) (x_some : (List Str)) (KM : Str → Prop), vs = [.ref ap, v_some] ∧ Wd ms [(ap, none)] [] H H ∧ rep ms H (D.lst (x_some.map (fun y_ : Str => (D.v (V.str y_))))) v_some ∧ M_pick_pls x_some KM ∧ ∀ (r : Str) (u : V) (H1 : Hp), KM r → Ret [(ap, none)] H H1 → rep ms H1 (D.v (V.str r)) u → Q u H1
set_option maxHeartbeats 16000000 in
theorem ok_pick_pls {P : Program} {w : World} {K : PySem.W.Frag} {mg : Str → Option Value} {base : Heap} {A : Ad} (T : Txt w K mg A) : FnOk P w K mg base CX0 2 A.a_pick A.d_pick ["_law_pot_here", "_law_some"] (sp_pick_pls A) := by
  refine T.F_pick.ok sc_pick (fun vs H Q E h => ?_) (fun cdv A_ outer s_ H_0 vs Q E hr h => ?_)
  · obtain ⟨ms, ap, v_some, x_some, KM, rfl, _⟩ := h
    rfl
  · obtain ⟨ms, ap, v_some, x_some, KM, rfl, hW, h_some, hM, hQ⟩ := h
    unfold M_pick_pls at hM
    refine ⟨_, (pss_one (ps_ret (pe_ix (ix_listK (K := K) rfl) (pv 1) (pe_call (ok_draw T) (hr.mono (by decide)) (by rfl) T.g_draw T.F_draw.kp T.b_draw .nil pass0 (pa_cons (pv 0) (pa_cons (pe_callB (call_lenK (K := K) rfl) (by rfl) T.z_len PySem.boot_len (pa_cons (pv 1) pa_nil)) pa_nil))) (fun _ _ => rfl)))), ?_⟩
    refine ⟨_, rfl, ?_⟩
    refine ⟨_, rfl, ?_⟩
    refine ⟨_, rfl, ?_⟩
    apply rep_lenL (e := (fun y_ : Str => (D.v (V.str y_)))) (xs := x_some) h_some
    refine ⟨ms, ap, (x_some.length : Int), _, rfl, hW.enterP, hM, fun r1 u4 H5 hM e3 h2 => ?_⟩
    replace h_some := rep_ret hW e3 h_some
    replace hW := hW.retP e3
    obtain rfl := of_v h2
    obtain ⟨g6, g7, hM⟩ := hM
    apply rep_ixL (e := (fun y_ : Str => (D.v (V.str y_)))) (xs := x_some) h_some g6 g7
    intro u10 h8
    obtain ⟨x9, x9e⟩ : ∃ x_, x_ = x_some[Int.toNat r1]'g7 := ⟨_, rfl⟩
    rw [← x9e] at h8
    replace hM := hM x9 x9e
    obtain rfl := of_v h8
    exact hQ x9 _ _ hM hW.out rep_v
def M_model (KM : (Int × (Str × Str × Str) × Str × Bool) → Prop) : Prop :=
  (M_pick ([(1 : Int), (1 : Int), (2 : Int), (3 : Int), (3 : Int), (4 : Int), (5 : Int), (6 : Int), (7 : Int)] : List Int) fun r12 => (M_pick ([(1 : Int), (1 : Int), (-(1 : Int))] : List Int) fun r23 => (CMulW r12 r23 ∧ (M_signs (0 : Int) (4 : Int) fun r31 => (M_signs (1 : Int) (4 : Int) fun r36 => (M_signs (0 : Int) (4 : Int) fun r41 => (M_pick_pls ([("home" : Str), ("away" : Str), ("even" : Str), ("odd" : Str)] : List Str) fun r63 => (M_draw (2 : Int) fun r68 => (KM ((r12 * r23), (r31, r36, r41), r63, (decide (V.int r68 = V.int (1 : Int)))))))))))))
def sp_model (A : Ad) : Sp := fun vs H Q _ => ∃ (ms : List Addr) (ap : Addr) (KM : (Int × (Str × Str × Str) × Str × Bool) → Prop), vs = [.ref ap] ∧ Wd ms [(ap, none)] [] H H ∧ M_model  KM ∧ ∀ (r : (Int × (Str × Str × Str) × Str × Bool)) (u : V) (H1 : Hp), KM r → Ret [(ap, none)] H H1 → rep ms H1 (D.dct [(Sum.inr ("stride" : Str) : Key), (Sum.inr ("parts" : Str) : Key), (Sum.inr ("stand" : Str) : Key), (Sum.inr ("flips" : Str) : Key)] [(D.v (V.int r.1)), (D.tup [(D.v (V.str r.2.1.1)), (D.v (V.str r.2.1.2.1)), (D.v (V.str r.2.1.2.2))]), (D.v (V.str r.2.2.1)), (D.v (V.bl r.2.2.2))]) u → Q u H1
set_option maxHeartbeats 16000000 in
theorem ok_model {P : Program} {w : World} {K : PySem.W.Frag} {mg : Str → Option Value} {base : Heap} {A : Ad} (T : Txt w K mg A) : FnOk P w K mg base CX0 3 A.a_model A.d_model ["_law_pot_here"] (sp_model A) := by
  refine T.F_model.ok sc_model (fun vs H Q E h => ?_) (fun cdv A_ outer s_ H_0 vs Q E hr h => ?_)
  · obtain ⟨ms, ap, KM, rfl, _⟩ := h
    rfl
  · obtain ⟨ms, ap, KM, rfl, hW, hM, hQ⟩ := h
    unfold M_model at hM
    refine ⟨_, (pss_cons (ps_set (i := 1) sc_model.nd rfl (by first | exact Or.inl rfl | exact Or.inr rfl) (pe_disp (pps_cons pe_str (pe_op op_mulW (pe_call (ok_pick T) (hr.mono (by decide)) (by rfl) T.g_pick T.F_pick.kp T.b_pick .nil pass0 (pa_cons (pv 0) (pa_cons (pe_lst (pa_cons pe_int (pa_cons pe_int (pa_cons pe_int (pa_cons pe_int (pa_cons pe_int (pa_cons pe_int (pa_cons pe_int (pa_cons pe_int (pa_cons pe_int pa_nil)))))))))) pa_nil))) (pe_call (ok_pick T) (hr.mono (by decide)) (by rfl) T.g_pick T.F_pick.kp T.b_pick .nil pass0 (pa_cons (pv 0) (pa_cons (pe_lst (pa_cons pe_int (pa_cons pe_int (pa_cons (pe_un un_neg pe_int) pa_nil)))) pa_nil)))) pps_nil) rfl rfl (by simp) (by decide))) (pss_cons (ps_asg (pe_tup (pa_cons (pe_call (ok_signs T) (hr.mono (by decide)) (by rfl) T.g_signs T.F_signs.kp T.b_signs .nil pass0 (pa_cons (pv 0) (pa_cons pe_int (pa_cons pe_int pa_nil)))) (pa_cons (pe_call (ok_signs T) (hr.mono (by decide)) (by rfl) T.g_signs T.F_signs.kp T.b_signs .nil pass0 (pa_cons (pv 0) (pa_cons pe_int (pa_cons pe_int pa_nil)))) (pa_cons (pe_call (ok_signs T) (hr.mono (by decide)) (by rfl) T.g_signs T.F_signs.kp T.b_signs .nil pass0 (pa_cons (pv 0) (pa_cons pe_int (pa_cons pe_int pa_nil)))) pa_nil)))) (pg_sub (pv 1) pe_str (set_dict (hu_of hr)))) (pss_cons (ps_asg (pe_tup (pa_cons (pe_call (ok_pick_pls T) (hr.mono (by decide)) (by rfl) T.g_pick T.F_pick.kp T.b_pick .nil pass0 (pa_cons (pv 0) (pa_cons (pe_lst (pa_cons pe_str (pa_cons pe_str (pa_cons pe_str (pa_cons pe_str pa_nil))))) pa_nil))) (pa_cons (pe_cmpR op_eq (pe_call (ok_draw T) (hr.mono (by decide)) (by rfl) T.g_draw T.F_draw.kp T.b_draw .nil pass0 (pa_cons (pv 0) (pa_cons pe_int pa_nil))) pe_int (nomark _)) pa_nil))) (pg_tup rfl (pgs_cons (pg_sub (pv 1) pe_str (set_dict (hu_of hr))) (pgs_cons (pg_sub (pv 1) pe_str (set_dict (hu_of hr))) pgs_nil)))) (pss_one (ps_ret (pv 1)))))), ?_⟩
    intro L1 nl2
    have nm3 := nm_new hW nl2
    have mu4 := mo_nilD hW nl2
    replace hW := wd_cell (o := .dK []) hW nl2
    generalize upd H_0 L1 (.dK []) = H5 at *
    replace mu4 : MutO (L1 :: ms) [(ap, none)] H_0 H5 L1 (D.dct [] []) := mu4
    refine ⟨_, rfl, ?_⟩
    refine ⟨(by show 9 ≤ sizeLine; decide), ?_⟩
    intro p6 n10
    have e7 := Rx.Ext.new (H := H5) (o := (HO.lst [V.int (1 : Int), V.int (1 : Int), V.int (2 : Int), V.int (3 : Int), V.int (3 : Int), V.int (4 : Int), V.int (5 : Int), V.int (6 : Int), V.int (7 : Int)])) n10
    have hp8 : upd H5 p6 (HO.lst [V.int (1 : Int), V.int (1 : Int), V.int (2 : Int), V.int (3 : Int), V.int (3 : Int), V.int (4 : Int), V.int (5 : Int), V.int (6 : Int), V.int (7 : Int)]) p6 = some (HO.lst [V.int (1 : Int), V.int (1 : Int), V.int (2 : Int), V.int (3 : Int), V.int (3 : Int), V.int (4 : Int), V.int (5 : Int), V.int (6 : Int), V.int (7 : Int)]) := upd_same
    generalize upd H5 p6 (HO.lst [V.int (1 : Int), V.int (1 : Int), V.int (2 : Int), V.int (3 : Int), V.int (3 : Int), V.int (4 : Int), V.int (5 : Int), V.int (6 : Int), V.int (7 : Int)]) = H11 at e7 hp8 ⊢
    have h9 : rep (L1 :: ms) H11 (D.lst (([(1 : Int), (1 : Int), (2 : Int), (3 : Int), (3 : Int), (4 : Int), (5 : Int), (6 : Int), (7 : Int)] : List Int).map (fun y_ : Int => (D.v (V.int y_))))) (.ref p6) := rep_lst_mk hW n10 e7 hp8 (repL_cons rep_v (repL_cons rep_v (repL_cons rep_v (repL_cons rep_v (repL_cons rep_v (repL_cons rep_v (repL_cons rep_v (repL_cons rep_v (repL_cons rep_v repL_nil)))))))))
    replace mu4 := mo_ext e7 mu4
    replace hW := hW.ret0 e7
    refine ⟨(L1 :: ms), ap, _, ([(1 : Int), (1 : Int), (2 : Int), (3 : Int), (3 : Int), (4 : Int), (5 : Int), (6 : Int), (7 : Int)] : List Int), _, rfl, hW.enterP, h9, hM, fun r12 u15 H16 hM e14 h13 => ?_⟩
    replace h9 := rep_ret hW e14 h9
    replace mu4 := mo_ret hW e14 mu4
    replace hW := hW.retP e14
    obtain rfl := of_v h13
    refine ⟨_, rfl, ?_⟩
    refine ⟨_, rfl, ?_⟩
    refine ⟨(by show 3 ≤ sizeLine; decide), ?_⟩
    intro p17 n21
    have e18 := Rx.Ext.new (H := H16) (o := (HO.lst [V.int (1 : Int), V.int (1 : Int), V.int (-(1 : Int))])) n21
    have hp19 : upd H16 p17 (HO.lst [V.int (1 : Int), V.int (1 : Int), V.int (-(1 : Int))]) p17 = some (HO.lst [V.int (1 : Int), V.int (1 : Int), V.int (-(1 : Int))]) := upd_same
    generalize upd H16 p17 (HO.lst [V.int (1 : Int), V.int (1 : Int), V.int (-(1 : Int))]) = H22 at e18 hp19 ⊢
    have h20 : rep (L1 :: ms) H22 (D.lst (([(1 : Int), (1 : Int), (-(1 : Int))] : List Int).map (fun y_ : Int => (D.v (V.int y_))))) (.ref p17) := rep_lst_mk hW n21 e18 hp19 (repL_cons rep_v (repL_cons rep_v (repL_cons rep_v repL_nil)))
    replace h9 := rep_ext e18 h9
    replace mu4 := mo_ext e18 mu4
    replace hW := hW.ret0 e18
    refine ⟨(L1 :: ms), ap, _, ([(1 : Int), (1 : Int), (-(1 : Int))] : List Int), _, rfl, hW.enterP, h20, hM, fun r23 u26 H27 hM e25 h24 => ?_⟩
    replace h9 := rep_ret hW e25 h9
    replace h20 := rep_ret hW e25 h20
    replace mu4 := mo_ret hW e25 mu4
    replace hW := hW.retP e25
    obtain rfl := of_v h24
    obtain ⟨g28, hM⟩ := hM
    refine ⟨_, _, rfl, rfl, g28, ?_⟩
    refine ⟨mo_dK0 mu4, List.zip [(Sum.inr ("stride" : Str) : Key)] [V.int (r12 * r23)], rfl, (by show 1 ≤ 15; decide), ?_⟩
    rw [merge_zip (ks := [(Sum.inr ("stride" : Str) : Key)]) (vs := [V.int (r12 * r23)]) rfl (by decide +kernel)]
    have mk29 := mo_setD (ks := [(Sum.inr ("stride" : Str) : Key)]) (vs := [V.int (r12 * r23)]) mu4 rfl (repL_cons rep_v repL_nil)
    replace h9 := rep_put (o := .dK (List.zip [(Sum.inr ("stride" : Str) : Key)] [V.int (r12 * r23)])) mu4.im h9
    replace h20 := rep_put (o := .dK (List.zip [(Sum.inr ("stride" : Str) : Key)] [V.int (r12 * r23)])) mu4.im h20
    replace hW := wd_put (o := .dK (List.zip [(Sum.inr ("stride" : Str) : Key)] [V.int (r12 * r23)])) hW mu4
    replace mu4 := mk29
    generalize upd H27 L1 (.dK (List.zip [(Sum.inr ("stride" : Str) : Key)] [V.int (r12 * r23)])) = H30 at *
    replace mu4 : MutO (L1 :: ms) [(ap, none)] H_0 H30 L1 (D.dct [(Sum.inr ("stride" : Str) : Key)] [(D.v (V.int (r12 * r23)))]) := mu4
    clear mk29
    refine ⟨_, rfl, ?_⟩
    refine ⟨(L1 :: ms), ap, (0 : Int), (4 : Int), _, rfl, hW.enterP, hM, fun r31 u34 H35 hM e33 h32 => ?_⟩
    replace h9 := rep_ret hW e33 h9
    replace h20 := rep_ret hW e33 h20
    replace mu4 := mo_ret hW e33 mu4
    replace hW := hW.retP e33
    obtain rfl := of_v h32
    refine ⟨_, rfl, ?_⟩
    refine ⟨(L1 :: ms), ap, (1 : Int), (4 : Int), _, rfl, hW.enterP, hM, fun r36 u39 H40 hM e38 h37 => ?_⟩
    replace h9 := rep_ret hW e38 h9
    replace h20 := rep_ret hW e38 h20
    replace mu4 := mo_ret hW e38 mu4
    replace hW := hW.retP e38
    obtain rfl := of_v h37
    refine ⟨_, rfl, ?_⟩
    refine ⟨(L1 :: ms), ap, (0 : Int), (4 : Int), _, rfl, hW.enterP, hM, fun r41 u44 H45 hM e43 h42 => ?_⟩
    replace h9 := rep_ret hW e43 h9
    replace h20 := rep_ret hW e43 h20
    replace mu4 := mo_ret hW e43 mu4
    replace hW := hW.retP e43
    obtain rfl := of_v h42
    refine ⟨(by show 3 ≤ sizeLine; decide), ?_⟩
    intro p46 n50
    have e47 := Rx.Ext.new (H := H45) (o := (HO.tup [V.str r31, V.str r36, V.str r41])) n50
    have hp48 : upd H45 p46 (HO.tup [V.str r31, V.str r36, V.str r41]) p46 = some (HO.tup [V.str r31, V.str r36, V.str r41]) := upd_same
    generalize upd H45 p46 (HO.tup [V.str r31, V.str r36, V.str r41]) = H51 at e47 hp48 ⊢
    have h49 : rep (L1 :: ms) H51 (D.tup [(D.v (V.str r31)), (D.v (V.str r36)), (D.v (V.str r41))]) (.ref p46) := rep_tup_mk hW n50 e47 hp48 (repL_cons rep_v (repL_cons rep_v (repL_cons rep_v repL_nil)))
    replace h9 := rep_ext e47 h9
    replace h20 := rep_ext e47 h20
    replace mu4 := mo_ext e47 mu4
    replace hW := hW.ret0 e47
    refine ⟨_, rfl, ?_⟩
    apply mo_putU (k := (Sum.inr ("parts" : Str) : Key)) mu4 (nin_of (by decide +kernel)) (by show 1 < 16777216; decide)
    intro vs52 hl53 hr54
    have mk55 := mo_setD (ks := [(Sum.inr ("stride" : Str) : Key)] ++ [(Sum.inr ("parts" : Str) : Key)]) mu4 (by rw [List.length_append, List.length_append, hl53]; rfl) (repL_app hr54 (repL_one h49))
    replace h9 := rep_put (o := .dK (List.zip ([(Sum.inr ("stride" : Str) : Key)] ++ [(Sum.inr ("parts" : Str) : Key)]) (vs52 ++ [(V.ref p46)]))) mu4.im h9
    replace h20 := rep_put (o := .dK (List.zip ([(Sum.inr ("stride" : Str) : Key)] ++ [(Sum.inr ("parts" : Str) : Key)]) (vs52 ++ [(V.ref p46)]))) mu4.im h20
    replace h49 := rep_put (o := .dK (List.zip ([(Sum.inr ("stride" : Str) : Key)] ++ [(Sum.inr ("parts" : Str) : Key)]) (vs52 ++ [(V.ref p46)]))) mu4.im h49
    replace hW := wd_put (o := .dK (List.zip ([(Sum.inr ("stride" : Str) : Key)] ++ [(Sum.inr ("parts" : Str) : Key)]) (vs52 ++ [(V.ref p46)]))) hW mu4
    replace mu4 := mk55
    generalize upd H51 L1 (.dK (List.zip ([(Sum.inr ("stride" : Str) : Key)] ++ [(Sum.inr ("parts" : Str) : Key)]) (vs52 ++ [(V.ref p46)]))) = H56 at *
    replace mu4 : MutO (L1 :: ms) [(ap, none)] H_0 H56 L1 (D.dct [(Sum.inr ("stride" : Str) : Key), (Sum.inr ("parts" : Str) : Key)] [(D.v (V.int ((r12 * r23), (r31, r36, r41)).1)), (D.tup [(D.v (V.str ((r12 * r23), (r31, r36, r41)).2.1)), (D.v (V.str ((r12 * r23), (r31, r36, r41)).2.2.1)), (D.v (V.str ((r12 * r23), (r31, r36, r41)).2.2.2))])]) := mu4
    clear mk55
    refine ⟨_, rfl, ?_⟩
    refine ⟨(by show 4 ≤ sizeLine; decide), ?_⟩
    intro p57 n61
    have e58 := Rx.Ext.new (H := H56) (o := (HO.lst [V.str ("home" : Str), V.str ("away" : Str), V.str ("even" : Str), V.str ("odd" : Str)])) n61
    have hp59 : upd H56 p57 (HO.lst [V.str ("home" : Str), V.str ("away" : Str), V.str ("even" : Str), V.str ("odd" : Str)]) p57 = some (HO.lst [V.str ("home" : Str), V.str ("away" : Str), V.str ("even" : Str), V.str ("odd" : Str)]) := upd_same
    generalize upd H56 p57 (HO.lst [V.str ("home" : Str), V.str ("away" : Str), V.str ("even" : Str), V.str ("odd" : Str)]) = H62 at e58 hp59 ⊢
    have h60 : rep (L1 :: ms) H62 (D.lst (([("home" : Str), ("away" : Str), ("even" : Str), ("odd" : Str)] : List Str).map (fun y_ : Str => (D.v (V.str y_))))) (.ref p57) := rep_lst_mk hW n61 e58 hp59 (repL_cons rep_v (repL_cons rep_v (repL_cons rep_v (repL_cons rep_v repL_nil))))
    replace h9 := rep_ext e58 h9
    replace h20 := rep_ext e58 h20
    replace h49 := rep_ext e58 h49
    replace mu4 := mo_ext e58 mu4
    replace hW := hW.ret0 e58
    refine ⟨(L1 :: ms), ap, _, ([("home" : Str), ("away" : Str), ("even" : Str), ("odd" : Str)] : List Str), _, rfl, hW.enterP, h60, hM, fun r63 u66 H67 hM e65 h64 => ?_⟩
    replace h9 := rep_ret hW e65 h9
    replace h20 := rep_ret hW e65 h20
    replace h49 := rep_ret hW e65 h49
    replace h60 := rep_ret hW e65 h60
    replace mu4 := mo_ret hW e65 mu4
    replace hW := hW.retP e65
    obtain rfl := of_v h64
    refine ⟨_, rfl, ?_⟩
    refine ⟨(L1 :: ms), ap, (2 : Int), _, rfl, hW.enterP, hM, fun r68 u71 H72 hM e70 h69 => ?_⟩
    replace h9 := rep_ret hW e70 h9
    replace h20 := rep_ret hW e70 h20
    replace h49 := rep_ret hW e70 h49
    replace h60 := rep_ret hW e70 h60
    replace mu4 := mo_ret hW e70 mu4
    replace hW := hW.retP e70
    obtain rfl := of_v h69
    refine ⟨rfl, ?_⟩
    refine ⟨(by show 2 ≤ sizeLine; decide), ?_⟩
    intro p73 n77
    have e74 := Rx.Ext.new (H := H72) (o := (HO.tup [V.str r63, V.bl (decide (V.int r68 = V.int (1 : Int)))])) n77
    have hp75 : upd H72 p73 (HO.tup [V.str r63, V.bl (decide (V.int r68 = V.int (1 : Int)))]) p73 = some (HO.tup [V.str r63, V.bl (decide (V.int r68 = V.int (1 : Int)))]) := upd_same
    generalize upd H72 p73 (HO.tup [V.str r63, V.bl (decide (V.int r68 = V.int (1 : Int)))]) = H78 at e74 hp75 ⊢
    have h76 : rep (L1 :: ms) H78 (D.tup [(D.v (V.str r63)), (D.v (V.bl (decide (V.int r68 = V.int (1 : Int)))))]) (.ref p73) := rep_tup_mk hW n77 e74 hp75 (repL_cons rep_v (repL_cons rep_v repL_nil))
    replace h9 := rep_ext e74 h9
    replace h20 := rep_ext e74 h20
    replace h49 := rep_ext e74 h49
    replace h60 := rep_ext e74 h60
    replace mu4 := mo_ext e74 mu4
    replace hW := hW.ret0 e74
    apply rep_gtup h76 rfl
    intro vs79 hv80
    obtain ⟨u81, us82, rfl, h83, hv84⟩ := repL_uncons hv80
    obtain rfl := of_v h83
    obtain ⟨u85, us86, rfl, h87, hv88⟩ := repL_uncons hv84
    obtain rfl := of_v h87
    obtain rfl := repL_empty hv88
    refine ⟨_, _, rfl, ?_⟩
    refine ⟨_, rfl, ?_⟩
    apply mo_putU (k := (Sum.inr ("stand" : Str) : Key)) mu4 (nin_of (by decide +kernel)) (by show 2 < 16777216; decide)
    intro vs89 hl90 hr91
    have mk92 := mo_setD (ks := [(Sum.inr ("stride" : Str) : Key), (Sum.inr ("parts" : Str) : Key)] ++ [(Sum.inr ("stand" : Str) : Key)]) mu4 (by rw [List.length_append, List.length_append, hl90]; rfl) (repL_app hr91 (repL_one (rep_v (x := V.str r63))))
    replace h9 := rep_put (o := .dK (List.zip ([(Sum.inr ("stride" : Str) : Key), (Sum.inr ("parts" : Str) : Key)] ++ [(Sum.inr ("stand" : Str) : Key)]) (vs89 ++ [V.str r63]))) mu4.im h9
    replace h20 := rep_put (o := .dK (List.zip ([(Sum.inr ("stride" : Str) : Key), (Sum.inr ("parts" : Str) : Key)] ++ [(Sum.inr ("stand" : Str) : Key)]) (vs89 ++ [V.str r63]))) mu4.im h20
    replace h49 := rep_put (o := .dK (List.zip ([(Sum.inr ("stride" : Str) : Key), (Sum.inr ("parts" : Str) : Key)] ++ [(Sum.inr ("stand" : Str) : Key)]) (vs89 ++ [V.str r63]))) mu4.im h49
    replace h60 := rep_put (o := .dK (List.zip ([(Sum.inr ("stride" : Str) : Key), (Sum.inr ("parts" : Str) : Key)] ++ [(Sum.inr ("stand" : Str) : Key)]) (vs89 ++ [V.str r63]))) mu4.im h60
    replace h76 := rep_put (o := .dK (List.zip ([(Sum.inr ("stride" : Str) : Key), (Sum.inr ("parts" : Str) : Key)] ++ [(Sum.inr ("stand" : Str) : Key)]) (vs89 ++ [V.str r63]))) mu4.im h76
    replace hW := wd_put (o := .dK (List.zip ([(Sum.inr ("stride" : Str) : Key), (Sum.inr ("parts" : Str) : Key)] ++ [(Sum.inr ("stand" : Str) : Key)]) (vs89 ++ [V.str r63]))) hW mu4
    replace mu4 := mk92
    generalize upd H78 L1 (.dK (List.zip ([(Sum.inr ("stride" : Str) : Key), (Sum.inr ("parts" : Str) : Key)] ++ [(Sum.inr ("stand" : Str) : Key)]) (vs89 ++ [V.str r63]))) = H93 at *
    replace mu4 : MutO (L1 :: ms) [(ap, none)] H_0 H93 L1 (D.dct [(Sum.inr ("stride" : Str) : Key), (Sum.inr ("parts" : Str) : Key), (Sum.inr ("stand" : Str) : Key)] [(D.v (V.int ((r12 * r23), (r31, r36, r41), r63).1)), (D.tup [(D.v (V.str ((r12 * r23), (r31, r36, r41), r63).2.1.1)), (D.v (V.str ((r12 * r23), (r31, r36, r41), r63).2.1.2.1)), (D.v (V.str ((r12 * r23), (r31, r36, r41), r63).2.1.2.2))]), (D.v (V.str ((r12 * r23), (r31, r36, r41), r63).2.2))]) := mu4
    clear mk92
    refine ⟨_, _, rfl, ?_⟩
    refine ⟨_, rfl, ?_⟩
    apply mo_putU (k := (Sum.inr ("flips" : Str) : Key)) mu4 (nin_of (by decide +kernel)) (by show 3 < 16777216; decide)
    intro vs94 hl95 hr96
    have mk97 := mo_setD (ks := [(Sum.inr ("stride" : Str) : Key), (Sum.inr ("parts" : Str) : Key), (Sum.inr ("stand" : Str) : Key)] ++ [(Sum.inr ("flips" : Str) : Key)]) mu4 (by rw [List.length_append, List.length_append, hl95]; rfl) (repL_app hr96 (repL_one (rep_v (x := V.bl (decide (V.int r68 = V.int (1 : Int)))))))
    replace h9 := rep_put (o := .dK (List.zip ([(Sum.inr ("stride" : Str) : Key), (Sum.inr ("parts" : Str) : Key), (Sum.inr ("stand" : Str) : Key)] ++ [(Sum.inr ("flips" : Str) : Key)]) (vs94 ++ [V.bl (decide (V.int r68 = V.int (1 : Int)))]))) mu4.im h9
    replace h20 := rep_put (o := .dK (List.zip ([(Sum.inr ("stride" : Str) : Key), (Sum.inr ("parts" : Str) : Key), (Sum.inr ("stand" : Str) : Key)] ++ [(Sum.inr ("flips" : Str) : Key)]) (vs94 ++ [V.bl (decide (V.int r68 = V.int (1 : Int)))]))) mu4.im h20
    replace h49 := rep_put (o := .dK (List.zip ([(Sum.inr ("stride" : Str) : Key), (Sum.inr ("parts" : Str) : Key), (Sum.inr ("stand" : Str) : Key)] ++ [(Sum.inr ("flips" : Str) : Key)]) (vs94 ++ [V.bl (decide (V.int r68 = V.int (1 : Int)))]))) mu4.im h49
    replace h60 := rep_put (o := .dK (List.zip ([(Sum.inr ("stride" : Str) : Key), (Sum.inr ("parts" : Str) : Key), (Sum.inr ("stand" : Str) : Key)] ++ [(Sum.inr ("flips" : Str) : Key)]) (vs94 ++ [V.bl (decide (V.int r68 = V.int (1 : Int)))]))) mu4.im h60
    replace h76 := rep_put (o := .dK (List.zip ([(Sum.inr ("stride" : Str) : Key), (Sum.inr ("parts" : Str) : Key), (Sum.inr ("stand" : Str) : Key)] ++ [(Sum.inr ("flips" : Str) : Key)]) (vs94 ++ [V.bl (decide (V.int r68 = V.int (1 : Int)))]))) mu4.im h76
    replace hW := wd_put (o := .dK (List.zip ([(Sum.inr ("stride" : Str) : Key), (Sum.inr ("parts" : Str) : Key), (Sum.inr ("stand" : Str) : Key)] ++ [(Sum.inr ("flips" : Str) : Key)]) (vs94 ++ [V.bl (decide (V.int r68 = V.int (1 : Int)))]))) hW mu4
    replace mu4 := mk97
    generalize upd H93 L1 (.dK (List.zip ([(Sum.inr ("stride" : Str) : Key), (Sum.inr ("parts" : Str) : Key), (Sum.inr ("stand" : Str) : Key)] ++ [(Sum.inr ("flips" : Str) : Key)]) (vs94 ++ [V.bl (decide (V.int r68 = V.int (1 : Int)))]))) = H98 at *
    replace mu4 : MutO (L1 :: ms) [(ap, none)] H_0 H98 L1 (D.dct [(Sum.inr ("stride" : Str) : Key), (Sum.inr ("parts" : Str) : Key), (Sum.inr ("stand" : Str) : Key), (Sum.inr ("flips" : Str) : Key)] [(D.v (V.int ((r12 * r23), (r31, r36, r41), r63, (decide (V.int r68 = V.int (1 : Int)))).1)), (D.tup [(D.v (V.str ((r12 * r23), (r31, r36, r41), r63, (decide (V.int r68 = V.int (1 : Int)))).2.1.1)), (D.v (V.str ((r12 * r23), (r31, r36, r41), r63, (decide (V.int r68 = V.int (1 : Int)))).2.1.2.1)), (D.v (V.str ((r12 * r23), (r31, r36, r41), r63, (decide (V.int r68 = V.int (1 : Int)))).2.1.2.2))]), (D.v (V.str ((r12 * r23), (r31, r36, r41), r63, (decide (V.int r68 = V.int (1 : Int)))).2.2.1)), (D.v (V.bl ((r12 * r23), (r31, r36, r41), r63, (decide (V.int r68 = V.int (1 : Int)))).2.2.2))]) := mu4
    clear mk97
    refine ⟨rfl, ?_⟩
    have h99 := mo_rep_dr dr_here nm3 mu4
    replace hW := wd_dr dr_here mu4.hp hW
    replace h9 := rep_dr dr_here h9
    replace h20 := rep_dr dr_here h20
    replace h49 := rep_dr dr_here h49
    replace h60 := rep_dr dr_here h60
    replace h76 := rep_dr dr_here h76
    clear mu4
    refine ⟨_, rfl, ?_⟩
    exact hQ ((r12 * r23), (r31, r36, r41), r63, (decide (V.int r68 = V.int (1 : Int)))) _ _ hM hW.out h99
def M_least (x_model_here : (Int × (Str × Str × Str) × Str × Bool)) (KM : Int → Prop) : Prop :=
  (x_model_here.2.1.1.length ≤ sizeLine ∧ (x_model_here.2.1.2.2.length ≤ sizeLine ∧ (KM (if ((x_model_here.2.1.1.length : Int) + (x_model_here.2.1.2.2.length : Int)) > (1 : Int) then ((x_model_here.2.1.1.length : Int) + (x_model_here.2.1.2.2.length : Int)) else (1 : Int)))))
def sp_least (A : Ad) : Sp := fun vs H Q _ => ∃ (ms : List Addr) (v_model_here : V) (x_model_here : (Int × (Str × Str × Str) × Str × Bool)) (KM : Int → Prop), vs = [v_model_here] ∧ Wd ms [] [] H H ∧ rep ms H (D.dct [(Sum.inr ("stride" : Str) : Key), (Sum.inr ("parts" : Str) : Key), (Sum.inr ("stand" : Str) : Key), (Sum.inr ("flips" : Str) : Key)] [(D.v (V.int x_model_here.1)), (D.tup [(D.v (V.str x_model_here.2.1.1)), (D.v (V.str x_model_here.2.1.2.1)), (D.v (V.str x_model_here.2.1.2.2))]), (D.v (V.str x_model_here.2.2.1)), (D.v (V.bl x_model_here.2.2.2))]) v_model_here ∧ M_least x_model_here KM ∧ ∀ (r : Int) (u : V) (H1 : Hp), KM r → Ret [] H H1 → rep ms H1 (D.v (V.int r)) u → Q u H1
set_option maxHeartbeats 16000000 in
theorem ok_least {P : Program} {w : World} {K : PySem.W.Frag} {mg : Str → Option Value} {base : Heap} {A : Ad} (T : Txt w K mg A) : FnOk P w K mg base CX0 1 A.a_least A.d_least ["_law_model_here"] (sp_least A) := by
  refine T.F_least.ok sc_least (fun vs H Q E h => ?_) (fun cdv A_ outer s_ H_0 vs Q E hr h => ?_)
  · obtain ⟨ms, v_model_here, x_model_here, KM, rfl, _⟩ := h
    rfl
  · obtain ⟨ms, v_model_here, x_model_here, KM, rfl, hW, h_model_here, hM, hQ⟩ := h
    unfold M_least at hM
    refine ⟨_, (pss_one (ps_ret (pe_callB (call_max2 rfl) (by rfl) T.z_max (by decide +kernel) (pa_cons pe_int (pa_cons (pe_op op_add (pe_callB call_len_str (by rfl) T.z_len PySem.boot_len (pa_cons (pe_ix (ix_tupK (K := K) rfl) (pe_dget (hu_of hr) (pv 0) pe_str (fun _ _ => rfl)) pe_int (fun _ _ => rfl)) pa_nil)) (pe_callB call_len_str (by rfl) T.z_len PySem.boot_len (pa_cons (pe_ix (ix_tupK (K := K) rfl) (pe_dget (hu_of hr) (pv 0) pe_str (fun _ _ => rfl)) pe_int (fun _ _ => rfl)) pa_nil))) pa_nil))))), ?_⟩
    refine ⟨_, rfl, ?_⟩
    apply rep_dget (k := (Sum.inr ("parts" : Str) : Key)) 1 h_model_here (by decide +kernel) rfl rfl
    intro u2 h1
    apply rep_ixT 0 h1 rfl rfl
    intro u4 h3
    obtain rfl := of_v h3
    obtain ⟨g5, hM⟩ := hM
    refine ⟨_, rfl, g5, ?_⟩
    refine ⟨_, rfl, ?_⟩
    apply rep_dget (k := (Sum.inr ("parts" : Str) : Key)) 1 h_model_here (by decide +kernel) rfl rfl
    intro u7 h6
    apply rep_ixT 2 h6 rfl rfl
    intro u9 h8
    obtain rfl := of_v h8
    obtain ⟨g10, hM⟩ := hM
    refine ⟨_, rfl, g10, ?_⟩
    refine ⟨_, _, rfl, rfl, ?_⟩
    refine ⟨_, _, rfl, ?_⟩
    exact hQ (if ((x_model_here.2.1.1.length : Int) + (x_model_here.2.1.2.2.length : Int)) > (1 : Int) then ((x_model_here.2.1.1.length : Int) + (x_model_here.2.1.2.2.length : Int)) else (1 : Int)) _ _ hM hW.out rep_v
def M_is_marks (x_value : Str) (KM : Bool → Prop) : Prop :=
  (x_value.length ≤ sizeLine ∧ (KM (decide (V.int ((Txt.count x_value ("h" : Str) : Int) + (Txt.count x_value ("a" : Str) : Int)) = V.int (x_value.length : Int)))))
def sp_is_marks (A : Ad) : Sp := fun vs H Q _ => ∃ (ms : List Addr) (x_value : Str) (KM : Bool → Prop), vs = [V.str x_value] ∧ Wd ms [] [] H H ∧ M_is_marks x_value KM ∧ ∀ (r : Bool) (u : V) (H1 : Hp), KM r → Ret [] H H1 → rep ms H1 (D.v (V.bl r)) u → Q u H1
set_option maxHeartbeats 16000000 in
theorem ok_is_marks {P : Program} {w : World} {K : PySem.W.Frag} {mg : Str → Option Value} {base : Heap} {A : Ad} (T : Txt w K mg A) : FnOk P w K mg base CX0 1 A.a_is_marks A.d_is_marks ["value"] (sp_is_marks A) := by
  refine T.F_is_marks.ok sc_is_marks (fun vs H Q E h => ?_) (fun cdv A_ outer s_ H_0 vs Q E hr h => ?_)
  · obtain ⟨ms, x_value, KM, rfl, _⟩ := h
    rfl
  · obtain ⟨ms, x_value, KM, rfl, hW, hM, hQ⟩ := h
    unfold M_is_marks at hM
    refine ⟨_, (pss_one (ps_ret (pe_and (pe_callB (call_isiK (K := K) rfl) (by rfl) T.z_isinstance (by decide +kernel) (pa_cons (pv 0) (pa_cons (pe_bltn (v := .ty "str") (by rfl) T.z_str (by decide +kernel) rfl) pa_nil))) (pe_one (pe_cmpR op_eq (pe_op op_add (pe_m1 PySem.F.slot_str_count PySem.F.type_str_count mt_count (pv 0) pe_str) (pe_m1 PySem.F.slot_str_count PySem.F.type_str_count mt_count (pv 0) pe_str)) (pe_callB call_len_str (by rfl) T.z_len PySem.boot_len (pa_cons (pv 0) pa_nil)) (nomark _)))))), ?_⟩
    refine ⟨_, rfl, ?_⟩
    refine ⟨_, _, _, _, true, rfl, .ty _, .base (.str _), kit_ty (by decide +kernel), ?_⟩
    refine ⟨_, rfl, ?_⟩
    refine iteT ?_
    refine ⟨_, rfl, ?_⟩
    refine ⟨⟨_, rfl⟩, ?_⟩
    refine ⟨_, _, rfl, rfl, ?_⟩
    refine ⟨_, rfl, ?_⟩
    refine ⟨⟨_, rfl⟩, ?_⟩
    refine ⟨_, _, rfl, rfl, ?_⟩
    refine ⟨_, _, rfl, rfl, ?_⟩
    refine ⟨_, rfl, ?_⟩
    obtain ⟨g1, hM⟩ := hM
    refine ⟨_, rfl, g1, ?_⟩
    refine ⟨rfl, ?_⟩
    exact hQ (decide (V.int ((Txt.count x_value ("h" : Str) : Int) + (Txt.count x_value ("a" : Str) : Int)) = V.int (x_value.length : Int))) _ _ hM hW.out rep_v
def M_check_part (x_marks : Str) (KM : Unit → Prop) : Prop :=
  (M_is_marks x_marks fun r1 => (if (!r1) = true then False else (x_marks.length ≤ sizeLine ∧ (if (decide ((4 : Int) < (x_marks.length : Int))) = true then False else (KM ())))))
def sp_check_part (A : Ad) : Sp := fun vs H Q _ => ∃ (ms : List Addr) (x_marks : Str) (KM : Unit → Prop), vs = [V.str x_marks] ∧ Wd ms [] [] H H ∧ M_check_part x_marks KM ∧ ∀ (r : Unit) (u : V) (H1 : Hp), KM r → Ret [] H H1 → rep ms H1 (D.v V.non) u → Q u H1
set_option maxHeartbeats 16000000 in
theorem ok_check_part {P : Program} {w : World} {K : PySem.W.Frag} {mg : Str → Option Value} {base : Heap} {A : Ad} (T : Txt w K mg A) : FnOk P w K mg base CX0 2 A.a_check_part A.d_check_part ["marks"] (sp_check_part A) := by
  refine T.F_check_part.ok sc_check_part (fun vs H Q E h => ?_) (fun cdv A_ outer s_ H_0 vs Q E hr h => ?_)
  · obtain ⟨ms, x_marks, KM, rfl, _⟩ := h
    rfl
  · obtain ⟨ms, x_marks, KM, rfl, hW, hM, hQ⟩ := h
    unfold M_check_part at hM
    refine ⟨_, (pss_one (ps_if (PW.pt (pw_or (pt_not (pt_val (pe_call (ok_is_marks T) (hr.mono (by decide)) (by rfl) T.g_is_marks T.F_is_marks.kp T.b_is_marks .nil pass0 (pa_cons (pv 0) pa_nil)))) (pw_or1 (pt_cmpR op_gt (pe_callB call_len_str (by rfl) T.z_len PySem.boot_len (pa_cons (pv 0) pa_nil)) (C8.pe_gc (by rfl) T.c_MOST_MARKS) (nomark _))))) (pss_one ps_never) pss_nil)), ?_⟩
    refine ⟨_, rfl, ?_⟩
    refine ⟨ms, x_marks, _, rfl, hW.enter0, hM, fun r1 u4 H5 hM e3 h2 => ?_⟩
    replace hW := hW.ret0 e3
    obtain rfl := of_v h2
    refine ⟨_, rfl, ?_⟩
    refine ite3 hM (fun hM => ?_) (fun hM => ?_)
    · skip
      refine iteT ?_
      exact hM
    · skip
      refine ⟨_, rfl, ?_⟩
      obtain ⟨g6, hM⟩ := hM
      refine ⟨_, rfl, g6, ?_⟩
      refine ⟨_, _, rfl, rfl, ?_⟩
      refine ⟨_, rfl, ?_⟩
      refine ite3 hM (fun hM => ?_) (fun hM => ?_)
      · skip
        exact hM
      · skip
        exact hQ () _ _ hM hW.out rep_v
def M_Word_init (x_head : Str) (x_middle : Str) (x_tail : Str) (KM : (Str × Str × Str) → Prop) : Prop :=
  (M_check_part x_head fun r1 => (M_check_part x_middle fun r6 => (if (decide (V.str x_middle = V.str ("" : Str))) = true then False else (M_check_part x_tail fun r11 => (KM (x_head, x_middle, x_tail))))))
def sp_Word_init (A : Ad) : Sp := fun vs H Q _ => ∃ (ms : List Addr) (p_ dx_ : Addr) (x_head : Str) (x_middle : Str) (x_tail : Str) (KM : (Str × Str × Str) → Prop), vs = [.ref p_, V.str x_head, V.str x_middle, V.str x_tail] ∧ Wd ms [] [] H H ∧ p_ ∈ ms ∧ H p_ = some (.ins A.c_Word dx_ []) ∧ M_Word_init x_head x_middle x_tail KM ∧ ∀ (r : (Str × Str × Str)) (us : List V) (H1 : Hp), KM r → KpI p_ H H1 → H1 p_ = some (.ins A.c_Word dx_ (List.zip ns_Word us)) → ns_Word.length = us.length → repL ms H1 [(D.v (V.str r.1)), (D.v (V.str r.2.1)), (D.v (V.str r.2.2))] us → Q .non H1
set_option maxHeartbeats 16000000 in
theorem ok_Word_init {P : Program} {w : World} {K : PySem.W.Frag} {mg : Str → Option Value} {base : Heap} {A : Ad} (T : Txt w K mg A) : FnOk P w K mg base CX0 3 A.a_Word_init A.d_Word_init ["self", "head", "middle", "tail"] (sp_Word_init A) := by
  refine T.F_Word_init.ok sc_Word_init (fun vs H Q E h => ?_) (fun cdv A_ outer s_ H_0 vs Q E hr h => ?_)
  · obtain ⟨ms, p_, dx_, x_head, x_middle, x_tail, KM, rfl, _⟩ := h
    rfl
  · obtain ⟨ms, p_, dx_, x_head, x_middle, x_tail, KM, rfl, hW, pm_, hp, hM, hQ⟩ := h
    unfold M_Word_init at hM
    have hK := ki_refl (p := p_) (H := H_0)
    replace hp : H_0 p_ = some (.ins A.c_Word dx_ (List.zip ([] : List Str) ([] : List V))) := hp
    refine ⟨_, (pss_cons (ps_expr (pe_call (ok_check_part T) (hr.mono (by decide)) (by rfl) T.g_check_part T.F_check_part.kp T.b_check_part .nil pass0 (pa_cons (pv 1) pa_nil))) (pss_cons (ps_expr (pe_call (ok_check_part T) (hr.mono (by decide)) (by rfl) T.g_check_part T.F_check_part.kp T.b_check_part .nil pass0 (pa_cons (pv 2) pa_nil))) (pss_cons (ps_if (pt_cmpR op_eq (pv 2) pe_str (nomark _)) (pss_one ps_never) pss_nil) (pss_cons (ps_expr (pe_call (ok_check_part T) (hr.mono (by decide)) (by rfl) T.g_check_part T.F_check_part.kp T.b_check_part .nil pass0 (pa_cons (pv 3) pa_nil))) (pss_cons (ps_fld (pv 0) (pv 1) rfl) (pss_cons (ps_fld (pv 0) (pv 2) rfl) (pss_one (ps_fld (pv 0) (pv 3) rfl)))))))), ?_⟩
    refine ⟨_, rfl, ?_⟩
    refine ⟨ms, x_head, _, rfl, hW.enter0, hM, fun r1 u4 H5 hM e3 h2 => ?_⟩
    replace hp := Rx.Ext.keep e3 hp
    replace hW := hW.ret0 e3
    obtain rfl := of_v h2
    refine ⟨_, rfl, ?_⟩
    refine ⟨ms, x_middle, _, rfl, hW.enter0, hM, fun r6 u9 H10 hM e8 h7 => ?_⟩
    replace hp := Rx.Ext.keep e8 hp
    replace hW := hW.ret0 e8
    obtain rfl := of_v h7
    refine ⟨_, rfl, ?_⟩
    refine ⟨rfl, ?_⟩
    refine ⟨_, rfl, ?_⟩
    refine ite3 hM (fun hM => ?_) (fun hM => ?_)
    · skip
      exact hM
    · skip
      refine ⟨_, rfl, ?_⟩
      refine ⟨ms, x_tail, _, rfl, hW.enter0, hM, fun r11 u14 H15 hM e13 h12 => ?_⟩
      replace hp := Rx.Ext.keep e13 hp
      replace hW := hW.ret0 e13
      obtain rfl := of_v h12
      refine ⟨_, rfl, ?_⟩
      refine ⟨_, rfl, p_, A.c_Word, dx_, _, rfl, hp, T.cl_Word, T.na_Word__head, (by first | decide | simp), ?_⟩
      have z16 : putF ("_head" : Str) (V.str x_head) (List.zip ([] : List Str) ([] : List V)) = List.zip [("_head" : Str)] [V.str x_head] := putF_zip (ns := ([] : List Str)) (us := ([] : List V)) rfl (nin_of (by decide +kernel))
      replace hK := ki_put (o := .ins A.c_Word dx_ (putF ("_head" : Str) (V.str x_head) (List.zip ([] : List Str) ([] : List V)))) hK hW
      replace hW := wd_at (p := p_) (o := .ins A.c_Word dx_ (putF ("_head" : Str) (V.str x_head) (List.zip ([] : List Str) ([] : List V)))) hW
      replace hp : upd H15 p_ (.ins A.c_Word dx_ (putF ("_head" : Str) (V.str x_head) (List.zip ([] : List Str) ([] : List V)))) p_ = some (.ins A.c_Word dx_ (putF ("_head" : Str) (V.str x_head) (List.zip ([] : List Str) ([] : List V)))) := upd_same
      generalize upd H15 p_ (.ins A.c_Word dx_ (putF ("_head" : Str) (V.str x_head) (List.zip ([] : List Str) ([] : List V)))) = H17 at *
      rw [z16] at hp
      refine ⟨_, rfl, ?_⟩
      refine ⟨_, rfl, p_, A.c_Word, dx_, _, rfl, hp, T.cl_Word, T.na_Word__middle, (by first | decide | simp), ?_⟩
      have z18 : putF ("_middle" : Str) (V.str x_middle) (List.zip [("_head" : Str)] [V.str x_head]) = List.zip [("_head" : Str), ("_middle" : Str)] [V.str x_head, V.str x_middle] := putF_zip (ns := [("_head" : Str)]) (us := [V.str x_head]) rfl (nin_of (by decide +kernel))
      replace hK := ki_put (o := .ins A.c_Word dx_ (putF ("_middle" : Str) (V.str x_middle) (List.zip [("_head" : Str)] [V.str x_head]))) hK hW
      replace hW := wd_at (p := p_) (o := .ins A.c_Word dx_ (putF ("_middle" : Str) (V.str x_middle) (List.zip [("_head" : Str)] [V.str x_head]))) hW
      replace hp : upd H17 p_ (.ins A.c_Word dx_ (putF ("_middle" : Str) (V.str x_middle) (List.zip [("_head" : Str)] [V.str x_head]))) p_ = some (.ins A.c_Word dx_ (putF ("_middle" : Str) (V.str x_middle) (List.zip [("_head" : Str)] [V.str x_head]))) := upd_same
      generalize upd H17 p_ (.ins A.c_Word dx_ (putF ("_middle" : Str) (V.str x_middle) (List.zip [("_head" : Str)] [V.str x_head]))) = H19 at *
      rw [z18] at hp
      refine ⟨_, rfl, ?_⟩
      refine ⟨_, rfl, p_, A.c_Word, dx_, _, rfl, hp, T.cl_Word, T.na_Word__tail, (by first | decide | simp), ?_⟩
      have z20 : putF ("_tail" : Str) (V.str x_tail) (List.zip [("_head" : Str), ("_middle" : Str)] [V.str x_head, V.str x_middle]) = List.zip [("_head" : Str), ("_middle" : Str), ("_tail" : Str)] [V.str x_head, V.str x_middle, V.str x_tail] := putF_zip (ns := [("_head" : Str), ("_middle" : Str)]) (us := [V.str x_head, V.str x_middle]) rfl (nin_of (by decide +kernel))
      replace hK := ki_put (o := .ins A.c_Word dx_ (putF ("_tail" : Str) (V.str x_tail) (List.zip [("_head" : Str), ("_middle" : Str)] [V.str x_head, V.str x_middle]))) hK hW
      replace hW := wd_at (p := p_) (o := .ins A.c_Word dx_ (putF ("_tail" : Str) (V.str x_tail) (List.zip [("_head" : Str), ("_middle" : Str)] [V.str x_head, V.str x_middle]))) hW
      replace hp : upd H19 p_ (.ins A.c_Word dx_ (putF ("_tail" : Str) (V.str x_tail) (List.zip [("_head" : Str), ("_middle" : Str)] [V.str x_head, V.str x_middle]))) p_ = some (.ins A.c_Word dx_ (putF ("_tail" : Str) (V.str x_tail) (List.zip [("_head" : Str), ("_middle" : Str)] [V.str x_head, V.str x_middle]))) := upd_same
      generalize upd H19 p_ (.ins A.c_Word dx_ (putF ("_tail" : Str) (V.str x_tail) (List.zip [("_head" : Str), ("_middle" : Str)] [V.str x_head, V.str x_middle]))) = H21 at *
      rw [z20] at hp
      exact hQ (x_head, x_middle, x_tail) [V.str x_head, V.str x_middle, V.str x_tail] _ hM (ki_wd hK hW) hp rfl (repL_cons rep_v (repL_cons rep_v (repL_cons rep_v repL_nil)))
theorem make_Word_init {ms : List Addr} {ps : List PEn} {cs : List (Addr × List V)} {H0 H : Hp} {A : Ad} {x_head : Str} {x_middle : Str} {x_tail : Str} {KM : (Str × Str × Str) → Prop} {Q : Addr → Hp → Prop} {E : XK} (hW : Wd ms ps cs H0 H) (hM : M_Word_init x_head x_middle x_tail KM)
    (k : ∀ (x : Addr) (H1 : Hp) (r : (Str × Str × Str)), KM r → Rx.Ext H H1 → rep ms H1 (eWord A r) (.ref x) → Q x H1) :
    ∀ x dx, H x = none → H dx = none → dx ≠ x → sp_Word_init A (.ref x :: ([V.str x_head, V.str x_middle, V.str x_tail] ++ [])) (upd (upd H dx (.own x)) x (.ins A.c_Word dx [])) (fun v H2 => v = .non ∧ Q x H2) E := by
  intro x dx nx ndx ne
  exact ⟨x :: ms, x, dx, x_head, x_middle, x_tail, KM, rfl, wd_new hW nx ndx, List.mem_cons_self, upd_same, hM, fun r us H1 hr hK hp hl hu => ⟨rfl, k x H1 r hr (ext_new hK nx ndx) (rep_insW hW nx hp hl hu)⟩⟩
def M_is_integer (x_value : Int) (KM : Bool → Prop) : Prop :=
  (KM (!false))
def sp_is_integer (A : Ad) : Sp := fun vs H Q _ => ∃ (ms : List Addr) (x_value : Int) (KM : Bool → Prop), vs = [V.int x_value] ∧ Wd ms [] [] H H ∧ M_is_integer x_value KM ∧ ∀ (r : Bool) (u : V) (H1 : Hp), KM r → Ret [] H H1 → rep ms H1 (D.v (V.bl r)) u → Q u H1
set_option maxHeartbeats 16000000 in
theorem ok_is_integer {P : Program} {w : World} {K : PySem.W.Frag} {mg : Str → Option Value} {base : Heap} {A : Ad} (T : Txt w K mg A) : FnOk P w K mg base CX0 1 A.a_is_integer A.d_is_integer ["value"] (sp_is_integer A) := by
  refine T.F_is_integer.ok sc_is_integer (fun vs H Q E h => ?_) (fun cdv A_ outer s_ H_0 vs Q E hr h => ?_)
  · obtain ⟨ms, x_value, KM, rfl, _⟩ := h
    rfl
  · obtain ⟨ms, x_value, KM, rfl, hW, hM, hQ⟩ := h
    unfold M_is_integer at hM
    refine ⟨_, (pss_one (ps_ret (pe_and (pe_callB (call_isiK (K := K) rfl) (by rfl) T.z_isinstance (by decide +kernel) (pa_cons (pv 0) (pa_cons (pe_bltn (v := .ty "int") (by rfl) T.z_int (by decide +kernel) rfl) pa_nil))) (pe_one (pe_not (pe_callB (call_isiK (K := K) rfl) (by rfl) T.z_isinstance (by decide +kernel) (pa_cons (pv 0) (pa_cons (pe_bltn (v := .ty "bool") (by rfl) T.z_bool (by decide +kernel) rfl) pa_nil)))))))), ?_⟩
    refine ⟨_, rfl, ?_⟩
    refine ⟨_, _, _, _, true, rfl, .ty _, .base (.int _), kit_ty (by decide +kernel), ?_⟩
    refine ⟨_, rfl, ?_⟩
    refine iteT ?_
    refine ⟨_, rfl, ?_⟩
    refine ⟨_, _, _, _, false, rfl, .ty _, .base (.int _), kit_ty (by decide +kernel), ?_⟩
    refine ⟨_, rfl, ?_⟩
    exact hQ (!false) _ _ hM hW.out rep_v
def M_Rule_init (x_step : Int) (x_word : (Str × Str × Str)) (x_stander : Str) (x_turned : Bool) (KM : (Int × (Str × Str × Str) × Str × Bool) → Prop) : Prop :=
  (M_is_integer x_step fun r1 => (if (!r1) = true then False else (if (decide (V.int x_step = V.int (0 : Int))) = true then False else (if (decide ((7 : Int) < (if x_step < 0 then -x_step else x_step))) = true then False else (∃ c6 : Str, wd_CONTRARY_STANDERS.lookup x_stander = some c6 ∧ (KM (x_step, x_word, x_stander, x_turned)))))))
def sp_Rule_init (A : Ad) : Sp := fun vs H Q _ => ∃ (ms : List Addr) (p_ dx_ : Addr) (v_word : V) (x_step : Int) (x_word : (Str × Str × Str)) (x_stander : Str) (x_turned : Bool) (KM : (Int × (Str × Str × Str) × Str × Bool) → Prop), vs = [.ref p_, V.int x_step, v_word, V.str x_stander, V.bl x_turned] ∧ Wd ms [] [] H H ∧ p_ ∈ ms ∧ H p_ = some (.ins A.c_Rule dx_ []) ∧ rep ms H (eWord A x_word) v_word ∧ M_Rule_init x_step x_word x_stander x_turned KM ∧ ∀ (r : (Int × (Str × Str × Str) × Str × Bool)) (us : List V) (H1 : Hp), KM r → KpI p_ H H1 → H1 p_ = some (.ins A.c_Rule dx_ (List.zip ns_Rule us)) → ns_Rule.length = us.length → repL ms H1 [(D.v (V.int r.1)), (eWord A r.2.1), (D.v (V.str r.2.2.1)), (D.v (V.bl r.2.2.2))] us → Q .non H1
set_option maxHeartbeats 16000000 in
theorem ok_Rule_init {P : Program} {w : World} {K : PySem.W.Frag} {mg : Str → Option Value} {base : Heap} {A : Ad} (T : Txt w K mg A) : FnOk P w K mg base CX0 2 A.a_Rule_init A.d_Rule_init ["self", "step", "word", "stander", "turned"] (sp_Rule_init A) := by
  refine T.F_Rule_init.ok sc_Rule_init (fun vs H Q E h => ?_) (fun cdv A_ outer s_ H_0 vs Q E hr h => ?_)
  · obtain ⟨ms, p_, dx_, v_word, x_step, x_word, x_stander, x_turned, KM, rfl, _⟩ := h
    rfl
  · obtain ⟨ms, p_, dx_, v_word, x_step, x_word, x_stander, x_turned, KM, rfl, hW, pm_, hp, h_word, hM, hQ⟩ := h
    unfold M_Rule_init at hM
    have hK := ki_refl (p := p_) (H := H_0)
    replace hp : H_0 p_ = some (.ins A.c_Rule dx_ (List.zip ([] : List Str) ([] : List V))) := hp
    refine ⟨_, (pss_cons (ps_if (PW.pt (pw_or (pt_not (pt_val (pe_call (ok_is_integer T) (hr.mono (by decide)) (by rfl) T.g_is_integer T.F_is_integer.kp T.b_is_integer .nil pass0 (pa_cons (pv 1) pa_nil)))) (pw_or (pt_cmpR op_eq (pv 1) pe_int (nomark _)) (pw_or1 (pt_cmpR op_gt (pe_callB call_abs (by rfl) T.z_abs (by decide +kernel) (pa_cons (pv 1) pa_nil)) (C8.pe_gc (by rfl) T.c_MOST_STEP) (nomark _)))))) (pss_one ps_never) pss_nil) (pss_cons (ps_if (PW.pt (pw_or (pt_not (pt_val (pe_callB (call_isiK (K := K) rfl) (by rfl) T.z_isinstance (by decide +kernel) (pa_cons (pv 3) (pa_cons (pe_bltn (v := .ty "str") (by rfl) T.z_str (by decide +kernel) rfl) pa_nil))))) (pw_or1 (pt_cmpR (op_ninW (K := K) (w := w) rfl rfl T.lo_CONTRARY_STANDERS) (pv 3) (pe_glob (v := .ref A.wd_CONTRARY_STANDERS) (by rfl) T.g_CONTRARY_STANDERS rfl) (by rfl))))) (pss_one ps_never) pss_nil) (pss_cons (ps_if (pt_not (pt_val (pe_callB (call_isiK (K := K) rfl) (by rfl) T.z_isinstance (by decide +kernel) (pa_cons (pv 4) (pa_cons (pe_bltn (v := .ty "bool") (by rfl) T.z_bool (by decide +kernel) rfl) pa_nil))))) (pss_one ps_never) pss_nil) (pss_cons (ps_fld (pv 0) (pv 1) rfl) (pss_cons (ps_fld (pv 0) (pv 2) rfl) (pss_cons (ps_fld (pv 0) (pv 3) rfl) (pss_one (ps_fld (pv 0) (pv 4) rfl)))))))), ?_⟩
    refine ⟨_, rfl, ?_⟩
    refine ⟨ms, x_step, _, rfl, hW.enter0, hM, fun r1 u4 H5 hM e3 h2 => ?_⟩
    replace h_word := rep_ext e3 h_word
    replace hp := Rx.Ext.keep e3 hp
    replace hW := hW.ret0 e3
    obtain rfl := of_v h2
    refine ⟨_, rfl, ?_⟩
    refine ite3 hM (fun hM => ?_) (fun hM => ?_)
    · skip
      refine iteT ?_
      exact hM
    · skip
      refine ⟨_, rfl, ?_⟩
      refine ⟨rfl, ?_⟩
      refine ⟨_, rfl, ?_⟩
      refine ite3 hM (fun hM => ?_) (fun hM => ?_)
      · skip
        refine iteT ?_
        exact hM
      · skip
        refine ⟨_, rfl, ?_⟩
        refine ⟨_, rfl, ?_⟩
        refine ⟨_, _, rfl, rfl, ?_⟩
        refine ⟨_, rfl, ?_⟩
        refine ite3 hM (fun hM => ?_) (fun hM => ?_)
        · skip
          exact hM
        · skip
          refine ⟨_, rfl, ?_⟩
          refine ⟨_, _, _, _, true, rfl, .ty _, .base (.str _), kit_ty (by decide +kernel), ?_⟩
          refine ⟨_, rfl, ?_⟩
          refine iteF ?_
          refine ⟨_, rfl, ?_⟩
          obtain ⟨c6, h7, hM⟩ := hM
          apply rep_inW T.kd_CONTRARY_STANDERS h7
          refine ⟨_, rfl, ?_⟩
          refine iteF ?_
          refine ⟨_, rfl, ?_⟩
          refine ⟨_, _, _, _, true, rfl, .ty _, .base (.bl _), kit_ty (by decide +kernel), ?_⟩
          refine ⟨_, rfl, ?_⟩
          refine iteF ?_
          refine ⟨_, rfl, ?_⟩
          refine ⟨_, rfl, p_, A.c_Rule, dx_, _, rfl, hp, T.cl_Rule, T.na_Rule__step, (by first | decide | simp), ?_⟩
          have z8 : putF ("_step" : Str) (V.int x_step) (List.zip ([] : List Str) ([] : List V)) = List.zip [("_step" : Str)] [V.int x_step] := putF_zip (ns := ([] : List Str)) (us := ([] : List V)) rfl (nin_of (by decide +kernel))
          replace h_word := rep_put (o := .ins A.c_Rule dx_ (putF ("_step" : Str) (V.int x_step) (List.zip ([] : List Str) ([] : List V)))) pm_ h_word
          replace hK := ki_put (o := .ins A.c_Rule dx_ (putF ("_step" : Str) (V.int x_step) (List.zip ([] : List Str) ([] : List V)))) hK hW
          replace hW := wd_at (p := p_) (o := .ins A.c_Rule dx_ (putF ("_step" : Str) (V.int x_step) (List.zip ([] : List Str) ([] : List V)))) hW
          replace hp : upd H5 p_ (.ins A.c_Rule dx_ (putF ("_step" : Str) (V.int x_step) (List.zip ([] : List Str) ([] : List V)))) p_ = some (.ins A.c_Rule dx_ (putF ("_step" : Str) (V.int x_step) (List.zip ([] : List Str) ([] : List V)))) := upd_same
          generalize upd H5 p_ (.ins A.c_Rule dx_ (putF ("_step" : Str) (V.int x_step) (List.zip ([] : List Str) ([] : List V)))) = H9 at *
          rw [z8] at hp
          refine ⟨_, rfl, ?_⟩
          refine ⟨_, rfl, p_, A.c_Rule, dx_, _, rfl, hp, T.cl_Rule, T.na_Rule__word, (by first | decide | simp), ?_⟩
          have z10 : putF ("_word" : Str) (v_word) (List.zip [("_step" : Str)] [V.int x_step]) = List.zip [("_step" : Str), ("_word" : Str)] [V.int x_step, v_word] := putF_zip (ns := [("_step" : Str)]) (us := [V.int x_step]) rfl (nin_of (by decide +kernel))
          replace h_word := rep_put (o := .ins A.c_Rule dx_ (putF ("_word" : Str) (v_word) (List.zip [("_step" : Str)] [V.int x_step]))) pm_ h_word
          replace hK := ki_put (o := .ins A.c_Rule dx_ (putF ("_word" : Str) (v_word) (List.zip [("_step" : Str)] [V.int x_step]))) hK hW
          replace hW := wd_at (p := p_) (o := .ins A.c_Rule dx_ (putF ("_word" : Str) (v_word) (List.zip [("_step" : Str)] [V.int x_step]))) hW
          replace hp : upd H9 p_ (.ins A.c_Rule dx_ (putF ("_word" : Str) (v_word) (List.zip [("_step" : Str)] [V.int x_step]))) p_ = some (.ins A.c_Rule dx_ (putF ("_word" : Str) (v_word) (List.zip [("_step" : Str)] [V.int x_step]))) := upd_same
          generalize upd H9 p_ (.ins A.c_Rule dx_ (putF ("_word" : Str) (v_word) (List.zip [("_step" : Str)] [V.int x_step]))) = H11 at *
          rw [z10] at hp
          refine ⟨_, rfl, ?_⟩
          refine ⟨_, rfl, p_, A.c_Rule, dx_, _, rfl, hp, T.cl_Rule, T.na_Rule__stander, (by first | decide | simp), ?_⟩
          have z12 : putF ("_stander" : Str) (V.str x_stander) (List.zip [("_step" : Str), ("_word" : Str)] [V.int x_step, v_word]) = List.zip [("_step" : Str), ("_word" : Str), ("_stander" : Str)] [V.int x_step, v_word, V.str x_stander] := putF_zip (ns := [("_step" : Str), ("_word" : Str)]) (us := [V.int x_step, v_word]) rfl (nin_of (by decide +kernel))
          replace h_word := rep_put (o := .ins A.c_Rule dx_ (putF ("_stander" : Str) (V.str x_stander) (List.zip [("_step" : Str), ("_word" : Str)] [V.int x_step, v_word]))) pm_ h_word
          replace hK := ki_put (o := .ins A.c_Rule dx_ (putF ("_stander" : Str) (V.str x_stander) (List.zip [("_step" : Str), ("_word" : Str)] [V.int x_step, v_word]))) hK hW
          replace hW := wd_at (p := p_) (o := .ins A.c_Rule dx_ (putF ("_stander" : Str) (V.str x_stander) (List.zip [("_step" : Str), ("_word" : Str)] [V.int x_step, v_word]))) hW
          replace hp : upd H11 p_ (.ins A.c_Rule dx_ (putF ("_stander" : Str) (V.str x_stander) (List.zip [("_step" : Str), ("_word" : Str)] [V.int x_step, v_word]))) p_ = some (.ins A.c_Rule dx_ (putF ("_stander" : Str) (V.str x_stander) (List.zip [("_step" : Str), ("_word" : Str)] [V.int x_step, v_word]))) := upd_same
          generalize upd H11 p_ (.ins A.c_Rule dx_ (putF ("_stander" : Str) (V.str x_stander) (List.zip [("_step" : Str), ("_word" : Str)] [V.int x_step, v_word]))) = H13 at *
          rw [z12] at hp
          refine ⟨_, rfl, ?_⟩
          refine ⟨_, rfl, p_, A.c_Rule, dx_, _, rfl, hp, T.cl_Rule, T.na_Rule__turned, (by first | decide | simp), ?_⟩
          have z14 : putF ("_turned" : Str) (V.bl x_turned) (List.zip [("_step" : Str), ("_word" : Str), ("_stander" : Str)] [V.int x_step, v_word, V.str x_stander]) = List.zip [("_step" : Str), ("_word" : Str), ("_stander" : Str), ("_turned" : Str)] [V.int x_step, v_word, V.str x_stander, V.bl x_turned] := putF_zip (ns := [("_step" : Str), ("_word" : Str), ("_stander" : Str)]) (us := [V.int x_step, v_word, V.str x_stander]) rfl (nin_of (by decide +kernel))
          replace h_word := rep_put (o := .ins A.c_Rule dx_ (putF ("_turned" : Str) (V.bl x_turned) (List.zip [("_step" : Str), ("_word" : Str), ("_stander" : Str)] [V.int x_step, v_word, V.str x_stander]))) pm_ h_word
          replace hK := ki_put (o := .ins A.c_Rule dx_ (putF ("_turned" : Str) (V.bl x_turned) (List.zip [("_step" : Str), ("_word" : Str), ("_stander" : Str)] [V.int x_step, v_word, V.str x_stander]))) hK hW
          replace hW := wd_at (p := p_) (o := .ins A.c_Rule dx_ (putF ("_turned" : Str) (V.bl x_turned) (List.zip [("_step" : Str), ("_word" : Str), ("_stander" : Str)] [V.int x_step, v_word, V.str x_stander]))) hW
          replace hp : upd H13 p_ (.ins A.c_Rule dx_ (putF ("_turned" : Str) (V.bl x_turned) (List.zip [("_step" : Str), ("_word" : Str), ("_stander" : Str)] [V.int x_step, v_word, V.str x_stander]))) p_ = some (.ins A.c_Rule dx_ (putF ("_turned" : Str) (V.bl x_turned) (List.zip [("_step" : Str), ("_word" : Str), ("_stander" : Str)] [V.int x_step, v_word, V.str x_stander]))) := upd_same
          generalize upd H13 p_ (.ins A.c_Rule dx_ (putF ("_turned" : Str) (V.bl x_turned) (List.zip [("_step" : Str), ("_word" : Str), ("_stander" : Str)] [V.int x_step, v_word, V.str x_stander]))) = H15 at *
          rw [z14] at hp
          exact hQ (x_step, x_word, x_stander, x_turned) [V.int x_step, v_word, V.str x_stander, V.bl x_turned] _ hM (ki_wd hK hW) hp rfl (repL_cons rep_v (repL_cons h_word (repL_cons rep_v (repL_cons rep_v repL_nil))))
theorem make_Rule_init {ms : List Addr} {ps : List PEn} {cs : List (Addr × List V)} {H0 H : Hp} {A : Ad} {v_word : V} {x_step : Int} {x_word : (Str × Str × Str)} {x_stander : Str} {x_turned : Bool} {KM : (Int × (Str × Str × Str) × Str × Bool) → Prop} {Q : Addr → Hp → Prop} {E : XK} (hW : Wd ms ps cs H0 H) (h_word : rep ms H (eWord A x_word) v_word) (hM : M_Rule_init x_step x_word x_stander x_turned KM)
    (k : ∀ (x : Addr) (H1 : Hp) (r : (Int × (Str × Str × Str) × Str × Bool)), KM r → Rx.Ext H H1 → rep ms H1 (eRule A r) (.ref x) → Q x H1) :
    ∀ x dx, H x = none → H dx = none → dx ≠ x → sp_Rule_init A (.ref x :: ([V.int x_step, v_word, V.str x_stander, V.bl x_turned] ++ [])) (upd (upd H dx (.own x)) x (.ins A.c_Rule dx [])) (fun v H2 => v = .non ∧ Q x H2) E := by
  intro x dx nx ndx ne
  exact ⟨x :: ms, x, dx, v_word, x_step, x_word, x_stander, x_turned, KM, rfl, wd_new hW nx ndx, List.mem_cons_self, upd_same, mem_new nx h_word ndx, hM, fun r us H1 hr hK hp hl hu => ⟨rfl, k x H1 r hr (ext_new hK nx ndx) (rep_insW hW nx hp hl hu)⟩⟩
def M_rule (x_model_here : (Int × (Str × Str × Str) × Str × Bool)) (KM : (Int × (Str × Str × Str) × Str × Bool) → Prop) : Prop :=
  (M_Word_init x_model_here.2.1.1 x_model_here.2.1.2.1 x_model_here.2.1.2.2 fun r22 => (M_Rule_init x_model_here.1 r22 x_model_here.2.2.1 x_model_here.2.2.2 fun r31 => (KM r31)))
def sp_rule (A : Ad) : Sp := fun vs H Q _ => ∃ (ms : List Addr) (v_model_here : V) (x_model_here : (Int × (Str × Str × Str) × Str × Bool)) (KM : (Int × (Str × Str × Str) × Str × Bool) → Prop), vs = [v_model_here] ∧ Wd ms [] [] H H ∧ rep ms H (D.dct [(Sum.inr ("stride" : Str) : Key), (Sum.inr ("parts" : Str) : Key), (Sum.inr ("stand" : Str) : Key), (Sum.inr ("flips" : Str) : Key)] [(D.v (V.int x_model_here.1)), (D.tup [(D.v (V.str x_model_here.2.1.1)), (D.v (V.str x_model_here.2.1.2.1)), (D.v (V.str x_model_here.2.1.2.2))]), (D.v (V.str x_model_here.2.2.1)), (D.v (V.bl x_model_here.2.2.2))]) v_model_here ∧ M_rule x_model_here KM ∧ ∀ (r : (Int × (Str × Str × Str) × Str × Bool)) (u : V) (H1 : Hp), KM r → Ret [] H H1 → rep ms H1 (eRule A r) u → Q u H1
set_option maxHeartbeats 16000000 in
theorem ok_rule {P : Program} {w : World} {K : PySem.W.Frag} {mg : Str → Option Value} {base : Heap} {A : Ad} (T : Txt w K mg A) : FnOk P w K mg base CX0 5 A.a_rule A.d_rule ["_law_model_here"] (sp_rule A) := by
  refine T.F_rule.ok sc_rule (fun vs H Q E h => ?_) (fun cdv A_ outer s_ H_0 vs Q E hr h => ?_)
  · obtain ⟨ms, v_model_here, x_model_here, KM, rfl, _⟩ := h
    rfl
  · obtain ⟨ms, v_model_here, x_model_here, KM, rfl, hW, h_model_here, hM, hQ⟩ := h
    unfold M_rule at hM
    refine ⟨_, (pss_cons (ps_asg (pe_dget (hu_of hr) (pv 0) pe_str (fun _ _ => rfl)) (pg_tup rfl (pgs_cons (pg_name (i := 1) sc_rule.nd rfl (by first | exact Or.inl rfl | exact Or.inr rfl)) (pgs_cons (pg_name (i := 2) sc_rule.nd rfl (by first | exact Or.inl rfl | exact Or.inr rfl)) (pgs_cons (pg_name (i := 3) sc_rule.nd rfl (by first | exact Or.inl rfl | exact Or.inr rfl)) pgs_nil))))) (pss_one (ps_ret (pe_make T.mk_Rule (ok_Rule_init T) (hr.mono (by decide)) (by rfl) T.g_Rule T.b_Rule_init .nil pass0 (pa_cons (pe_dget (hu_of hr) (pv 0) pe_str (fun _ _ => rfl)) (pa_cons (pe_make T.mk_Word (ok_Word_init T) (hr.mono (by decide)) (by rfl) T.g_Word T.b_Word_init .nil pass0 (pa_cons (pv 1) (pa_cons (pv 2) (pa_cons (pv 3) pa_nil)))) (pa_cons (pe_dget (hu_of hr) (pv 0) pe_str (fun _ _ => rfl)) (pa_cons (pe_dget (hu_of hr) (pv 0) pe_str (fun _ _ => rfl)) pa_nil)))))))), ?_⟩
    refine ⟨_, rfl, ?_⟩
    apply rep_dget (k := (Sum.inr ("parts" : Str) : Key)) 1 h_model_here (by decide +kernel) rfl rfl
    intro u2 h1
    apply rep_gtup h1 rfl
    intro vs3 hv4
    obtain ⟨u5, us6, rfl, h7, hv8⟩ := repL_uncons hv4
    obtain rfl := of_v h7
    obtain ⟨u9, us10, rfl, h11, hv12⟩ := repL_uncons hv8
    obtain rfl := of_v h11
    obtain ⟨u13, us14, rfl, h15, hv16⟩ := repL_uncons hv12
    obtain rfl := of_v h15
    obtain rfl := repL_empty hv16
    refine ⟨_, _, rfl, ?_⟩
    refine ⟨_, _, rfl, ?_⟩
    refine ⟨_, _, rfl, ?_⟩
    refine ⟨rfl, ?_⟩
    refine ⟨_, rfl, ?_⟩
    apply rep_dget (k := (Sum.inr ("stride" : Str) : Key)) 0 h_model_here (by decide +kernel) rfl rfl
    intro u18 h17
    obtain rfl := of_v h17
    refine ⟨_, rfl, ?_⟩
    refine ⟨_, rfl, ?_⟩
    refine ⟨_, rfl, ?_⟩
    conv => whnf
    apply make_Word_init (ms := ms) hW  hM
    intro p19 H23 r22 hM e21 h20
    replace h_model_here := rep_ext e21 h_model_here
    replace h1 := rep_ext e21 h1
    replace hW := hW.ret0 e21
    refine ⟨_, rfl, ?_⟩
    apply rep_dget (k := (Sum.inr ("stand" : Str) : Key)) 2 h_model_here (by decide +kernel) rfl rfl
    intro u25 h24
    obtain rfl := of_v h24
    refine ⟨_, rfl, ?_⟩
    apply rep_dget (k := (Sum.inr ("flips" : Str) : Key)) 3 h_model_here (by decide +kernel) rfl rfl
    intro u27 h26
    obtain rfl := of_v h26
    conv => whnf
    apply make_Rule_init (ms := ms) hW h20 hM
    intro p28 H32 r31 hM e30 h29
    replace h_model_here := rep_ext e30 h_model_here
    replace h1 := rep_ext e30 h1
    replace h20 := rep_ext e30 h20
    replace hW := hW.ret0 e30
    exact hQ r31 _ _ hM hW.out h29
/-- for each two teams, the lesser one first, the rounds in which they meet -/
def M_meetings (x_model_here : (Int × (Str × Str × Str) × Str × Bool)) (x_half : Int) (KM : (List (List Key × List Int)) → Prop) : Prop :=
  (forC (fun (x6 : Int) (s8 : (List (List Key × List Int))) (k9 : (List (List Key × List Int)) → Prop) => (forC (fun (x18 : Int) (s20 : (List (List Key × List Int))) (k21 : (List (List Key × List Int)) → Prop) => ((¬ Rx.hasD s20 (kfI (x6, x18)) = true ∧ s20.length < 16777216) ∧ (k21 (s20 ++ [(kfI (x6, x18), ([] : List Int))])))) (rangeI (x6 + (1 : Int)) ((((2 : Int) * x_half) + (1 : Int)) + (1 : Int))) s8 fun s41 => (k9 s41))) (rangeI (0 : Int) ((((2 : Int) * x_half) + (1 : Int)) + (1 : Int))) ([] : (List (List Key × List Int))) fun s46 => (forC (fun (x52 : Int) (s54 : (List (List Key × List Int))) (k55 : (List (List Key × List Int)) → Prop) => (M_spots x_model_here x_half x52 fun r66 => ((0 : Int) ∈ r66 ∧ (∃ y78 : List Int, Rx.getD s54 (kfI (((r66.idxOf (0 : Int) : Nat) : Int), (((2 : Int) * x_half) + (1 : Int)))) = some y78 ∧ (y78.length < 16777216 ∧ (forC (fun (x93 : Int) (s95 : (List (List Key × List Int))) (k96 : (List (List Key × List Int)) → Prop) => (0 ≤ x93 ∧ ∃ g106 : Int.toNat x93 < r66.length, ∀ x108, x108 = r66[Int.toNat x93]'g106 → (((0 : Int) - x108) ∈ r66 ∧ (if (decide (x93 < ((r66.idxOf ((0 : Int) - x108) : Nat) : Int))) = true then (∃ y117 : List Int, Rx.getD s95 (kfI (x93, ((r66.idxOf ((0 : Int) - x108) : Nat) : Int))) = some y117 ∧ (y117.length < 16777216 ∧ (k96 (addF s95 (kfI (x93, ((r66.idxOf ((0 : Int) - x108) : Nat) : Int))) x52)))) else (k96 s95))))) (rangeI (0 : Int) (((2 : Int) * x_half) + (1 : Int))) (addF s54 (kfI (((r66.idxOf (0 : Int) : Nat) : Int), (((2 : Int) * x_half) + (1 : Int)))) x52) fun s131 => (k55 s131))))))) (rangeI (0 : Int) (((2 : Int) * x_half) + (1 : Int))) s46 fun s137 => (KM s137)))
def sp_meetings (A : Ad) : Sp := fun vs H Q _ => ∃ (ms : List Addr) (v_model_here : V) (x_model_here : (Int × (Str × Str × Str) × Str × Bool)) (x_half : Int) (KM : (List (List Key × List Int)) → Prop), vs = [v_model_here, V.int x_half] ∧ Wd ms [] [] H H ∧ rep ms H (D.dct [(Sum.inr ("stride" : Str) : Key), (Sum.inr ("parts" : Str) : Key), (Sum.inr ("stand" : Str) : Key), (Sum.inr ("flips" : Str) : Key)] [(D.v (V.int x_model_here.1)), (D.tup [(D.v (V.str x_model_here.2.1.1)), (D.v (V.str x_model_here.2.1.2.1)), (D.v (V.str x_model_here.2.1.2.2))]), (D.v (V.str x_model_here.2.2.1)), (D.v (V.bl x_model_here.2.2.2))]) v_model_here ∧ M_meetings x_model_here x_half KM ∧ ∀ (r : (List (List Key × List Int))) (u : V) (H1 : Hp), KM r → Ret [] H H1 → rep ms H1 (D.dcT (r.map (·.1)) (r.map fun y_ : List Key × List Int => lsI y_.2)) u → (∀ p_, u = .ref p_ → H p_ = none) → Q u H1
set_option maxHeartbeats 16000000 in
theorem ok_meetings {P : Program} {w : World} {K : PySem.W.Frag} {mg : Str → Option Value} {base : Heap} {A : Ad} (T : Txt w K mg A) : FnOk P w K mg base CX0 2 A.a_meetings A.d_meetings ["_law_model_here", "_law_half"] (sp_meetings A) := by
  refine T.F_meetings.ok sc_meetings (fun vs H Q E h => ?_) (fun cdv A_ outer s_ H_0 vs Q E hr h => ?_)
  · obtain ⟨ms, v_model_here, x_model_here, x_half, KM, rfl, _⟩ := h
    rfl
  · obtain ⟨ms, v_model_here, x_model_here, x_half, KM, rfl, hW, h_model_here, hM, hQ⟩ := h
    unfold M_meetings at hM
    refine ⟨_, (pss_cons (ps_par (i := 2) (j := 3) (by rfl) sc_meetings.nd rfl rfl (by decide) rfl rfl (pa_cons (pe_op op_add (pe_op op_mul pe_int (pv 1)) pe_int) (pa_cons pe_dnewT pa_nil)) (by rfl)) (pss_cons (ps_for PassesOwn.never rfl (pi_rangeW1 (by rfl) T.z_range (pa_cons (pe_op op_add (pv 2) pe_int) pa_nil)) (pg_name (i := 4) sc_meetings.nd rfl (by first | exact Or.inl rfl | exact Or.inr rfl)) (pss_one (ps_for PassesOwn.never rfl (pi_rangeW2 (by rfl) T.z_range (pa_cons (pe_op op_add (pv 4) pe_int) (pa_cons (pe_op op_add (pv 2) pe_int) pa_nil))) (pg_name (i := 5) sc_meetings.nd rfl (by first | exact Or.inl rfl | exact Or.inr rfl)) (pss_one (ps_asg (pe_lst pa_nil) (pg_sub (pv 3) (pe_tup (pa_cons (pv 4) (pa_cons (pv 5) pa_nil))) (set_dict (hu_of hr)))))))) (pss_cons (ps_for PassesOwn.never rfl (pi_rangeW1 (by rfl) T.z_range (pa_cons (pv 2) pa_nil)) (pg_name (i := 6) sc_meetings.nd rfl (by first | exact Or.inl rfl | exact Or.inr rfl)) (pss_cons (ps_set (i := 7) sc_meetings.nd rfl (by first | exact Or.inl rfl | exact Or.inr rfl) (pe_call (ok_spotsB T) (hr.mono (by decide)) (by rfl) T.g_spots T.F_spots.kp T.b_spots .nil pass0 (pa_cons (pv 0) (pa_cons (pv 1) (pa_cons (pv 6) pa_nil))))) (pss_cons (ps_expr (pe_bmK (K := K) rfl PySem.F.plainAttrs_list PySem.F.slot_list_append PySem.F.type_list_append mt_append (pe_dget (hu_of hr) (pv 3) (pe_tup (pa_cons (pe_bmK (K := K) rfl PySem.F.plainAttrs_list PySem.F.slot_list_index PySem.F.type_list_index (mt_indexK (K := K) rfl) (pv 7) (pa_cons pe_int pa_nil)) (pa_cons (pv 2) pa_nil))) (fun _ _ => rfl)) (pa_cons (pv 6) pa_nil))) (pss_one (ps_for PassesOwn.never rfl (pi_rangeW1 (by rfl) T.z_range (pa_cons (pv 2) pa_nil)) (pg_name (i := 4) sc_meetings.nd rfl (by first | exact Or.inl rfl | exact Or.inr rfl)) (pss_cons (ps_set (i := 5) sc_meetings.nd rfl (by first | exact Or.inl rfl | exact Or.inr rfl) (pe_bmK (K := K) rfl PySem.F.plainAttrs_list PySem.F.slot_list_index PySem.F.type_list_index (mt_indexK (K := K) rfl) (pv 7) (pa_cons (pe_op op_sub pe_int (pe_ix (ix_listK (K := K) rfl) (pv 7) (pv 4) (fun _ _ => rfl))) pa_nil))) (pss_one (ps_if (pt_cmpR op_lt (pv 4) (pv 5) (nomark _)) (pss_one (ps_expr (pe_bmK (K := K) rfl PySem.F.plainAttrs_list PySem.F.slot_list_append PySem.F.type_list_append mt_append (pe_dget (hu_of hr) (pv 3) (pe_tup (pa_cons (pv 4) (pa_cons (pv 5) pa_nil))) (fun _ _ => rfl)) (pa_cons (pv 6) pa_nil)))) pss_nil)))))))) (pss_one (ps_ret (pv 3)))))), ?_⟩
    have E0 : Ret [] H_0 H_0 := Ret.rfl0
    have hm0 := rep_sub (ms' := ([] : List Addr)) (fun _ z => absurd z List.not_mem_nil) h_model_here
    refine ⟨_, rfl, ?_⟩
    refine ⟨_, _, rfl, rfl, .inl ⟨by decide, by decide⟩, ?_⟩
    refine ⟨_, _, rfl, rfl, ?_⟩
    intro L1 nl2
    have N := nst_nil nl2 E0
    have E : Ret [] H_0 (upd H_0 L1 (.dT [])) := Rx.Ext.new nl2
    generalize upd H_0 L1 (.dT []) = H5 at N E ⊢
    refine ⟨_, _, rfl, ?_⟩
    refine ⟨_, rfl, ?_⟩
    refine ⟨_, _, rfl, rfl, ?_⟩
    refine ⟨_, rfl, ?_⟩
    refine for_rangeG (S := (List (List Key × List Int))) (lo := (0 : Int)) (hi := ((((2 : Int) * x_half) + (1 : Int)) + (1 : Int))) (N := Int.toNat ((((2 : Int) * x_half) + (1 : Int)) + (1 : Int))) (fun (s : (List (List Key × List Int))) σ_ h_ => ∃ (w_0 : Option V), ∃ (w_1 : Option V), σ_ = [some v_model_here, some (V.int x_half), some (V.int (((2 : Int) * x_half) + (1 : Int))), some (V.ref L1), w_0, w_1, none, none] ∧ Ret [] H_0 h_ ∧ Nst H_0 [] h_ L1 s) ([] : (List (List Key × List Int))) (by simp) hM ⟨_, _, rfl, E, N⟩ ?_ ?_
    · skip
      clear N E
      rintro x6 s8 k9 _ H17 ⟨w14, w15, rfl, E, N⟩ hM Nx12 hN13
      refine ⟨_, rfl, ?_⟩
      refine ⟨_, _, rfl, rfl, ?_⟩
      refine ⟨_, rfl, ?_⟩
      refine ⟨_, _, rfl, rfl, ?_⟩
      refine ⟨_, _, rfl, ?_⟩
      refine for_rangeG (S := (List (List Key × List Int))) (lo := (x6 + (1 : Int))) (hi := ((((2 : Int) * x_half) + (1 : Int)) + (1 : Int))) (N := Int.toNat (((((2 : Int) * x_half) + (1 : Int)) + (1 : Int)) - (x6 + (1 : Int)))) (fun (s : (List (List Key × List Int))) σ_ h_ => ∃ (w_0 : Option V), σ_ = [some v_model_here, some (V.int x_half), some (V.int (((2 : Int) * x_half) + (1 : Int))), some (V.ref L1), some (V.int x6), w_0, none, none] ∧ Ret [] H_0 h_ ∧ Nst H_0 [] h_ L1 s) s8 (by simp) hM ⟨_, rfl, E, N⟩ ?_ ?_
      · skip
        clear N E
        rintro x18 s20 k21 _ H28 ⟨w26, rfl, E, N⟩ hM Nx24 hN25
        obtain ⟨⟨g38, g39⟩, hM⟩ := hM
        refine ⟨(by show 0 ≤ sizeLine; decide), ?_⟩
        intro p9 n9
        have p0 : H_0 p9 = none := Classical.byContradiction fun z => E.grow p9 z n9
        have e9 := Rx.Ext.new (H := H28) (o := (HO.lst [])) n9
        have hp9 : upd H28 p9 (HO.lst []) p9 = some (HO.lst []) := upd_same
        replace N := nst_ext e9 (nst_avoid n9 N)
        replace E := ret_new (o := (HO.lst [])) p0 E
        generalize upd H28 p9 (HO.lst []) = H29 at e9 hp9 N E ⊢
        refine ⟨_, rfl, ?_⟩
        refine ⟨_, rfl, ?_⟩
        refine ⟨_, rfl, ?_⟩
        refine ⟨(by show 2 ≤ sizeLine; decide), ?_⟩
        intro p29 n33
        have e30 := Rx.Ext.new (H := H29) (o := (HO.tup [V.int x6, V.int x18])) n33
        have hp31 : upd H29 p29 (HO.tup [V.int x6, V.int x18]) p29 = some (HO.tup [V.int x6, V.int x18]) := upd_same
        replace N := nst_ext e30 N
        replace E := ret_tr E e30
        replace hp9 := Rx.Ext.keep e30 hp9
        generalize upd H29 p29 (HO.tup [V.int x6, V.int x18]) = H34 at e30 hp31 N E hp9 ⊢
        apply nst_put (ks := kfI (x6, x18)) N hp9 p0 (by simp) (tup2_mk hp31) rfl g38 g39 E
        intro H40 N E
        exact hN25 _ _ _ hM ⟨_, rfl, E, N⟩
      · skip
        clear N E
        rintro s41 _ H45 hM ⟨w43, rfl, E, N⟩
        exact hN13 s41 _ _ hM ⟨_, _, rfl, E, N⟩
    · skip
      clear N E
      rintro s46 _ H51 hM ⟨w48, w49, rfl, E, N⟩
      refine ⟨_, rfl, ?_⟩
      refine ⟨_, rfl, ?_⟩
      refine for_rangeG (S := (List (List Key × List Int))) (lo := (0 : Int)) (hi := (((2 : Int) * x_half) + (1 : Int))) (N := Int.toNat (((2 : Int) * x_half) + (1 : Int))) (fun (s : (List (List Key × List Int))) σ_ h_ => ∃ (w_0 : Option V), ∃ (w_1 : Option V), ∃ (w_2 : Option V), ∃ (w_3 : Option V), σ_ = [some v_model_here, some (V.int x_half), some (V.int (((2 : Int) * x_half) + (1 : Int))), some (V.ref L1), w_0, w_1, w_2, w_3] ∧ Ret [] H_0 h_ ∧ Nst H_0 [] h_ L1 s) s46 (by simp) hM ⟨_, _, _, _, rfl, E, N⟩ ?_ ?_
      · skip
        clear N E
        rintro x52 s54 k55 _ H65 ⟨w60, w61, w62, w63, rfl, E, N⟩ hM Nx58 hN59
        refine ⟨_, rfl, ?_⟩
        refine ⟨_, rfl, ?_⟩
        refine ⟨_, rfl, ?_⟩
        refine ⟨([] : List Addr), _, x_model_here, x_half, x52, _, rfl, wd_none_, rep_ext E hm0, hM, fun r66 u69 H70 hM e68 h67 f67 => ?_⟩
        obtain ⟨s, rfl, hs⟩ := ints_at h67
        replace N := nst_ext e68 (nst_avoid (f67 s rfl) N)
        replace E := ret_tr E e68
        clear h67 f67 e68
        refine ⟨_, rfl, ?_⟩
        refine ⟨_, rfl, ?_⟩
        refine ⟨rep_tyL (rep_ints hs), ?_⟩
        obtain ⟨g71, hM⟩ := hM
        apply rep_indexIC (xs := r66) (n := (0 : Int)) (rep_ints hs) g71
        refine ⟨_, rfl, ?_⟩
        refine ⟨(by show 2 ≤ sizeLine; decide), ?_⟩
        intro p72 n76
        have e73 := Rx.Ext.new (H := H70) (o := (HO.tup [V.int ((r66.idxOf (0 : Int) : Nat) : Int), V.int (((2 : Int) * x_half) + (1 : Int))])) n76
        have hp74 : upd H70 p72 (HO.tup [V.int ((r66.idxOf (0 : Int) : Nat) : Int), V.int (((2 : Int) * x_half) + (1 : Int))]) p72 = some (HO.tup [V.int ((r66.idxOf (0 : Int) : Nat) : Int), V.int (((2 : Int) * x_half) + (1 : Int))]) := upd_same
        replace N := nst_ext e73 N
        replace E := ret_tr E e73
        replace hs := Rx.Ext.keep e73 hs
        generalize upd H70 p72 (HO.tup [V.int ((r66.idxOf (0 : Int) : Nat) : Int), V.int (((2 : Int) * x_half) + (1 : Int))]) = H77 at e73 hp74 N E hs ⊢
        obtain ⟨y78, hy79, g80, hM⟩ := hM
        apply nst_get (ks := kfI (((r66.idxOf (0 : Int) : Nat) : Int), (((2 : Int) * x_half) + (1 : Int)))) (y := y78) N (tup2_mk hp74) rfl hy79 E
        intro a9 ha9 aX9 st9
        refine ⟨.inl ⟨rfl, _, .inl (.inl ha9)⟩, ?_⟩
        refine ⟨_, rfl, ?_⟩
        refine ⟨a9, _, _, rfl, rfl, ha9, by rw [List.length_map, sizeLine_eq]; exact g80, ?_⟩
        obtain ⟨N, E⟩ := st9 x52
        replace hs : upd H77 a9 (.lst (y78.map V.int ++ [V.int x52])) s = some (.lst (r66.map V.int)) := by
          rw [upd_ne fun z => aX9 (by rw [← z]; exact List.mem_cons_self)]
          exact hs
        generalize upd H77 a9 (.lst (y78.map V.int ++ [V.int x52])) = H92 at N E hs ⊢
        refine ⟨_, rfl, ?_⟩
        refine ⟨_, rfl, ?_⟩
        refine for_rangeG (S := (List (List Key × List Int))) (lo := (0 : Int)) (hi := (((2 : Int) * x_half) + (1 : Int))) (N := Int.toNat (((2 : Int) * x_half) + (1 : Int))) (fun (s_ : (List (List Key × List Int))) σ_ h_ => ∃ (w_0 : Option V), ∃ (w_1 : Option V), σ_ = [some v_model_here, some (V.int x_half), some (V.int (((2 : Int) * x_half) + (1 : Int))), some (V.ref L1), w_0, w_1, some (V.int x52), some (V.ref s)] ∧ Ret [] H_0 h_ ∧ Nst H_0 [s] h_ L1 s_ ∧ h_ s = some (.lst (r66.map V.int))) (addF s54 (kfI (((r66.idxOf (0 : Int) : Nat) : Int), (((2 : Int) * x_half) + (1 : Int)))) x52) (by simp) hM ⟨_, _, rfl, E, N, hs⟩ ?_ ?_
        · skip
          clear N E hs
          rintro x93 s95 k96 _ H104 ⟨w101, w102, rfl, E, N, hs⟩ hM Nx99 hN100
          refine ⟨_, rfl, ?_⟩
          refine ⟨rep_tyL (rep_ints hs), ?_⟩
          refine ⟨_, rfl, ?_⟩
          refine ⟨_, rfl, ?_⟩
          obtain ⟨g105, g106, hM⟩ := hM
          apply rep_ixL (e := (fun y_ : Int => (D.v (V.int y_)))) (xs := r66) (rep_ints hs) g105 g106
          intro u109 h107
          obtain ⟨x108, x108e⟩ : ∃ x_, x_ = r66[Int.toNat x93]'g106 := ⟨_, rfl⟩
          rw [← x108e] at h107
          replace hM := hM x108 x108e
          obtain rfl := of_v h107
          refine ⟨_, _, rfl, rfl, ?_⟩
          obtain ⟨g110, hM⟩ := hM
          apply rep_indexI (xs := r66) (n := ((0 : Int) - x108)) (rep_ints hs) g110
          refine ⟨_, rfl, ?_⟩
          refine ⟨_, rfl, ?_⟩
          refine ⟨_, _, rfl, rfl, ?_⟩
          refine ⟨_, rfl, ?_⟩
          refine ite3 hM (fun hM => ?_) (fun hM => ?_)
          · skip
            refine ⟨_, rfl, ?_⟩
            refine ⟨_, rfl, ?_⟩
            refine ⟨_, rfl, ?_⟩
            refine ⟨(by show 2 ≤ sizeLine; decide), ?_⟩
            intro p111 n115
            have e112 := Rx.Ext.new (H := H104) (o := (HO.tup [V.int x93, V.int ((r66.idxOf ((0 : Int) - x108) : Nat) : Int)])) n115
            have hp113 : upd H104 p111 (HO.tup [V.int x93, V.int ((r66.idxOf ((0 : Int) - x108) : Nat) : Int)]) p111 = some (HO.tup [V.int x93, V.int ((r66.idxOf ((0 : Int) - x108) : Nat) : Int)]) := upd_same
            replace N := nst_ext e112 N
            replace E := ret_tr E e112
            replace hs := Rx.Ext.keep e112 hs
            generalize upd H104 p111 (HO.tup [V.int x93, V.int ((r66.idxOf ((0 : Int) - x108) : Nat) : Int)]) = H116 at e112 hp113 N E hs ⊢
            obtain ⟨y117, hy118, g119, hM⟩ := hM
            apply nst_get (ks := kfI (x93, ((r66.idxOf ((0 : Int) - x108) : Nat) : Int))) (y := y117) N (tup2_mk hp113) rfl hy118 E
            intro a9 ha9 aX9 st9
            refine ⟨.inl ⟨rfl, _, .inl (.inl ha9)⟩, ?_⟩
            refine ⟨_, rfl, ?_⟩
            refine ⟨a9, _, _, rfl, rfl, ha9, by rw [List.length_map, sizeLine_eq]; exact g119, ?_⟩
            obtain ⟨N, E⟩ := st9 x52
            replace hs : upd H116 a9 (.lst (y117.map V.int ++ [V.int x52])) s = some (.lst (r66.map V.int)) := by
              rw [upd_ne fun z => aX9 (by rw [← z]; exact List.mem_cons_self)]
              exact hs
            exact hN100 _ _ _ hM ⟨_, _, rfl, E, N, hs⟩
          · skip
            exact hN100 s95 _ _ hM ⟨_, _, rfl, E, N, hs⟩
        · skip
          clear N E hs
          rintro s131 _ H136 hM ⟨w133, w134, rfl, E, N, hs⟩
          exact hN59 s131 _ _ hM ⟨_, _, _, _, rfl, E, nst_less N⟩
      · skip
        clear N E
        rintro s137 _ H144 hM ⟨w139, w140, w141, w142, rfl, E, N⟩
        refine ⟨_, rfl, ?_⟩
        exact hQ s137 _ _ hM E (nst_rep (fun a z m => hW.tr a m z) N) (fun p_ e_ => by cases e_; exact N.h0)

def M_Word_least (x_self : (Str × Str × Str)) (KM : Int → Prop) : Prop :=
  (x_self.1.length ≤ sizeLine ∧ (x_self.2.2.length ≤ sizeLine ∧ (KM (if ((x_self.1.length : Int) + (x_self.2.2.length : Int)) > (1 : Int) then ((x_self.1.length : Int) + (x_self.2.2.length : Int)) else (1 : Int)))))
def sp_Word_least (A : Ad) : Sp := fun vs H Q _ => ∃ (ms : List Addr) (v_self : V) (x_self : (Str × Str × Str)) (KM : Int → Prop), vs = [v_self] ∧ Wd ms [] [] H H ∧ rep ms H (eWord A x_self) v_self ∧ M_Word_least x_self KM ∧ ∀ (r : Int) (u : V) (H1 : Hp), KM r → Ret [] H H1 → rep ms H1 (D.v (V.int r)) u → Q u H1
set_option maxHeartbeats 16000000 in
theorem ok_Word_least {P : Program} {w : World} {K : PySem.W.Frag} {mg : Str → Option Value} {base : Heap} {A : Ad} (T : Txt w K mg A) : FnOk P w K mg base CX0 1 A.a_Word_least A.d_Word_least ["self"] (sp_Word_least A) := by
  refine T.F_Word_least.ok sc_Word_least (fun vs H Q E h => ?_) (fun cdv A_ outer s_ H_0 vs Q E hr h => ?_)
  · obtain ⟨ms, v_self, x_self, KM, rfl, _⟩ := h
    rfl
  · obtain ⟨ms, v_self, x_self, KM, rfl, hW, h_self, hM, hQ⟩ := h
    unfold M_Word_least at hM
    refine ⟨_, (pss_one (ps_ret (pe_callB (call_max2 rfl) (by rfl) T.z_max (by decide +kernel) (pa_cons pe_int (pa_cons (pe_op op_add (pe_callB call_len_str (by rfl) T.z_len PySem.boot_len (pa_cons (pe_fld (pv 0) rfl) pa_nil)) (pe_callB call_len_str (by rfl) T.z_len PySem.boot_len (pa_cons (pe_fld (pv 0) rfl) pa_nil))) pa_nil))))), ?_⟩
    refine ⟨_, rfl, ?_⟩
    apply rep_fld (j := 0) h_self T.cl_Word T.na_Word__head nd_Word rfl rfl
    intro u2 h1
    obtain rfl := of_v h1
    obtain ⟨g3, hM⟩ := hM
    refine ⟨_, rfl, g3, ?_⟩
    refine ⟨_, rfl, ?_⟩
    apply rep_fld (j := 2) h_self T.cl_Word T.na_Word__tail nd_Word rfl rfl
    intro u5 h4
    obtain rfl := of_v h4
    obtain ⟨g6, hM⟩ := hM
    refine ⟨_, rfl, g6, ?_⟩
    refine ⟨_, _, rfl, rfl, ?_⟩
    refine ⟨_, _, rfl, ?_⟩
    exact hQ (if ((x_self.1.length : Int) + (x_self.2.2.length : Int)) > (1 : Int) then ((x_self.1.length : Int) + (x_self.2.2.length : Int)) else (1 : Int)) _ _ hM hW.out rep_v
def M_Rule_least_size (x_self : (Int × (Str × Str × Str) × Str × Bool)) (KM : Int → Prop) : Prop :=
  (M_Word_least x_self.2.1 fun r4 => (KM (((2 : Int) * r4) + (2 : Int))))
def sp_Rule_least_size (A : Ad) : Sp := fun vs H Q _ => ∃ (ms : List Addr) (v_self : V) (x_self : (Int × (Str × Str × Str) × Str × Bool)) (KM : Int → Prop), vs = [v_self] ∧ Wd ms [] [] H H ∧ rep ms H (eRule A x_self) v_self ∧ M_Rule_least_size x_self KM ∧ ∀ (r : Int) (u : V) (H1 : Hp), KM r → Ret [] H H1 → rep ms H1 (D.v (V.int r)) u → Q u H1
set_option maxHeartbeats 16000000 in
theorem ok_Rule_least_size {P : Program} {w : World} {K : PySem.W.Frag} {mg : Str → Option Value} {base : Heap} {A : Ad} (T : Txt w K mg A) : FnOk P w K mg base CX0 3 A.a_Rule_least_size A.d_Rule_least_size ["self"] (sp_Rule_least_size A) := by
  refine T.F_Rule_least_size.ok sc_Rule_least_size (fun vs H Q E h => ?_) (fun cdv A_ outer s_ H_0 vs Q E hr h => ?_)
  · obtain ⟨ms, v_self, x_self, KM, rfl, _⟩ := h
    rfl
  · obtain ⟨ms, v_self, x_self, KM, rfl, hW, h_self, hM, hQ⟩ := h
    unfold M_Rule_least_size at hM
    refine ⟨_, (pss_one (ps_ret (pe_op op_add (pe_op op_mul pe_int (pe_prop (pe_fld (pv 0) rfl) T.cl_Word T.p_Word_least (ok_Word_least T) (hr.mono (by decide)) T.b_Word_least .nil pass0 rfl)) pe_int))), ?_⟩
    refine ⟨_, rfl, ?_⟩
    apply rep_fld (j := 1) h_self T.cl_Rule T.na_Rule__word nd_Rule rfl rfl
    intro u2 h1
    apply rep_prop h1
    intro _ h3
    refine ⟨ms, _, x_self.2.1, _, rfl, hW.enter0, h3, hM, fun r4 u7 H8 hM e6 h5 => ?_⟩
    replace h_self := rep_ext e6 h_self
    replace h1 := rep_ext e6 h1
    replace hW := hW.ret0 e6
    obtain rfl := of_v h5
    refine ⟨_, _, rfl, rfl, .inl ⟨by decide, by decide⟩, ?_⟩
    refine ⟨_, _, rfl, rfl, ?_⟩
    exact hQ (((2 : Int) * r4) + (2 : Int)) _ _ hM hW.out rep_v
def M_is_size (x_rule : (Int × (Str × Str × Str) × Str × Bool)) (x_value : Int) (KM : Bool → Prop) : Prop :=
  (M_is_integer x_value fun r1 => (if r1 = true then (M_Rule_least_size x_rule fun r7 => (if (decide (r7 ≤ x_value)) = true then (KM (decide (V.int (x_value % (2 : Int)) = V.int (0 : Int)))) else (KM false))) else (KM false)))
def sp_is_size (A : Ad) : Sp := fun vs H Q _ => ∃ (ms : List Addr) (v_rule : V) (x_rule : (Int × (Str × Str × Str) × Str × Bool)) (x_value : Int) (KM : Bool → Prop), vs = [v_rule, V.int x_value] ∧ Wd ms [] [] H H ∧ rep ms H (eRule A x_rule) v_rule ∧ M_is_size x_rule x_value KM ∧ ∀ (r : Bool) (u : V) (H1 : Hp), KM r → Ret [] H H1 → rep ms H1 (D.v (V.bl r)) u → Q u H1
set_option maxHeartbeats 16000000 in
theorem ok_is_size {P : Program} {w : World} {K : PySem.W.Frag} {mg : Str → Option Value} {base : Heap} {A : Ad} (T : Txt w K mg A) : FnOk P w K mg base CX0 5 A.a_is_size A.d_is_size ["rule", "value"] (sp_is_size A) := by
  refine T.F_is_size.ok sc_is_size (fun vs H Q E h => ?_) (fun cdv A_ outer s_ H_0 vs Q E hr h => ?_)
  · obtain ⟨ms, v_rule, x_rule, x_value, KM, rfl, _⟩ := h
    rfl
  · obtain ⟨ms, v_rule, x_rule, x_value, KM, rfl, hW, h_rule, hM, hQ⟩ := h
    unfold M_is_size at hM
    refine ⟨_, (pss_one (ps_ret (pe_and (pe_call (ok_is_integer T) (hr.mono (by decide)) (by rfl) T.g_is_integer T.F_is_integer.kp T.b_is_integer .nil pass0 (pa_cons (pv 1) pa_nil)) (pe_and (pe_cmpR op_ge (pv 1) (pe_prop (pv 0) T.cl_Rule T.p_Rule_least_size (ok_Rule_least_size T) (hr.mono (by decide)) T.b_Rule_least_size .nil pass0 rfl) (nomark _)) (pe_one (pe_cmpR op_eq (pe_op op_mod (pv 1) pe_int) pe_int (nomark _))))))), ?_⟩
    refine ⟨_, rfl, ?_⟩
    refine ⟨ms, x_value, _, rfl, hW.enter0, hM, fun r1 u4 H5 hM e3 h2 => ?_⟩
    replace h_rule := rep_ext e3 h_rule
    replace hW := hW.ret0 e3
    obtain rfl := of_v h2
    refine ⟨_, rfl, ?_⟩
    refine ite3 hM (fun hM => ?_) (fun hM => ?_)
    · skip
      refine ⟨_, rfl, ?_⟩
      refine ⟨_, rfl, ?_⟩
      apply rep_prop h_rule
      intro _ h6
      refine ⟨ms, _, x_rule, _, rfl, hW.enter0, h6, hM, fun r7 u10 H11 hM e9 h8 => ?_⟩
      replace h_rule := rep_ext e9 h_rule
      replace hW := hW.ret0 e9
      obtain rfl := of_v h8
      refine ⟨_, _, rfl, rfl, ?_⟩
      refine ⟨_, rfl, ?_⟩
      refine ite3 hM (fun hM => ?_) (fun hM => ?_)
      · skip
        refine ⟨_, rfl, ?_⟩
        refine ⟨_, _, rfl, rfl, (by show (0 : Int) < (2 : Int); decide), ?_⟩
        refine ⟨rfl, ?_⟩
        exact hQ (decide (V.int (x_value % (2 : Int)) = V.int (0 : Int))) _ _ hM hW.out rep_v
      · skip
        exact hQ false _ _ hM hW.out rep_v
    · skip
      exact hQ false _ _ hM hW.out rep_v
def M_check_size (x_rule : (Int × (Str × Str × Str) × Str × Bool)) (x_size : Int) (KM : Unit → Prop) : Prop :=
  (M_is_size x_rule x_size fun r1 => (if (!r1) = true then False else (KM ())))
def sp_check_size (A : Ad) : Sp := fun vs H Q _ => ∃ (ms : List Addr) (v_rule : V) (x_rule : (Int × (Str × Str × Str) × Str × Bool)) (x_size : Int) (KM : Unit → Prop), vs = [v_rule, V.int x_size] ∧ Wd ms [] [] H H ∧ rep ms H (eRule A x_rule) v_rule ∧ M_check_size x_rule x_size KM ∧ ∀ (r : Unit) (u : V) (H1 : Hp), KM r → Ret [] H H1 → rep ms H1 (D.v V.non) u → Q u H1
set_option maxHeartbeats 16000000 in
theorem ok_check_size {P : Program} {w : World} {K : PySem.W.Frag} {mg : Str → Option Value} {base : Heap} {A : Ad} (T : Txt w K mg A) : FnOk P w K mg base CX0 6 A.a_check_size A.d_check_size ["rule", "size"] (sp_check_size A) := by
  refine T.F_check_size.ok sc_check_size (fun vs H Q E h => ?_) (fun cdv A_ outer s_ H_0 vs Q E hr h => ?_)
  · obtain ⟨ms, v_rule, x_rule, x_size, KM, rfl, _⟩ := h
    rfl
  · obtain ⟨ms, v_rule, x_rule, x_size, KM, rfl, hW, h_rule, hM, hQ⟩ := h
    unfold M_check_size at hM
    refine ⟨_, (pss_one (ps_if (pt_not (pt_val (pe_call (ok_is_size T) (hr.mono (by decide)) (by rfl) T.g_is_size T.F_is_size.kp T.b_is_size .nil pass0 (pa_cons (pv 0) (pa_cons (pv 1) pa_nil))))) (pss_one ps_never) pss_nil)), ?_⟩
    refine ⟨_, rfl, ?_⟩
    refine ⟨_, rfl, ?_⟩
    refine ⟨ms, _, x_rule, x_size, _, rfl, hW.enter0, h_rule, hM, fun r1 u4 H5 hM e3 h2 => ?_⟩
    replace h_rule := rep_ext e3 h_rule
    replace hW := hW.ret0 e3
    obtain rfl := of_v h2
    refine ⟨_, rfl, ?_⟩
    refine ite3 hM (fun hM => ?_) (fun hM => ?_)
    · skip
      exact hM
    · skip
      exact hQ () _ _ hM hW.out rep_v
def M_is_count (x_value : Int) (KM : Bool → Prop) : Prop :=
  (M_is_integer x_value fun r1 => (if r1 = true then (KM (decide ((0 : Int) ≤ x_value))) else (KM false)))
def sp_is_count (A : Ad) : Sp := fun vs H Q _ => ∃ (ms : List Addr) (x_value : Int) (KM : Bool → Prop), vs = [V.int x_value] ∧ Wd ms [] [] H H ∧ M_is_count x_value KM ∧ ∀ (r : Bool) (u : V) (H1 : Hp), KM r → Ret [] H H1 → rep ms H1 (D.v (V.bl r)) u → Q u H1
set_option maxHeartbeats 16000000 in
theorem ok_is_count {P : Program} {w : World} {K : PySem.W.Frag} {mg : Str → Option Value} {base : Heap} {A : Ad} (T : Txt w K mg A) : FnOk P w K mg base CX0 2 A.a_is_count A.d_is_count ["value"] (sp_is_count A) := by
  refine T.F_is_count.ok sc_is_count (fun vs H Q E h => ?_) (fun cdv A_ outer s_ H_0 vs Q E hr h => ?_)
  · obtain ⟨ms, x_value, KM, rfl, _⟩ := h
    rfl
  · obtain ⟨ms, x_value, KM, rfl, hW, hM, hQ⟩ := h
    unfold M_is_count at hM
    refine ⟨_, (pss_one (ps_ret (pe_and (pe_call (ok_is_integer T) (hr.mono (by decide)) (by rfl) T.g_is_integer T.F_is_integer.kp T.b_is_integer .nil pass0 (pa_cons (pv 0) pa_nil)) (pe_one (pe_cmpR op_ge (pv 0) pe_int (nomark _)))))), ?_⟩
    refine ⟨_, rfl, ?_⟩
    refine ⟨ms, x_value, _, rfl, hW.enter0, hM, fun r1 u4 H5 hM e3 h2 => ?_⟩
    replace hW := hW.ret0 e3
    obtain rfl := of_v h2
    refine ⟨_, rfl, ?_⟩
    refine ite3 hM (fun hM => ?_) (fun hM => ?_)
    · skip
      refine ⟨_, rfl, ?_⟩
      refine ⟨_, _, rfl, rfl, ?_⟩
      exact hQ (decide ((0 : Int) ≤ x_value)) _ _ hM hW.out rep_v
    · skip
      exact hQ false _ _ hM hW.out rep_v
def M_check_team (x_team : Int) (x_teams : Int) (KM : Unit → Prop) : Prop :=
  (M_is_count x_team fun r1 => (if (!r1) = true then False else (if (decide (x_teams ≤ x_team)) = true then False else (KM ()))))
def sp_check_team (A : Ad) : Sp := fun vs H Q _ => ∃ (ms : List Addr) (x_team : Int) (x_teams : Int) (KM : Unit → Prop), vs = [V.int x_team, V.int x_teams] ∧ Wd ms [] [] H H ∧ M_check_team x_team x_teams KM ∧ ∀ (r : Unit) (u : V) (H1 : Hp), KM r → Ret [] H H1 → rep ms H1 (D.v V.non) u → Q u H1
set_option maxHeartbeats 16000000 in
theorem ok_check_team {P : Program} {w : World} {K : PySem.W.Frag} {mg : Str → Option Value} {base : Heap} {A : Ad} (T : Txt w K mg A) : FnOk P w K mg base CX0 3 A.a_check_team A.d_check_team ["team", "teams"] (sp_check_team A) := by
  refine T.F_check_team.ok sc_check_team (fun vs H Q E h => ?_) (fun cdv A_ outer s_ H_0 vs Q E hr h => ?_)
  · obtain ⟨ms, x_team, x_teams, KM, rfl, _⟩ := h
    rfl
  · obtain ⟨ms, x_team, x_teams, KM, rfl, hW, hM, hQ⟩ := h
    unfold M_check_team at hM
    refine ⟨_, (pss_one (ps_if (PW.pt (pw_or (pt_not (pt_val (pe_call (ok_is_count T) (hr.mono (by decide)) (by rfl) T.g_is_count T.F_is_count.kp T.b_is_count .nil pass0 (pa_cons (pv 0) pa_nil)))) (pw_or1 (pt_cmpR op_ge (pv 0) (pv 1) (nomark _))))) (pss_one ps_never) pss_nil)), ?_⟩
    refine ⟨_, rfl, ?_⟩
    refine ⟨ms, x_team, _, rfl, hW.enter0, hM, fun r1 u4 H5 hM e3 h2 => ?_⟩
    replace hW := hW.ret0 e3
    obtain rfl := of_v h2
    refine ⟨_, rfl, ?_⟩
    refine ite3 hM (fun hM => ?_) (fun hM => ?_)
    · skip
      refine iteT ?_
      exact hM
    · skip
      refine ⟨_, rfl, ?_⟩
      refine ⟨_, rfl, ?_⟩
      refine ⟨_, _, rfl, rfl, ?_⟩
      refine ⟨_, rfl, ?_⟩
      refine ite3 hM (fun hM => ?_) (fun hM => ?_)
      · skip
        exact hM
      · skip
        exact hQ () _ _ hM hW.out rep_v
def M_check_pair (x_one : Int) (x_other : Int) (x_teams : Int) (KM : Unit → Prop) : Prop :=
  (M_check_team x_one x_teams fun r1 => (M_check_team x_other x_teams fun r6 => (if (decide (V.int x_one = V.int x_other)) = true then False else (KM ()))))
def sp_check_pair (A : Ad) : Sp := fun vs H Q _ => ∃ (ms : List Addr) (x_one : Int) (x_other : Int) (x_teams : Int) (KM : Unit → Prop), vs = [V.int x_one, V.int x_other, V.int x_teams] ∧ Wd ms [] [] H H ∧ M_check_pair x_one x_other x_teams KM ∧ ∀ (r : Unit) (u : V) (H1 : Hp), KM r → Ret [] H H1 → rep ms H1 (D.v V.non) u → Q u H1
set_option maxHeartbeats 16000000 in
theorem ok_check_pair {P : Program} {w : World} {K : PySem.W.Frag} {mg : Str → Option Value} {base : Heap} {A : Ad} (T : Txt w K mg A) : FnOk P w K mg base CX0 4 A.a_check_pair A.d_check_pair ["one", "other", "teams"] (sp_check_pair A) := by
  refine T.F_check_pair.ok sc_check_pair (fun vs H Q E h => ?_) (fun cdv A_ outer s_ H_0 vs Q E hr h => ?_)
  · obtain ⟨ms, x_one, x_other, x_teams, KM, rfl, _⟩ := h
    rfl
  · obtain ⟨ms, x_one, x_other, x_teams, KM, rfl, hW, hM, hQ⟩ := h
    unfold M_check_pair at hM
    refine ⟨_, (pss_cons (ps_expr (pe_call (ok_check_team T) (hr.mono (by decide)) (by rfl) T.g_check_team T.F_check_team.kp T.b_check_team .nil pass0 (pa_cons (pv 0) (pa_cons (pv 2) pa_nil)))) (pss_cons (ps_expr (pe_call (ok_check_team T) (hr.mono (by decide)) (by rfl) T.g_check_team T.F_check_team.kp T.b_check_team .nil pass0 (pa_cons (pv 1) (pa_cons (pv 2) pa_nil)))) (pss_one (ps_if (pt_cmpR op_eq (pv 0) (pv 1) (nomark _)) (pss_one ps_never) pss_nil)))), ?_⟩
    refine ⟨_, rfl, ?_⟩
    refine ⟨_, rfl, ?_⟩
    refine ⟨ms, x_one, x_teams, _, rfl, hW.enter0, hM, fun r1 u4 H5 hM e3 h2 => ?_⟩
    replace hW := hW.ret0 e3
    obtain rfl := of_v h2
    refine ⟨_, rfl, ?_⟩
    refine ⟨_, rfl, ?_⟩
    refine ⟨ms, x_other, x_teams, _, rfl, hW.enter0, hM, fun r6 u9 H10 hM e8 h7 => ?_⟩
    replace hW := hW.ret0 e8
    obtain rfl := of_v h7
    refine ⟨_, rfl, ?_⟩
    refine ⟨_, rfl, ?_⟩
    refine ⟨rfl, ?_⟩
    refine ⟨_, rfl, ?_⟩
    refine ite3 hM (fun hM => ?_) (fun hM => ?_)
    · skip
      exact hM
    · skip
      exact hQ () _ _ hM hW.out rep_v
def M_Rule_step (x_self : (Int × (Str × Str × Str) × Str × Bool)) (KM : Int → Prop) : Prop :=
  (KM x_self.1)
def sp_Rule_step (A : Ad) : Sp := fun vs H Q _ => ∃ (ms : List Addr) (v_self : V) (x_self : (Int × (Str × Str × Str) × Str × Bool)) (KM : Int → Prop), vs = [v_self] ∧ Wd ms [] [] H H ∧ rep ms H (eRule A x_self) v_self ∧ M_Rule_step x_self KM ∧ ∀ (r : Int) (u : V) (H1 : Hp), KM r → Ret [] H H1 → rep ms H1 (D.v (V.int r)) u → Q u H1
set_option maxHeartbeats 16000000 in
theorem ok_Rule_step {P : Program} {w : World} {K : PySem.W.Frag} {mg : Str → Option Value} {base : Heap} {A : Ad} (T : Txt w K mg A) : FnOk P w K mg base CX0 1 A.a_Rule_step A.d_Rule_step ["self"] (sp_Rule_step A) := by
  refine T.F_Rule_step.ok sc_Rule_step (fun vs H Q E h => ?_) (fun cdv A_ outer s_ H_0 vs Q E hr h => ?_)
  · obtain ⟨ms, v_self, x_self, KM, rfl, _⟩ := h
    rfl
  · obtain ⟨ms, v_self, x_self, KM, rfl, hW, h_self, hM, hQ⟩ := h
    unfold M_Rule_step at hM
    refine ⟨_, (pss_one (ps_ret (pe_fld (pv 0) rfl))), ?_⟩
    refine ⟨_, rfl, ?_⟩
    apply rep_fld (j := 0) h_self T.cl_Rule T.na_Rule__step nd_Rule rfl rfl
    intro u2 h1
    obtain rfl := of_v h1
    exact hQ x_self.1 _ _ hM hW.out rep_v
def M_rounds_at (x_step : Int) (x_places : Int) (x_ring : Int) (KM : (List Int) → Prop) : Prop :=
  (∃ KB1 : Int → Prop, (if (decide ((0 : Int) < x_step)) = true then (0 < x_ring ∧ (KB1 (x_places % x_ring))) else (0 < x_ring ∧ (KB1 ((-x_places) % x_ring)))) ∧ ∀ r6 : Int, KB1 r6 → ((rangeI (0 : Int) (if x_step < 0 then -x_step else x_step)).length < 100000 ∧ mapC (fun (x20 : Int) (k13 : Int → Prop) => (CMulW x_ring x20 ∧ (k13 (r6 + (x_ring * x20))))) (rangeI (0 : Int) (if x_step < 0 then -x_step else x_step)) [] fun ys32 => (ys32.length < 100000 ∧ filC (fun (x51 : Int) (k44 : Option Int → Prop) => (0 < (if x_step < 0 then -x_step else x_step) ∧ (if (decide (V.int (x51 % (if x_step < 0 then -x_step else x_step)) = V.int (0 : Int))) = true then (CDivW x51 (if x_step < 0 then -x_step else x_step) ∧ (k44 (some (x51 / (if x_step < 0 then -x_step else x_step))))) else (k44 none)))) ys32 [] fun ys64 => (KM ys64))))
def sp_rounds_at (A : Ad) : Sp := fun vs H Q _ => ∃ (ms : List Addr) (x_step : Int) (x_places : Int) (x_ring : Int) (KM : (List Int) → Prop), vs = [V.int x_step, V.int x_places, V.int x_ring] ∧ Wd ms [] [] H H ∧ M_rounds_at x_step x_places x_ring KM ∧ ∀ (r : (List Int)) (u : V) (H1 : Hp), KM r → Ret [] H H1 → rep ms H1 (D.lst (r.map (fun y_ : Int => (D.v (V.int y_))))) u → (∀ p_, u = V.ref p_ → H p_ = none) → Q u H1
set_option maxHeartbeats 16000000 in
theorem ok_rounds_at {P : Program} {w : World} {K : PySem.W.Frag} {mg : Str → Option Value} {base : Heap} {A : Ad} (T : Txt w K mg A) : FnOk P w K mg base CX0 1 A.a_rounds_at A.d_rounds_at ["step", "places", "ring"] (sp_rounds_at A) := by
  refine T.F_rounds_at.ok sc_rounds_at (fun vs H Q E h => ?_) (fun cdv A_ outer s_ H_0 vs Q E hr h => ?_)
  · obtain ⟨ms, x_step, x_places, x_ring, KM, rfl, _⟩ := h
    rfl
  · obtain ⟨ms, x_step, x_places, x_ring, KM, rfl, hW, hM, hQ⟩ := h
    unfold M_rounds_at at hM
    refine ⟨_, (pss_cons (ps_set (i := 3) sc_rounds_at.nd rfl (by first | exact Or.inl rfl | exact Or.inr rfl) (pe_callB call_abs (by rfl) T.z_abs (by decide +kernel) (pa_cons (pv 0) pa_nil))) (pss_cons (ps_set (i := 4) sc_rounds_at.nd rfl (by first | exact Or.inl rfl | exact Or.inr rfl) (pe_up (pe_ifExp (pt_cmpR op_gt (pv 0) pe_int (nomark _)) (pe_op op_mod (pv 1) (pv 2)) (pe_op op_mod (pe_un un_neg (pv 1)) (pv 2))))) (pss_cons (ps_setLc (i := 5) (own := [("lap", 6)]) (g := gName 6) rfl sc_rounds_at.nd rfl rfl (sw_true rfl rfl rfl (by decide +kernel)) (pi_rangeW1 (by rfl) T.z_range (pa_cons (pv 3) pa_nil)) (blkOk_by (N := ["step", "places", "ring", "steps", "rest", "goals", "lap", "goal"]) (sc := defScope s_rounds_at) (by decide +kernel)) (fun _ _ _ _ _ => pg_name (i := 6) sc_rounds_at.nd rfl (by first | exact Or.inl rfl | exact Or.inr rfl)) (fun _ _ _ _ _ => pts_nil) (fun _ _ _ _ _ => (pe_op op_add (pv 4) (pe_op op_mulW (pv 2) (pv 6))))) (pss_one (ps_ret (pe_lc (own := [("goal", 7)]) (g := gName 7) rfl sc_rounds_at.nd (pi_list (pv 5)) (blkOk_by (N := ["step", "places", "ring", "steps", "rest", "goals", "lap", "goal"]) (sc := defScope s_rounds_at) (by decide +kernel)) (fun _ _ _ _ _ => pg_name (i := 7) sc_rounds_at.nd rfl (by first | exact Or.inl rfl | exact Or.inr rfl)) (fun _ _ _ _ _ => (pts_one (pt_cmpR op_eq (pe_op op_mod (pv 7) (pv 3)) pe_int (nomark _)))) (fun _ _ _ _ _ => (pe_op op_fdivW (pv 7) (pv 3))))))))), ?_⟩
    refine ⟨_, rfl, ?_⟩
    refine ⟨_, rfl, ?_⟩
    obtain ⟨KB1, hM, hKKB1⟩ := hM
    refine ⟨fun v H1 => ∃ r : Int, KB1 r ∧ Wd ms [] [] H_0 H1 ∧ Keep ms H_0 H1 ∧ rep ms H1 (D.v (V.int r)) v, ?_, ?_⟩
    · skip
      have hj3 := Keep.refl (ms := ms) (H := H_0)
      refine ⟨_, rfl, ?_⟩
      refine ⟨_, _, rfl, rfl, ?_⟩
      refine ⟨_, rfl, ?_⟩
      refine ite3 hM (fun hM => ?_) (fun hM => ?_)
      · skip
        refine ⟨_, rfl, ?_⟩
        refine ⟨_, rfl, ?_⟩
        obtain ⟨g4, hM⟩ := hM
        refine ⟨_, _, rfl, rfl, g4, ?_⟩
        exact ⟨(x_places % x_ring), hM, hW, hj3, rep_v⟩
      · skip
        refine ⟨_, rfl, ?_⟩
        refine ⟨_, rfl, ?_⟩
        refine ⟨_, rfl, ?_⟩
        obtain ⟨g5, hM⟩ := hM
        refine ⟨_, _, rfl, rfl, g5, ?_⟩
        exact ⟨((-x_places) % x_ring), hM, hW, hj3, rep_v⟩
    · skip
      rintro u8 Hj2 ⟨r6, hr, hW, hj3, h7⟩
      replace hM := hKKB1 r6 hr
      obtain rfl := of_v h7
      refine ⟨_, rfl, ?_⟩
      refine ⟨_, rfl, ?_⟩
      refine fun L9 nl10 => ?_
      have nm24 := nm_new hW nl10
      refine lc_rangeG (L := L9) (fun n_ ys_ h_ => Wd (L9 :: ms) [] [] H_0 h_ ∧ Keep (L9 :: ms) Hj2 h_ ∧ MutO (L9 :: ms) [] H_0 h_ L9 (D.lst (ys_.map (fun y_ : Int => (D.v (V.int y_))))) ∧ ys_.length ≤ n_) (lo := (0 : Int)) (hi := (if x_step < 0 then -x_step else x_step)) (N := Int.toNat (if x_step < 0 then -x_step else x_step)) (by simp) hM ⟨wd_cell hW nl10, keep_cell nl10 Keep.refl, mo_newL (ds := []) hW nl10 repL_nil, Nat.le_refl _⟩ ?_ ?_
      · skip
        rintro x20  n11 ys12 k13 H25 hn ⟨hW, hk14, mu15, ln16⟩ hM Nx19 hN17
        refine ⟨rfl, ?_⟩
        refine tyes_of ?_
        refine ⟨_, rfl, ?_⟩
        refine ⟨_, rfl, ?_⟩
        refine ⟨_, rfl, ?_⟩
        obtain ⟨g26, hM⟩ := hM
        refine ⟨_, _, rfl, rfl, g26, ?_⟩
        refine ⟨_, _, rfl, rfl, ?_⟩
        refine mo_end mu15 hn (by rw [List.length_map]; exact ln16) fun vs27 hr28 => ?_
        have mk30 := mo_setL mu15 (repL_snoc (e := (fun y_ : Int => (D.v (V.int y_)))) (xs := ys12) (y := (r6 + (x_ring * x20))) hr28 rep_v)
        replace hk14 := keep_put (o := .lst (vs27 ++ [V.int (r6 + (x_ring * x20))])) mu15.im hk14
        replace hW := wd_put (o := .lst (vs27 ++ [V.int (r6 + (x_ring * x20))])) hW mu15
        replace mu15 := mk30
        generalize upd H25 L9 (.lst (vs27 ++ [V.int (r6 + (x_ring * x20))])) = H31 at *
        replace mu15 : MutO (L9 :: ms) [] H_0 H31 L9 (D.lst ((ys12 ++ [(r6 + (x_ring * x20))]).map (fun y_ : Int => (D.v (V.int y_))))) := mu15
        clear mk30
        exact hN17 (r6 + (x_ring * x20)) _ hM ⟨hW, hk14, mu15, by rw [List.length_append]; exact Nat.add_le_add_right ln16 1⟩
      · skip
        rintro n11 ys32 H33 hM ⟨hW, hk14, mu15, ln16⟩
        clear hk14 ln16
        have h34 := mo_rep_dr dr_here nm24 mu15
        replace hW := wd_dr dr_here mu15.hp hW
        clear mu15
        refine ⟨_, rfl, ?_⟩
        apply rep_iter h34
        intro a35 xs36 _ an37 hp38 hl39
        refine fun L40 nl41 => ?_
        have nm55 := nm_new hW nl41
        refine lf_listG (L := L40) (fun n_ ys_ h_ => Wd (L40 :: ms) [] [] H_0 h_ ∧ Keep (L40 :: ms) H33 h_ ∧ MutO (L40 :: ms) [] H_0 h_ L40 (D.lst (ys_.map (fun y_ : Int => (D.v (V.int y_))))) ∧ ys_.length ≤ n_) (items := ys32) (e := (fun y_ : Int => (D.v (V.int y_)))) an37 hp38 hl39 nl41 (fun _ _ _ q_ => q_.2.1) hM ⟨wd_cell hW nl41, keep_cell nl41 Keep.refl, mo_newL (ds := []) hW nl41 repL_nil, Nat.le_refl _⟩ ?_ ?_
        · skip
          rintro x51 u52 n42 ys43 k44 H56 hn ⟨hW, hk45, mu46, ln47⟩ h53 hM Nx50 hN48 hNn49
          replace h34 := rep_keep hk45 (rep_new nl41 h34)
          obtain rfl := of_v h53
          refine ⟨rfl, ?_⟩
          refine ⟨_, rfl, ?_⟩
          refine ⟨_, rfl, ?_⟩
          obtain ⟨g57, hM⟩ := hM
          refine ⟨_, _, rfl, rfl, g57, ?_⟩
          refine ⟨rfl, ?_⟩
          refine ⟨_, rfl, ?_⟩
          refine ite3 hM (fun hM => ?_) (fun hM => ?_)
          · skip
            refine ⟨_, rfl, ?_⟩
            refine ⟨_, rfl, ?_⟩
            obtain ⟨g58, hM⟩ := hM
            refine ⟨_, _, rfl, rfl, g58, ?_⟩
            refine mo_end mu46 hn (by rw [List.length_map]; exact ln47) fun vs59 hr60 => ?_
            have mk62 := mo_setL mu46 (repL_snoc (e := (fun y_ : Int => (D.v (V.int y_)))) (xs := ys43) (y := (x51 / (if x_step < 0 then -x_step else x_step))) hr60 rep_v)
            replace h34 := rep_put (o := .lst (vs59 ++ [V.int (x51 / (if x_step < 0 then -x_step else x_step))])) mu46.im h34
            replace hk45 := keep_put (o := .lst (vs59 ++ [V.int (x51 / (if x_step < 0 then -x_step else x_step))])) mu46.im hk45
            replace hW := wd_put (o := .lst (vs59 ++ [V.int (x51 / (if x_step < 0 then -x_step else x_step))])) hW mu46
            replace mu46 := mk62
            generalize upd H56 L40 (.lst (vs59 ++ [V.int (x51 / (if x_step < 0 then -x_step else x_step))])) = H63 at *
            replace mu46 : MutO (L40 :: ms) [] H_0 H63 L40 (D.lst ((ys43 ++ [(x51 / (if x_step < 0 then -x_step else x_step))]).map (fun y_ : Int => (D.v (V.int y_))))) := mu46
            clear mk62
            exact hN48 (x51 / (if x_step < 0 then -x_step else x_step)) _ hM ⟨hW, hk45, mu46, by rw [List.length_append]; exact Nat.add_le_add_right ln47 1⟩
          · skip
            exact hNn49 _ hM ⟨hW, hk45, mu46, Nat.le_succ_of_le ln47⟩
        · skip
          rintro n42 ys64 H65 hM ⟨hW, hk45, mu46, ln47⟩
          replace h34 := rep_keep hk45 (rep_new nl41 h34)
          clear hk45 ln47
          have hfr_ := mu46.h0
          have h66 := mo_rep_dr dr_here nm55 mu46
          replace hW := wd_dr dr_here mu46.hp hW
          replace h34 := rep_dr dr_here h34
          clear mu46
          exact hQ ys64 _ _ hM hW.out h66 (fun _ z_ => by cases z_; exact hfr_)
def M_rounds_of (x_rule : (Int × (Str × Str × Str) × Str × Bool)) (x_size : Int) (x_one : Int) (x_other : Int) (KM : (List Int) → Prop) : Prop :=
  (M_check_size x_rule x_size fun r1 => (M_check_pair x_one x_other x_size fun r6 => (if (decide (V.int x_one = V.int (x_size - (1 : Int)))) = true then (M_Rule_step x_rule fun r12 => (M_rounds_at r12 x_other (x_size - (1 : Int)) fun r17 => (KM r17))) else (if (decide (V.int x_other = V.int (x_size - (1 : Int)))) = true then (M_Rule_step x_rule fun r24 => (M_rounds_at r24 x_one (x_size - (1 : Int)) fun r29 => (KM r29))) else (M_Rule_step x_rule fun r36 => (M_rounds_at ((2 : Int) * r36) (x_one + x_other) (x_size - (1 : Int)) fun r41 => (KM r41)))))))
def sp_rounds_of (A : Ad) : Sp := fun vs H Q _ => ∃ (ms : List Addr) (v_rule : V) (x_rule : (Int × (Str × Str × Str) × Str × Bool)) (x_size : Int) (x_one : Int) (x_other : Int) (KM : (List Int) → Prop), vs = [v_rule, V.int x_size, V.int x_one, V.int x_other] ∧ Wd ms [] [] H H ∧ rep ms H (eRule A x_rule) v_rule ∧ M_rounds_of x_rule x_size x_one x_other KM ∧ ∀ (r : (List Int)) (u : V) (H1 : Hp), KM r → Ret [] H H1 → rep ms H1 (D.lst (r.map (fun y_ : Int => (D.v (V.int y_))))) u → (∀ p_, u = V.ref p_ → H p_ = none) → Q u H1
set_option maxHeartbeats 16000000 in
theorem ok_rounds_of {P : Program} {w : World} {K : PySem.W.Frag} {mg : Str → Option Value} {base : Heap} {A : Ad} (T : Txt w K mg A) : FnOk P w K mg base CX0 7 A.a_rounds_of A.d_rounds_of ["rule", "size", "one", "other"] (sp_rounds_of A) := by
  refine T.F_rounds_of.ok sc_rounds_of (fun vs H Q E h => ?_) (fun cdv A_ outer s_ H_0 vs Q E hr h => ?_)
  · obtain ⟨ms, v_rule, x_rule, x_size, x_one, x_other, KM, rfl, _⟩ := h
    rfl
  · obtain ⟨ms, v_rule, x_rule, x_size, x_one, x_other, KM, rfl, hW, h_rule, hM, hQ⟩ := h
    unfold M_rounds_of at hM
    refine ⟨_, (pss_cons (ps_expr (pe_call (ok_check_size T) (hr.mono (by decide)) (by rfl) T.g_check_size T.F_check_size.kp T.b_check_size .nil pass0 (pa_cons (pv 0) (pa_cons (pv 1) pa_nil)))) (pss_cons (ps_expr (pe_call (ok_check_pair T) (hr.mono (by decide)) (by rfl) T.g_check_pair T.F_check_pair.kp T.b_check_pair .nil pass0 (pa_cons (pv 2) (pa_cons (pv 3) (pa_cons (pv 1) pa_nil))))) (pss_cons (ps_if (pt_cmpR op_eq (pv 2) (pe_op op_sub (pv 1) pe_int) (nomark _)) (pss_one (ps_ret (pe_call (ok_rounds_at T) (hr.mono (by decide)) (by rfl) T.g_rounds_at T.F_rounds_at.kp T.b_rounds_at .nil pass0 (pa_cons (pe_prop (pv 0) T.cl_Rule T.p_Rule_step (ok_Rule_step T) (hr.mono (by decide)) T.b_Rule_step .nil pass0 rfl) (pa_cons (pv 3) (pa_cons (pe_op op_sub (pv 1) pe_int) pa_nil)))))) pss_nil) (pss_cons (ps_if (pt_cmpR op_eq (pv 3) (pe_op op_sub (pv 1) pe_int) (nomark _)) (pss_one (ps_ret (pe_call (ok_rounds_at T) (hr.mono (by decide)) (by rfl) T.g_rounds_at T.F_rounds_at.kp T.b_rounds_at .nil pass0 (pa_cons (pe_prop (pv 0) T.cl_Rule T.p_Rule_step (ok_Rule_step T) (hr.mono (by decide)) T.b_Rule_step .nil pass0 rfl) (pa_cons (pv 2) (pa_cons (pe_op op_sub (pv 1) pe_int) pa_nil)))))) pss_nil) (pss_one (ps_ret (pe_call (ok_rounds_at T) (hr.mono (by decide)) (by rfl) T.g_rounds_at T.F_rounds_at.kp T.b_rounds_at .nil pass0 (pa_cons (pe_op op_mul pe_int (pe_prop (pv 0) T.cl_Rule T.p_Rule_step (ok_Rule_step T) (hr.mono (by decide)) T.b_Rule_step .nil pass0 rfl)) (pa_cons (pe_op op_add (pv 2) (pv 3)) (pa_cons (pe_op op_sub (pv 1) pe_int) pa_nil)))))))))), ?_⟩
    refine ⟨_, rfl, ?_⟩
    refine ⟨_, rfl, ?_⟩
    refine ⟨ms, _, x_rule, x_size, _, rfl, hW.enter0, h_rule, hM, fun r1 u4 H5 hM e3 h2 => ?_⟩
    replace h_rule := rep_ext e3 h_rule
    replace hW := hW.ret0 e3
    obtain rfl := of_v h2
    refine ⟨_, rfl, ?_⟩
    refine ⟨_, rfl, ?_⟩
    refine ⟨_, rfl, ?_⟩
    refine ⟨ms, x_one, x_other, x_size, _, rfl, hW.enter0, hM, fun r6 u9 H10 hM e8 h7 => ?_⟩
    replace h_rule := rep_ext e8 h_rule
    replace hW := hW.ret0 e8
    obtain rfl := of_v h7
    refine ⟨_, rfl, ?_⟩
    refine ⟨_, rfl, ?_⟩
    refine ⟨_, _, rfl, rfl, ?_⟩
    refine ⟨rfl, ?_⟩
    refine ⟨_, rfl, ?_⟩
    refine ite3 hM (fun hM => ?_) (fun hM => ?_)
    · skip
      refine ⟨_, rfl, ?_⟩
      apply rep_prop h_rule
      intro _ h11
      refine ⟨ms, _, x_rule, _, rfl, hW.enter0, h11, hM, fun r12 u15 H16 hM e14 h13 => ?_⟩
      replace h_rule := rep_ext e14 h_rule
      replace hW := hW.ret0 e14
      obtain rfl := of_v h13
      refine ⟨_, rfl, ?_⟩
      refine ⟨_, rfl, ?_⟩
      refine ⟨_, _, rfl, rfl, ?_⟩
      refine ⟨ms, r12, x_other, (x_size - (1 : Int)), _, rfl, hW.enter0, hM, fun r17 u20 H21 hM e19 h18 hfr22 => ?_⟩
      have hfr22x : ∀ p_, u20 = V.ref p_ → H_0 p_ = none := fun p_ z_ => none0 hW (hfr22 p_ z_)
      replace h_rule := rep_ext e19 h_rule
      replace hW := hW.ret0 e19
      exact hQ r17 _ _ hM hW.out h18 hfr22x
    · skip
      refine ⟨_, rfl, ?_⟩
      refine ⟨_, rfl, ?_⟩
      refine ⟨_, _, rfl, rfl, ?_⟩
      refine ⟨rfl, ?_⟩
      refine ⟨_, rfl, ?_⟩
      refine ite3 hM (fun hM => ?_) (fun hM => ?_)
      · skip
        refine ⟨_, rfl, ?_⟩
        apply rep_prop h_rule
        intro _ h23
        refine ⟨ms, _, x_rule, _, rfl, hW.enter0, h23, hM, fun r24 u27 H28 hM e26 h25 => ?_⟩
        replace h_rule := rep_ext e26 h_rule
        replace hW := hW.ret0 e26
        obtain rfl := of_v h25
        refine ⟨_, rfl, ?_⟩
        refine ⟨_, rfl, ?_⟩
        refine ⟨_, _, rfl, rfl, ?_⟩
        refine ⟨ms, r24, x_one, (x_size - (1 : Int)), _, rfl, hW.enter0, hM, fun r29 u32 H33 hM e31 h30 hfr34 => ?_⟩
        have hfr34x : ∀ p_, u32 = V.ref p_ → H_0 p_ = none := fun p_ z_ => none0 hW (hfr34 p_ z_)
        replace h_rule := rep_ext e31 h_rule
        replace hW := hW.ret0 e31
        exact hQ r29 _ _ hM hW.out h30 hfr34x
      · skip
        refine ⟨_, rfl, ?_⟩
        apply rep_prop h_rule
        intro _ h35
        refine ⟨ms, _, x_rule, _, rfl, hW.enter0, h35, hM, fun r36 u39 H40 hM e38 h37 => ?_⟩
        replace h_rule := rep_ext e38 h_rule
        replace hW := hW.ret0 e38
        obtain rfl := of_v h37
        refine ⟨_, _, rfl, rfl, .inl ⟨by decide, by decide⟩, ?_⟩
        refine ⟨_, rfl, ?_⟩
        refine ⟨_, rfl, ?_⟩
        refine ⟨_, _, rfl, rfl, ?_⟩
        refine ⟨_, rfl, ?_⟩
        refine ⟨_, _, rfl, rfl, ?_⟩
        refine ⟨ms, ((2 : Int) * r36), (x_one + x_other), (x_size - (1 : Int)), _, rfl, hW.enter0, hM, fun r41 u44 H45 hM e43 h42 hfr46 => ?_⟩
        have hfr46x : ∀ p_, u44 = V.ref p_ → H_0 p_ = none := fun p_ z_ => none0 hW (hfr46 p_ z_)
        replace h_rule := rep_ext e43 h_rule
        replace hW := hW.ret0 e43
        exact hQ r41 _ _ hM hW.out h42 hfr46x
def M_is_rightP (x_rule : (Int × (Str × Str × Str) × Str × Bool)) (x_size : Int) (KM : Bool → Prop) : Prop :=
  (M_Rule_step x_rule fun r2 => (KM (decide (V.int ((Nat.gcd (Int.natAbs (if r2 < 0 then -r2 else r2)) (Int.natAbs (x_size - (1 : Int))) : Nat) : Int) = V.int (1 : Int)))))
def sp_is_rightP (A : Ad) : Sp := fun vs H Q _ => ∃ (ms : List Addr) (v_rule : V) (x_rule : (Int × (Str × Str × Str) × Str × Bool)) (x_size : Int) (KM : Bool → Prop), vs = [v_rule, V.int x_size] ∧ Wd ms [] [] H H ∧ rep ms H (eRule A x_rule) v_rule ∧ M_is_rightP x_rule x_size KM ∧ ∀ (r : Bool) (u : V) (H1 : Hp), KM r → Ret [] H H1 → rep ms H1 (D.v (V.bl r)) u → Q u H1
set_option maxHeartbeats 16000000 in
theorem ok_is_rightP {P : Program} {w : World} {K : PySem.W.Frag} {mg : Str → Option Value} {base : Heap} {A : Ad} (T : Txt w K mg A) : FnOk P w K mg base CX0 3 A.a_is_rightP A.d_is_rightP ["rule", "size"] (sp_is_rightP A) := by
  refine T.F_is_rightP.ok sc_is_rightP (fun vs H Q E h => ?_) (fun cdv A_ outer s_ H_0 vs Q E hr h => ?_)
  · obtain ⟨ms, v_rule, x_rule, x_size, KM, rfl, _⟩ := h
    rfl
  · obtain ⟨ms, v_rule, x_rule, x_size, KM, rfl, hW, h_rule, hM, hQ⟩ := h
    unfold M_is_rightP at hM
    refine ⟨_, (pss_one (ps_ret (pe_cmpR op_eq (pe_callBfun cr_gcd (by rfl) T.i_gcd (pa_cons (pe_callB call_abs (by rfl) T.z_abs (by decide +kernel) (pa_cons (pe_prop (pv 0) T.cl_Rule T.p_Rule_step (ok_Rule_step T) (hr.mono (by decide)) T.b_Rule_step .nil pass0 rfl) pa_nil)) (pa_cons (pe_op op_sub (pv 1) pe_int) pa_nil))) pe_int (nomark _)))), ?_⟩
    refine ⟨_, rfl, ?_⟩
    apply rep_prop h_rule
    intro _ h1
    refine ⟨ms, _, x_rule, _, rfl, hW.enter0, h1, hM, fun r2 u5 H6 hM e4 h3 => ?_⟩
    replace h_rule := rep_ext e4 h_rule
    replace hW := hW.ret0 e4
    obtain rfl := of_v h3
    refine ⟨_, rfl, ?_⟩
    refine ⟨_, rfl, ?_⟩
    refine ⟨_, _, rfl, rfl, ?_⟩
    refine ⟨_, _, rfl, ?_⟩
    refine ⟨rfl, ?_⟩
    exact hQ (decide (V.int ((Nat.gcd (Int.natAbs (if r2 < 0 then -r2 else r2)) (Int.natAbs (x_size - (1 : Int))) : Nat) : Int) = V.int (1 : Int))) _ _ hM hW.out rep_v
def M_is_right (x_rule : (Int × (Str × Str × Str) × Str × Bool)) (x_size : Int) (KM : Bool → Prop) : Prop :=
  (M_check_size x_rule x_size fun r1 => (M_is_rightP x_rule x_size fun r6 => (KM r6)))
def sp_is_right (A : Ad) : Sp := fun vs H Q _ => ∃ (ms : List Addr) (v_rule : V) (x_rule : (Int × (Str × Str × Str) × Str × Bool)) (x_size : Int) (KM : Bool → Prop), vs = [v_rule, V.int x_size] ∧ Wd ms [] [] H H ∧ rep ms H (eRule A x_rule) v_rule ∧ M_is_right x_rule x_size KM ∧ ∀ (r : Bool) (u : V) (H1 : Hp), KM r → Ret [] H H1 → rep ms H1 (D.v (V.bl r)) u → Q u H1
set_option maxHeartbeats 16000000 in
theorem ok_is_right {P : Program} {w : World} {K : PySem.W.Frag} {mg : Str → Option Value} {base : Heap} {A : Ad} (T : Txt w K mg A) : FnOk P w K mg base CX0 7 A.a_is_right A.d_is_right ["rule", "size"] (sp_is_right A) := by
  refine T.F_is_right.ok sc_is_right (fun vs H Q E h => ?_) (fun cdv A_ outer s_ H_0 vs Q E hr h => ?_)
  · obtain ⟨ms, v_rule, x_rule, x_size, KM, rfl, _⟩ := h
    rfl
  · obtain ⟨ms, v_rule, x_rule, x_size, KM, rfl, hW, h_rule, hM, hQ⟩ := h
    unfold M_is_right at hM
    refine ⟨_, (pss_cons (ps_expr (pe_call (ok_check_size T) (hr.mono (by decide)) (by rfl) T.g_check_size T.F_check_size.kp T.b_check_size .nil pass0 (pa_cons (pv 0) (pa_cons (pv 1) pa_nil)))) (pss_one (ps_ret (pe_call (ok_is_rightP T) (hr.mono (by decide)) (by rfl) T.g_is_rightP T.F_is_rightP.kp T.b_is_rightP .nil pass0 (pa_cons (pv 0) (pa_cons (pv 1) pa_nil)))))), ?_⟩
    refine ⟨_, rfl, ?_⟩
    refine ⟨_, rfl, ?_⟩
    refine ⟨ms, _, x_rule, x_size, _, rfl, hW.enter0, h_rule, hM, fun r1 u4 H5 hM e3 h2 => ?_⟩
    replace h_rule := rep_ext e3 h_rule
    replace hW := hW.ret0 e3
    obtain rfl := of_v h2
    refine ⟨_, rfl, ?_⟩
    refine ⟨_, rfl, ?_⟩
    refine ⟨ms, _, x_rule, x_size, _, rfl, hW.enter0, h_rule, hM, fun r6 u9 H10 hM e8 h7 => ?_⟩
    replace h_rule := rep_ext e8 h_rule
    replace hW := hW.ret0 e8
    obtain rfl := of_v h7
    exact hQ r6 _ _ hM hW.out rep_v
def M_pick_pltii (x_some : (List (Int × Int))) (KM : (Int × Int) → Prop) : Prop :=
  (M_draw (x_some.length : Int) fun r1 => (0 ≤ r1 ∧ ∃ g7 : Int.toNat r1 < x_some.length, ∀ x9, x9 = x_some[Int.toNat r1]'g7 → (KM x9)))
def sp_pick_pltii (A : Ad) : Sp := fun vs H Q _ => ∃ (ms : List Addr) (ap : Addr) (v_some : V) (x_some : (List (Int × Int))) (KM : (Int × Int) → Prop), vs = [.ref ap, v_some] ∧ Wd ms [(ap, none)] [] H H ∧ rep ms H (D.lst (x_some.map (fun y_ : (Int × Int) => (D.tup [(D.v (V.int y_.1)), (D.v (V.int y_.2))])))) v_some ∧ M_pick_pltii x_some KM ∧ ∀ (r : (Int × Int)) (u : V) (H1 : Hp), KM r → Ret [(ap, none)] H H1 → rep ms H1 (D.tup [(D.v (V.int r.1)), (D.v (V.int r.2))]) u → Q u H1
set_option maxHeartbeats 16000000 in
theorem ok_pick_pltii {P : Program} {w : World} {K : PySem.W.Frag} {mg : Str → Option Value} {base : Heap} {A : Ad} (T : Txt w K mg A) : FnOk P w K mg base CX0 2 A.a_pick A.d_pick ["_law_pot_here", "_law_some"] (sp_pick_pltii A) := by
  refine T.F_pick.ok sc_pick (fun vs H Q E h => ?_) (fun cdv A_ outer s_ H_0 vs Q E hr h => ?_)
  · obtain ⟨ms, ap, v_some, x_some, KM, rfl, _⟩ := h
    rfl
  · obtain ⟨ms, ap, v_some, x_some, KM, rfl, hW, h_some, hM, hQ⟩ := h
    unfold M_pick_pltii at hM
    refine ⟨_, (pss_one (ps_ret (pe_ix (ix_listK (K := K) rfl) (pv 1) (pe_call (ok_draw T) (hr.mono (by decide)) (by rfl) T.g_draw T.F_draw.kp T.b_draw .nil pass0 (pa_cons (pv 0) (pa_cons (pe_callB (call_lenK (K := K) rfl) (by rfl) T.z_len PySem.boot_len (pa_cons (pv 1) pa_nil)) pa_nil))) (fun _ _ => rfl)))), ?_⟩
    refine ⟨_, rfl, ?_⟩
    refine ⟨_, rfl, ?_⟩
    refine ⟨_, rfl, ?_⟩
    apply rep_lenL (e := (fun y_ : (Int × Int) => (D.tup [(D.v (V.int y_.1)), (D.v (V.int y_.2))]))) (xs := x_some) h_some
    refine ⟨ms, ap, (x_some.length : Int), _, rfl, hW.enterP, hM, fun r1 u4 H5 hM e3 h2 => ?_⟩
    replace h_some := rep_ret hW e3 h_some
    replace hW := hW.retP e3
    obtain rfl := of_v h2
    obtain ⟨g6, g7, hM⟩ := hM
    apply rep_ixL (e := (fun y_ : (Int × Int) => (D.tup [(D.v (V.int y_.1)), (D.v (V.int y_.2))]))) (xs := x_some) h_some g6 g7
    intro u10 h8
    obtain ⟨x9, x9e⟩ : ∃ x_, x_ = x_some[Int.toNat r1]'g7 := ⟨_, rfl⟩
    rw [← x9e] at h8
    replace hM := hM x9 x9e
    exact hQ x9 _ _ hM hW.out h8
def M_right (KM : Bool → Prop) : Prop :=
  (M_model  fun r1 => (M_least r1 fun r6 => (M_draw (5 : Int) fun r11 => (M_pick_pls ([("home" : Str), ("away" : Str), ("even" : Str), ("odd" : Str)] : List Str) fun r35 => (M_draw (2 : Int) fun r40 => (M_rule r1 fun r72 => (M_rule (r1.1, r1.2.1, r35, (decide (V.int r40 = V.int (1 : Int)))) fun r77 => (M_meetings r1 (r6 + r11) fun r88 => (r88.length ≤ 16777215 ∧ (∀ b112 : Bool, b112 = List.all (r88.map fun q_ => decide (V.int (lenAt r88 q_.1 : Int) = V.int (1 : Int))) id → (forC (fun (x113 : Int) (s115 : Unit) (k116 : Unit → Prop) => (∃ ks133 : List (Int × Int), r88.map (·.1) = ks133.map kfI ∧ (forC (fun (x136 : (Int × Int)) (s138 : Unit) (k139 : Unit → Prop) => (0 ≤ x113 ∧ ∃ g159 : Int.toNat x113 < ([r72, r77] : List (Int × (Str × Str × Str) × Str × Bool)).length, ∀ x161, x161 = ([r72, r77] : List (Int × (Str × Str × Str) × Str × Bool))[Int.toNat x113]'g159 → (M_rounds_of x161 (((2 : Int) * (r6 + r11)) + (2 : Int)) x136.1 x136.2 fun r163 => ((plainD (D.lst (r163.map (fun y_ : Int => (D.v (V.int y_))))) = true ∧ (pyOf (D.lst (r163.map (fun y_ : Int => (D.v (V.int y_)))))).showable = true ∧ (pyOf (D.lst (r163.map (fun y_ : Int => (D.v (V.int y_)))))).hasDict = false ∧ (pyOf (D.lst (r163.map (fun y_ : Int => (D.v (V.int y_)))))).depth ≤ 60 ∧ (pyOf (D.lst (r163.map (fun y_ : Int => (D.v (V.int y_)))))).shown.length ≤ sizeLine) ∧ (∃ y186 : List Int, Rx.getD r88 ([Sum.inl x136.1, Sum.inl x136.2] : List Key) = some y186 ∧ ((plainD (D.lst (y186.map (fun y_ : Int => (D.v (V.int y_))))) = true ∧ (pyOf (D.lst (y186.map (fun y_ : Int => (D.v (V.int y_)))))).showable = true ∧ (pyOf (D.lst (y186.map (fun y_ : Int => (D.v (V.int y_)))))).hasDict = false ∧ (pyOf (D.lst (y186.map (fun y_ : Int => (D.v (V.int y_)))))).depth ≤ 60 ∧ (pyOf (D.lst (y186.map (fun y_ : Int => (D.v (V.int y_)))))).shown.length ≤ sizeLine) ∧ (if (!(decide (V.str (pyOf (D.lst (r163.map (fun y_ : Int => (D.v (V.int y_)))))).shown = V.str (pyOf (D.lst (y186.map (fun y_ : Int => (D.v (V.int y_)))))).shown))) = true then (KM false) else (0 ≤ x113 ∧ ∃ g192 : Int.toNat x113 < ([r72, r77] : List (Int × (Str × Str × Str) × Str × Bool)).length, ∀ x194, x194 = ([r72, r77] : List (Int × (Str × Str × Str) × Str × Bool))[Int.toNat x113]'g192 → (M_rounds_of x194 (((2 : Int) * (r6 + r11)) + (2 : Int)) x136.2 x136.1 fun r196 => (((plainD (D.lst (r196.map (fun y_ : Int => (D.v (V.int y_))))) = true ∧ plainD (D.lst (r163.map (fun y_ : Int => (D.v (V.int y_))))) = true ∧ SeqAt.shaped (pyOf (D.lst (r196.map (fun y_ : Int => (D.v (V.int y_)))))) = true ∧ SeqAt.shaped (pyOf (D.lst (r163.map (fun y_ : Int => (D.v (V.int y_)))))) = true)) ∧ (if (!(PyData.eqv (pyOf (D.lst (r196.map (fun y_ : Int => (D.v (V.int y_)))))) (pyOf (D.lst (r163.map (fun y_ : Int => (D.v (V.int y_)))))))) = true then (KM false) else (r163.length < 16777216 ∧ (k139 ()))))))))))))) ks133 () fun s212 => (([r72, r77] : List (Int × (Str × Str × Str) × Str × Bool)).length < 100000 ∧ mapC (fun (x235 : (Int × (Str × Str × Str) × Str × Bool)) (k228 : Bool → Prop) => (M_is_right x235 (((2 : Int) * (r6 + r11)) + (2 : Int)) fun r242 => (k228 r242))) ([r72, r77] : List (Int × (Str × Str × Str) × Str × Bool)) [] fun ys252 => ((plainD (D.lst (ys252.map (fun y_ : Bool => (D.v (V.bl y_))))) = true ∧ (pyOf (D.lst (ys252.map (fun y_ : Bool => (D.v (V.bl y_)))))).showable = true ∧ (pyOf (D.lst (ys252.map (fun y_ : Bool => (D.v (V.bl y_)))))).hasDict = false ∧ (pyOf (D.lst (ys252.map (fun y_ : Bool => (D.v (V.bl y_)))))).depth ≤ 60 ∧ (pyOf (D.lst (ys252.map (fun y_ : Bool => (D.v (V.bl y_)))))).shown.length ≤ sizeLine) ∧ ((plainD (D.lst (([b112, b112] : List Bool).map (fun y_ : Bool => (D.v (V.bl y_))))) = true ∧ (pyOf (D.lst (([b112, b112] : List Bool).map (fun y_ : Bool => (D.v (V.bl y_)))))).showable = true ∧ (pyOf (D.lst (([b112, b112] : List Bool).map (fun y_ : Bool => (D.v (V.bl y_)))))).hasDict = false ∧ (pyOf (D.lst (([b112, b112] : List Bool).map (fun y_ : Bool => (D.v (V.bl y_)))))).depth ≤ 60 ∧ (pyOf (D.lst (([b112, b112] : List Bool).map (fun y_ : Bool => (D.v (V.bl y_)))))).shown.length ≤ sizeLine) ∧ (if (!(decide (V.str (pyOf (D.lst (ys252.map (fun y_ : Bool => (D.v (V.bl y_)))))).shown = V.str (pyOf (D.lst (([b112, b112] : List Bool).map (fun y_ : Bool => (D.v (V.bl y_)))))).shown))) = true then (KM false) else (0 ≤ (0 : Int) ∧ ∃ g264 : Int.toNat (0 : Int) < ([r72, r77] : List (Int × (Str × Str × Str) × Str × Bool)).length, ∀ x266, x266 = ([r72, r77] : List (Int × (Str × Str × Str) × Str × Bool))[Int.toNat (0 : Int)]'g264 → (M_is_right x266 (((2 : Int) * (r6 + r11)) + (2 : Int)) fun r268 => ((plainD (D.v (V.bl r268)) = true ∧ (pyOf (D.v (V.bl r268))).showable = true ∧ (pyOf (D.v (V.bl r268))).hasDict = false ∧ (pyOf (D.v (V.bl r268))).depth ≤ 60 ∧ (pyOf (D.v (V.bl r268))).shown.length ≤ sizeLine) ∧ ((plainD (D.v (V.bl b112)) = true ∧ (pyOf (D.v (V.bl b112))).showable = true ∧ (pyOf (D.v (V.bl b112))).hasDict = false ∧ (pyOf (D.v (V.bl b112))).depth ≤ 60 ∧ (pyOf (D.v (V.bl b112))).shown.length ≤ sizeLine) ∧ (if (!(decide (V.str (pyOf (D.v (V.bl r268))).shown = V.str (pyOf (D.v (V.bl b112))).shown))) = true then (KM false) else (k116 ()))))))))))))) (rangeI (0 : Int) (2 : Int)) () fun s275 => (∃ ks282 : List (Int × Int), r88.map (·.1) = ks282.map kfI ∧ (M_pick_pltii ks282 fun r291 => (0 ≤ (0 : Int) ∧ ∃ g297 : Int.toNat (0 : Int) < ([r72, r77] : List (Int × (Str × Str × Str) × Str × Bool)).length, ∀ x299, x299 = ([r72, r77] : List (Int × (Str × Str × Str) × Str × Bool))[Int.toNat (0 : Int)]'g297 → (M_rounds_of x299 (((2 : Int) * (r6 + r11)) + (2 : Int)) (0 : Int) ((((2 : Int) * (r6 + r11)) + (2 : Int)) - (1 : Int)) fun r301 => (∃ y339 : List Int, Rx.getD r88 ([Sum.inl (0 : Int), Sum.inl ((((2 : Int) * (r6 + r11)) + (2 : Int)) - (1 : Int))] : List Key) = some y339 ∧ (((plainD (D.lst (r301.map (fun y_ : Int => (D.v (V.int y_))))) = true ∧ plainD (D.lst (y339.map (fun y_ : Int => (D.v (V.int y_))))) = true ∧ SeqAt.shaped (pyOf (D.lst (r301.map (fun y_ : Int => (D.v (V.int y_)))))) = true ∧ SeqAt.shaped (pyOf (D.lst (y339.map (fun y_ : Int => (D.v (V.int y_)))))) = true)) ∧ (if (!(PyData.eqv (pyOf (D.lst (r301.map (fun y_ : Int => (D.v (V.int y_)))))) (pyOf (D.lst (y339.map (fun y_ : Int => (D.v (V.int y_)))))))) = true then (KM false) else (0 ≤ (0 : Int) ∧ ∃ g345 : Int.toNat (0 : Int) < ([r72, r77] : List (Int × (Str × Str × Str) × Str × Bool)).length, ∀ x347, x347 = ([r72, r77] : List (Int × (Str × Str × Str) × Str × Bool))[Int.toNat (0 : Int)]'g345 → (M_rounds_of x347 (((2 : Int) * (r6 + r11)) + (2 : Int)) r291.1 r291.2 fun r349 => (∃ y361 : List Int, Rx.getD r88 ([Sum.inl r291.1, Sum.inl r291.2] : List Key) = some y361 ∧ (((plainD (D.lst (r349.map (fun y_ : Int => (D.v (V.int y_))))) = true ∧ plainD (D.lst (y361.map (fun y_ : Int => (D.v (V.int y_))))) = true ∧ SeqAt.shaped (pyOf (D.lst (r349.map (fun y_ : Int => (D.v (V.int y_)))))) = true ∧ SeqAt.shaped (pyOf (D.lst (y361.map (fun y_ : Int => (D.v (V.int y_)))))) = true)) ∧ (KM (PyData.eqv (pyOf (D.lst (r349.map (fun y_ : Int => (D.v (V.int y_)))))) (pyOf (D.lst (y361.map (fun y_ : Int => (D.v (V.int y_))))))))))))))))))))))))))))))
def sp_right (A : Ad) : Sp := fun vs H Q _ => ∃ (ms : List Addr) (ap : Addr) (KM : Bool → Prop), vs = [.ref ap] ∧ Wd ms [(ap, none)] [] H H ∧ M_right  KM ∧ ∀ (r : Bool) (u : V) (H1 : Hp), KM r → Ret [(ap, none)] H H1 → rep ms H1 (D.v (V.bl r)) u → Q u H1
set_option maxHeartbeats 16000000 in
theorem ok_right {P : Program} {w : World} {K : PySem.W.Frag} {mg : Str → Option Value} {base : Heap} {A : Ad} (T : Txt w K mg A) : FnG P w K mg base 8 A.a_right A.d_right ["_law_pot_here"] (sp_right A) := by
  refine okG T.F_right sc_right (fun vs H Q E h => ?_) (fun cdv A_ outer s_ H_0 vs Q E gu hr h => ?_)
  · obtain ⟨ms, ap, KM, rfl, _⟩ := h
    rfl
  · obtain ⟨ms, ap, KM, rfl, hW, hM, hQ⟩ := h
    unfold M_right at hM
    refine ⟨_, (pss_cons (ps_set (i := 1) sc_right.nd rfl (by first | exact Or.inl rfl | exact Or.inr rfl) (pe_call (ok_model T) (hr.mono (by decide)) (by rfl) T.g_model T.F_model.kp T.b_model .nil pass0 (pa_cons (pv 0) pa_nil))) (pss_cons (ps_set (i := 2) sc_right.nd rfl (by first | exact Or.inl rfl | exact Or.inr rfl) (pe_op op_add (pe_call (ok_least T) (hr.mono (by decide)) (by rfl) T.g_least T.F_least.kp T.b_least .nil pass0 (pa_cons (pv 1) pa_nil)) (pe_call (ok_draw T) (hr.mono (by decide)) (by rfl) T.g_draw T.F_draw.kp T.b_draw .nil pass0 (pa_cons (pv 0) (pa_cons pe_int pa_nil))))) (pss_cons (ps_set (i := 3) sc_right.nd rfl (by first | exact Or.inl rfl | exact Or.inr rfl) (pe_callTy (call_dictPK (K := K) rfl rfl) (by rfl) T.z_dict (by decide +kernel) (pa_cons (LiI.pe_listItems rfl (pv 1) (by rfl) T.z_list (by decide +kernel)) pa_nil))) (pss_cons (ps_asg (pe_tup (pa_cons (pe_call (ok_pick_pls T) (hr.mono (by decide)) (by rfl) T.g_pick T.F_pick.kp T.b_pick .nil pass0 (pa_cons (pv 0) (pa_cons (pe_lst (pa_cons pe_str (pa_cons pe_str (pa_cons pe_str (pa_cons pe_str pa_nil))))) pa_nil))) (pa_cons (pe_cmpR op_eq (pe_call (ok_draw T) (hr.mono (by decide)) (by rfl) T.g_draw T.F_draw.kp T.b_draw .nil pass0 (pa_cons (pv 0) (pa_cons pe_int pa_nil))) pe_int (nomark _)) pa_nil))) (pg_tup rfl (pgs_cons (pg_sub (pv 3) pe_str (set_dict (hu_of hr))) (pgs_cons (pg_sub (pv 3) pe_str (set_dict (hu_of hr))) pgs_nil)))) (pss_cons (ps_asg (pe_tup (pa_cons (pe_lst (pa_cons (pe_call (ok_rule T) (hr.mono (by decide)) (by rfl) T.g_rule T.F_rule.kp T.b_rule .nil pass0 (pa_cons (pv 1) pa_nil)) (pa_cons (pe_call (ok_rule T) (hr.mono (by decide)) (by rfl) T.g_rule T.F_rule.kp T.b_rule .nil pass0 (pa_cons (pv 3) pa_nil)) pa_nil))) (pa_cons (pe_op op_add (pe_op op_mul pe_int (pv 2)) pe_int) (pa_cons (pe_call (ok_meetings T) (hr.mono (by decide)) (by rfl) T.g_meetings T.F_meetings.kp T.b_meetings .nil pass0 (pa_cons (pv 1) (pa_cons (pv 2) pa_nil))) pa_nil)))) (pg_tup rfl (pgs_cons (pg_name (i := 4) sc_right.nd rfl (by first | exact Or.inl rfl | exact Or.inr rfl)) (pgs_cons (pg_name (i := 5) sc_right.nd rfl (by first | exact Or.inl rfl | exact Or.inr rfl)) (pgs_cons (pg_name (i := 6) sc_right.nd rfl (by first | exact Or.inl rfl | exact Or.inr rfl)) pgs_nil))))) (pss_cons (ps_set (i := 7) sc_right.nd rfl (by first | exact Or.inl rfl | exact Or.inr rfl) (pe_callB (cr_allK (K := K) rfl rfl) (by rfl) T.z_all (by decide +kernel) (pa_cons (pe_lock (pe_lc (own := [("_law_pair", 13)]) (g := gName 13) rfl sc_right.nd (pi_keys (pv 6)) (blkOk_by (N := ["_law_pot_here", "_law_model_here", "_law_half", "_law_peer", "_law_makes", "_law_many", "_law_due", "_law_is_due", "_law_turn", "_law_who", "_law_mate", "_law_told", "_law_spare", "_law_pair", "_law_made"]) (sc := defScope s_right) (by decide +kernel)) (fun _ _ _ _ _ => pg_name (i := 13) sc_right.nd rfl (by first | exact Or.inl rfl | exact Or.inr rfl)) (fun _ _ _ _ _ => pts_nil) (fun _ _ _ _ _ => (pe_cmpR op_eq (pe_callB (call_lenK (K := K) rfl) (by rfl) T.z_len PySem.boot_len (pa_cons (pe_dget (hu_of hr) (pv 6) (pv 13) (fun _ _ => rfl)) pa_nil)) pe_int (nomark _))))) pa_nil))) (pss_cons (ps_for PassesOwn.never rfl (pi_rangeW1 (by rfl) T.z_range (pa_cons pe_int pa_nil)) (pg_name (i := 8) sc_right.nd rfl (by first | exact Or.inl rfl | exact Or.inr rfl)) (pss_cons (ps_lock (ps_for PassesOwn.never rfl (pi_keys (pv 6)) (pg_tup rfl (pgs_cons (pg_name (i := 9) sc_right.nd rfl (by first | exact Or.inl rfl | exact Or.inr rfl)) (pgs_cons (pg_name (i := 10) sc_right.nd rfl (by first | exact Or.inl rfl | exact Or.inr rfl)) pgs_nil))) (pss_cons (ps_set (i := 11) sc_right.nd rfl (by first | exact Or.inl rfl | exact Or.inr rfl) (pe_call (ok_rounds_of T) (hr.mono (by decide)) (by rfl) T.g_rounds_of T.F_rounds_of.kp T.b_rounds_of .nil pass0 (pa_cons (pe_ix (ix_listK (K := K) rfl) (pv 4) (pv 8) (fun _ _ => rfl)) (pa_cons (pv 5) (pa_cons (pv 9) (pa_cons (pv 10) pa_nil)))))) (pss_cons (ps_if (PW.pt (pw_or (pt_cmpR op_ne (pe_callB (call_reprAK (K := K) rfl gu hr) (by rfl) T.z_repr (by decide +kernel) (pa_cons (pv 11) pa_nil)) (pe_callB (call_reprAK (K := K) rfl gu hr) (by rfl) T.z_repr (by decide +kernel) (pa_cons (pe_dget (hu_of hr) (pv 6) (pe_tup (pa_cons (pv 9) (pa_cons (pv 10) pa_nil))) (fun _ _ => rfl)) pa_nil)) (nomark _)) (pw_or1 (pt_cmpR (op_neDK (K := K) rfl hr.units) (pe_call (ok_rounds_of T) (hr.mono (by decide)) (by rfl) T.g_rounds_of T.F_rounds_of.kp T.b_rounds_of .nil pass0 (pa_cons (pe_ix (ix_listK (K := K) rfl) (pv 4) (pv 8) (fun _ _ => rfl)) (pa_cons (pv 5) (pa_cons (pv 10) (pa_cons (pv 9) pa_nil))))) (pv 11) (nomark _))))) (pss_one (ps_ret pe_bl)) pss_nil) (pss_one (ps_expr (pe_bmK (K := K) rfl PySem.F.plainAttrs_list PySem.F.slot_list_append PySem.F.type_list_append mt_append (pv 11) (pa_cons pe_int pa_nil)))))))) (pss_cons (ps_if (pt_cmpR op_ne (pe_callB (call_reprAK (K := K) rfl gu hr) (by rfl) T.z_repr (by decide +kernel) (pa_cons (pe_lc (own := [("_law_made", 14)]) (g := gName 14) rfl sc_right.nd (pi_list (pv 4)) (blkOk_by (N := ["_law_pot_here", "_law_model_here", "_law_half", "_law_peer", "_law_makes", "_law_many", "_law_due", "_law_is_due", "_law_turn", "_law_who", "_law_mate", "_law_told", "_law_spare", "_law_pair", "_law_made"]) (sc := defScope s_right) (by decide +kernel)) (fun _ _ _ _ _ => pg_name (i := 14) sc_right.nd rfl (by first | exact Or.inl rfl | exact Or.inr rfl)) (fun _ _ _ _ _ => pts_nil) (fun _ _ _ _ _ => (pe_call (ok_is_right T) (hr.mono (by decide)) (by rfl) T.g_is_right T.F_is_right.kp T.b_is_right .nil pass0 (pa_cons (pv 14) (pa_cons (pv 5) pa_nil))))) pa_nil)) (pe_callB (call_reprAK (K := K) rfl gu hr) (by rfl) T.z_repr (by decide +kernel) (pa_cons (pe_lst (pa_cons (pv 7) (pa_cons (pv 7) pa_nil))) pa_nil)) (nomark _)) (pss_one (ps_ret pe_bl)) pss_nil) (pss_one (ps_if (pt_cmpR op_ne (pe_callB (call_reprAK (K := K) rfl gu hr) (by rfl) T.z_repr (by decide +kernel) (pa_cons (pe_callKw (ok_is_right T) (hr.mono (by decide)) (by rfl) T.g_is_right T.F_is_right.kp T.k_is_right_size_rule pass0 (pk_cons (pv 5) (pk_cons (pe_ix (ix_listK (K := K) rfl) (pv 4) pe_int (fun _ _ => rfl)) pk_nil))) pa_nil)) (pe_callB (call_reprAK (K := K) rfl gu hr) (by rfl) T.z_repr (by decide +kernel) (pa_cons (pv 7) pa_nil)) (nomark _)) (pss_one (ps_ret pe_bl)) pss_nil))))) (pss_cons (ps_asg (pe_tup (pa_cons (pe_call (ok_pick_pltii T) (hr.mono (by decide)) (by rfl) T.g_pick T.F_pick.kp T.b_pick .nil pass0 (pa_cons (pv 0) (pa_cons (pe_callTy (call_list_dT rfl) (by rfl) T.z_list (by decide +kernel) (pa_cons (pv 6) pa_nil)) pa_nil))) (pa_cons (pe_call (ok_rounds_of T) (hr.mono (by decide)) (by rfl) T.g_rounds_of T.F_rounds_of.kp T.b_rounds_of .nil pass0 (pa_cons (pe_ix (ix_listK (K := K) rfl) (pv 4) pe_int (fun _ _ => rfl)) (pa_cons (pv 5) (pa_cons pe_int (pa_cons (pe_op op_sub (pv 5) pe_int) pa_nil))))) pa_nil))) (pg_tup rfl (pgs_cons (pg_tup rfl (pgs_cons (pg_name (i := 9) sc_right.nd rfl (by first | exact Or.inl rfl | exact Or.inr rfl)) (pgs_cons (pg_name (i := 10) sc_right.nd rfl (by first | exact Or.inl rfl | exact Or.inr rfl)) pgs_nil))) (pgs_cons (pg_name (i := 12) sc_right.nd rfl (by first | exact Or.inl rfl | exact Or.inr rfl)) pgs_nil)))) (pss_cons (ps_if (pt_cmpR (op_neDK (K := K) rfl hr.units) (pv 12) (pe_dget (hu_of hr) (pv 6) (pe_tup (pa_cons pe_int (pa_cons (pe_op op_sub (pv 5) pe_int) pa_nil))) (fun _ _ => rfl)) (nomark _)) (pss_one (ps_ret pe_bl)) pss_nil) (pss_one (ps_ret (pe_cmpR (op_eqDK (K := K) rfl hr.units) (pe_callKw (ok_rounds_of T) (hr.mono (by decide)) (by rfl) T.g_rounds_of T.F_rounds_of.kp T.k_rounds_of_other_one_size_rule pass0 (pk_cons (pv 10) (pk_cons (pv 9) (pk_cons (pv 5) (pk_cons (pe_ix (ix_listK (K := K) rfl) (pv 4) pe_int (fun _ _ => rfl)) pk_nil))))) (pe_dget (hu_of hr) (pv 6) (pe_tup (pa_cons (pv 9) (pa_cons (pv 10) pa_nil))) (fun _ _ => rfl)) (nomark _))))))))))))), ?_⟩
    refine ⟨_, rfl, ?_⟩
    refine ⟨ms, ap, _, rfl, hW.enterP, hM, fun r1 u4 H5 hM e3 h2 => ?_⟩
    replace hW := hW.retP e3
    refine ⟨_, rfl, ?_⟩
    refine ⟨ms, _, r1, _, rfl, hW.enter0, h2, hM, fun r6 u9 H10 hM e8 h7 => ?_⟩
    replace h2 := rep_ext e8 h2
    replace hW := hW.ret0 e8
    obtain rfl := of_v h7
    refine ⟨_, rfl, ?_⟩
    refine ⟨ms, ap, (5 : Int), _, rfl, hW.enterP, hM, fun r11 u14 H15 hM e13 h12 => ?_⟩
    replace h2 := rep_ret hW e13 h2
    replace hW := hW.retP e13
    obtain rfl := of_v h12
    refine ⟨_, _, rfl, rfl, ?_⟩
    refine ⟨_, rfl, ?_⟩
    show LiI.rItemsL _ _ _
    apply rep_itemsR hW h2
    intro H16 p17 e18 hx19
    replace h2 := rep_ext e18 h2
    replace hW := hW.ret0 e18
    obtain ⟨vs20, hl21, hr22, hs23⟩ := hx19 (fun vs_ H_ => ∃ ps, SqL K H_ p17 (ps.map V.ref) ∧ Paired (fun p kv => SqT K H_ p [kV kv.1, kv.2]) ps (List.zip [(Sum.inr ("stride" : Str) : Key), (Sum.inr ("parts" : Str) : Key), (Sum.inr ("stand" : Str) : Key), (Sum.inr ("flips" : Str) : Key)] vs_)) (fun _ _ _ z_ => z_)
    obtain ⟨ps_, hs23, hs232⟩ := hs23
    refine ⟨p17, ps_, _, rfl, hs23, hs232, ?_⟩
    rw [merge_zip (ks := [(Sum.inr ("stride" : Str) : Key), (Sum.inr ("parts" : Str) : Key), (Sum.inr ("stand" : Str) : Key), (Sum.inr ("flips" : Str) : Key)]) (vs := vs20) hl21 (by decide +kernel)]
    intro L24 nl25
    have nm26 := nm_new hW nl25
    have mu27 := mo_newD (ks := [(Sum.inr ("stride" : Str) : Key), (Sum.inr ("parts" : Str) : Key), (Sum.inr ("stand" : Str) : Key), (Sum.inr ("flips" : Str) : Key)]) (ds := [(D.v (V.int r1.1)), (D.tup [(D.v (V.str r1.2.1.1)), (D.v (V.str r1.2.1.2.1)), (D.v (V.str r1.2.1.2.2))]), (D.v (V.str r1.2.2.1)), (D.v (V.bl r1.2.2.2))]) (vs := vs20) hW nl25 hl21 hr22
    replace h2 := rep_cell (o := .dK (List.zip [(Sum.inr ("stride" : Str) : Key), (Sum.inr ("parts" : Str) : Key), (Sum.inr ("stand" : Str) : Key), (Sum.inr ("flips" : Str) : Key)] vs20)) nl25 h2
    replace hW := wd_cell (o := .dK (List.zip [(Sum.inr ("stride" : Str) : Key), (Sum.inr ("parts" : Str) : Key), (Sum.inr ("stand" : Str) : Key), (Sum.inr ("flips" : Str) : Key)] vs20)) hW nl25
    generalize upd H16 L24 (.dK (List.zip [(Sum.inr ("stride" : Str) : Key), (Sum.inr ("parts" : Str) : Key), (Sum.inr ("stand" : Str) : Key), (Sum.inr ("flips" : Str) : Key)] vs20)) = H28 at *
    replace mu27 : MutO (L24 :: ms) [(ap, none)] H_0 H28 L24 (D.dct [(Sum.inr ("stride" : Str) : Key), (Sum.inr ("parts" : Str) : Key), (Sum.inr ("stand" : Str) : Key), (Sum.inr ("flips" : Str) : Key)] [(D.v (V.int r1.1)), (D.tup [(D.v (V.str r1.2.1.1)), (D.v (V.str r1.2.1.2.1)), (D.v (V.str r1.2.1.2.2))]), (D.v (V.str r1.2.2.1)), (D.v (V.bl r1.2.2.2))]) := mu27
    refine ⟨_, rfl, ?_⟩
    refine ⟨(by show 4 ≤ sizeLine; decide), ?_⟩
    intro p29 n33
    have e30 := Rx.Ext.new (H := H28) (o := (HO.lst [V.str ("home" : Str), V.str ("away" : Str), V.str ("even" : Str), V.str ("odd" : Str)])) n33
    have hp31 : upd H28 p29 (HO.lst [V.str ("home" : Str), V.str ("away" : Str), V.str ("even" : Str), V.str ("odd" : Str)]) p29 = some (HO.lst [V.str ("home" : Str), V.str ("away" : Str), V.str ("even" : Str), V.str ("odd" : Str)]) := upd_same
    generalize upd H28 p29 (HO.lst [V.str ("home" : Str), V.str ("away" : Str), V.str ("even" : Str), V.str ("odd" : Str)]) = H34 at e30 hp31 ⊢
    have h32 : rep (L24 :: ms) H34 (D.lst (([("home" : Str), ("away" : Str), ("even" : Str), ("odd" : Str)] : List Str).map (fun y_ : Str => (D.v (V.str y_))))) (.ref p29) := rep_lst_mk hW n33 e30 hp31 (repL_cons rep_v (repL_cons rep_v (repL_cons rep_v (repL_cons rep_v repL_nil))))
    replace h2 := rep_ext e30 h2
    replace mu27 := mo_ext e30 mu27
    replace hW := hW.ret0 e30
    refine ⟨(L24 :: ms), ap, _, ([("home" : Str), ("away" : Str), ("even" : Str), ("odd" : Str)] : List Str), _, rfl, hW.enterP, h32, hM, fun r35 u38 H39 hM e37 h36 => ?_⟩
    replace h2 := rep_ret hW e37 h2
    replace h32 := rep_ret hW e37 h32
    replace mu27 := mo_ret hW e37 mu27
    replace hW := hW.retP e37
    obtain rfl := of_v h36
    refine ⟨_, rfl, ?_⟩
    refine ⟨(L24 :: ms), ap, (2 : Int), _, rfl, hW.enterP, hM, fun r40 u43 H44 hM e42 h41 => ?_⟩
    replace h2 := rep_ret hW e42 h2
    replace h32 := rep_ret hW e42 h32
    replace mu27 := mo_ret hW e42 mu27
    replace hW := hW.retP e42
    obtain rfl := of_v h41
    refine ⟨rfl, ?_⟩
    refine ⟨(by show 2 ≤ sizeLine; decide), ?_⟩
    intro p45 n49
    have e46 := Rx.Ext.new (H := H44) (o := (HO.tup [V.str r35, V.bl (decide (V.int r40 = V.int (1 : Int)))])) n49
    have hp47 : upd H44 p45 (HO.tup [V.str r35, V.bl (decide (V.int r40 = V.int (1 : Int)))]) p45 = some (HO.tup [V.str r35, V.bl (decide (V.int r40 = V.int (1 : Int)))]) := upd_same
    generalize upd H44 p45 (HO.tup [V.str r35, V.bl (decide (V.int r40 = V.int (1 : Int)))]) = H50 at e46 hp47 ⊢
    have h48 : rep (L24 :: ms) H50 (D.tup [(D.v (V.str r35)), (D.v (V.bl (decide (V.int r40 = V.int (1 : Int)))))]) (.ref p45) := rep_tup_mk hW n49 e46 hp47 (repL_cons rep_v (repL_cons rep_v repL_nil))
    replace h2 := rep_ext e46 h2
    replace h32 := rep_ext e46 h32
    replace mu27 := mo_ext e46 mu27
    replace hW := hW.ret0 e46
    apply rep_gtup h48 rfl
    intro vs51 hv52
    obtain ⟨u53, us54, rfl, h55, hv56⟩ := repL_uncons hv52
    obtain rfl := of_v h55
    obtain ⟨u57, us58, rfl, h59, hv60⟩ := repL_uncons hv56
    obtain rfl := of_v h59
    obtain rfl := repL_empty hv60
    refine ⟨_, _, rfl, ?_⟩
    refine ⟨_, rfl, ?_⟩
    apply mo_putO (k := (Sum.inr ("stand" : Str) : Key)) 2 mu27 (by decide +kernel) rfl (by show 4 < 16777216; decide)
    intro vs61 hl62 hr63
    have mk64 := mo_setD (ks := [(Sum.inr ("stride" : Str) : Key), (Sum.inr ("parts" : Str) : Key), (Sum.inr ("stand" : Str) : Key), (Sum.inr ("flips" : Str) : Key)]) mu27 hl62 (repL_setD 2 hr63 rep_v)
    replace h2 := rep_put (o := .dK (List.zip [(Sum.inr ("stride" : Str) : Key), (Sum.inr ("parts" : Str) : Key), (Sum.inr ("stand" : Str) : Key), (Sum.inr ("flips" : Str) : Key)] (vs61.set 2 (V.str r35)))) mu27.im h2
    replace h32 := rep_put (o := .dK (List.zip [(Sum.inr ("stride" : Str) : Key), (Sum.inr ("parts" : Str) : Key), (Sum.inr ("stand" : Str) : Key), (Sum.inr ("flips" : Str) : Key)] (vs61.set 2 (V.str r35)))) mu27.im h32
    replace h48 := rep_put (o := .dK (List.zip [(Sum.inr ("stride" : Str) : Key), (Sum.inr ("parts" : Str) : Key), (Sum.inr ("stand" : Str) : Key), (Sum.inr ("flips" : Str) : Key)] (vs61.set 2 (V.str r35)))) mu27.im h48
    replace hW := wd_put (o := .dK (List.zip [(Sum.inr ("stride" : Str) : Key), (Sum.inr ("parts" : Str) : Key), (Sum.inr ("stand" : Str) : Key), (Sum.inr ("flips" : Str) : Key)] (vs61.set 2 (V.str r35)))) hW mu27
    replace mu27 := mk64
    generalize upd H50 L24 (.dK (List.zip [(Sum.inr ("stride" : Str) : Key), (Sum.inr ("parts" : Str) : Key), (Sum.inr ("stand" : Str) : Key), (Sum.inr ("flips" : Str) : Key)] (vs61.set 2 (V.str r35)))) = H65 at *
    replace mu27 : MutO (L24 :: ms) [(ap, none)] H_0 H65 L24 (D.dct [(Sum.inr ("stride" : Str) : Key), (Sum.inr ("parts" : Str) : Key), (Sum.inr ("stand" : Str) : Key), (Sum.inr ("flips" : Str) : Key)] [(D.v (V.int (r1.1, r1.2.1, r35, r1.2.2.2).1)), (D.tup [(D.v (V.str (r1.1, r1.2.1, r35, r1.2.2.2).2.1.1)), (D.v (V.str (r1.1, r1.2.1, r35, r1.2.2.2).2.1.2.1)), (D.v (V.str (r1.1, r1.2.1, r35, r1.2.2.2).2.1.2.2))]), (D.v (V.str (r1.1, r1.2.1, r35, r1.2.2.2).2.2.1)), (D.v (V.bl (r1.1, r1.2.1, r35, r1.2.2.2).2.2.2))]) := mu27
    clear mk64
    refine ⟨_, _, rfl, ?_⟩
    refine ⟨_, rfl, ?_⟩
    apply mo_putO (k := (Sum.inr ("flips" : Str) : Key)) 3 mu27 (by decide +kernel) rfl (by show 4 < 16777216; decide)
    intro vs66 hl67 hr68
    have mk69 := mo_setD (ks := [(Sum.inr ("stride" : Str) : Key), (Sum.inr ("parts" : Str) : Key), (Sum.inr ("stand" : Str) : Key), (Sum.inr ("flips" : Str) : Key)]) mu27 hl67 (repL_setD 3 hr68 rep_v)
    replace h2 := rep_put (o := .dK (List.zip [(Sum.inr ("stride" : Str) : Key), (Sum.inr ("parts" : Str) : Key), (Sum.inr ("stand" : Str) : Key), (Sum.inr ("flips" : Str) : Key)] (vs66.set 3 (V.bl (decide (V.int r40 = V.int (1 : Int))))))) mu27.im h2
    replace h32 := rep_put (o := .dK (List.zip [(Sum.inr ("stride" : Str) : Key), (Sum.inr ("parts" : Str) : Key), (Sum.inr ("stand" : Str) : Key), (Sum.inr ("flips" : Str) : Key)] (vs66.set 3 (V.bl (decide (V.int r40 = V.int (1 : Int))))))) mu27.im h32
    replace h48 := rep_put (o := .dK (List.zip [(Sum.inr ("stride" : Str) : Key), (Sum.inr ("parts" : Str) : Key), (Sum.inr ("stand" : Str) : Key), (Sum.inr ("flips" : Str) : Key)] (vs66.set 3 (V.bl (decide (V.int r40 = V.int (1 : Int))))))) mu27.im h48
    replace hW := wd_put (o := .dK (List.zip [(Sum.inr ("stride" : Str) : Key), (Sum.inr ("parts" : Str) : Key), (Sum.inr ("stand" : Str) : Key), (Sum.inr ("flips" : Str) : Key)] (vs66.set 3 (V.bl (decide (V.int r40 = V.int (1 : Int))))))) hW mu27
    replace mu27 := mk69
    generalize upd H65 L24 (.dK (List.zip [(Sum.inr ("stride" : Str) : Key), (Sum.inr ("parts" : Str) : Key), (Sum.inr ("stand" : Str) : Key), (Sum.inr ("flips" : Str) : Key)] (vs66.set 3 (V.bl (decide (V.int r40 = V.int (1 : Int))))))) = H70 at *
    replace mu27 : MutO (L24 :: ms) [(ap, none)] H_0 H70 L24 (D.dct [(Sum.inr ("stride" : Str) : Key), (Sum.inr ("parts" : Str) : Key), (Sum.inr ("stand" : Str) : Key), (Sum.inr ("flips" : Str) : Key)] [(D.v (V.int (r1.1, r1.2.1, r35, (decide (V.int r40 = V.int (1 : Int)))).1)), (D.tup [(D.v (V.str (r1.1, r1.2.1, r35, (decide (V.int r40 = V.int (1 : Int)))).2.1.1)), (D.v (V.str (r1.1, r1.2.1, r35, (decide (V.int r40 = V.int (1 : Int)))).2.1.2.1)), (D.v (V.str (r1.1, r1.2.1, r35, (decide (V.int r40 = V.int (1 : Int)))).2.1.2.2))]), (D.v (V.str (r1.1, r1.2.1, r35, (decide (V.int r40 = V.int (1 : Int)))).2.2.1)), (D.v (V.bl (r1.1, r1.2.1, r35, (decide (V.int r40 = V.int (1 : Int)))).2.2.2))]) := mu27
    clear mk69
    refine ⟨rfl, ?_⟩
    have h71 := mo_rep_dr dr_here nm26 mu27
    replace hW := wd_dr dr_here mu27.hp hW
    replace h2 := rep_dr dr_here h2
    replace h32 := rep_dr dr_here h32
    replace h48 := rep_dr dr_here h48
    clear mu27
    refine ⟨_, rfl, ?_⟩
    refine ⟨ms, _, r1, _, rfl, hW.enter0, h2, hM, fun r72 u75 H76 hM e74 h73 => ?_⟩
    replace h2 := rep_ext e74 h2
    replace h32 := rep_ext e74 h32
    replace h48 := rep_ext e74 h48
    replace h71 := rep_ext e74 h71
    replace hW := hW.ret0 e74
    refine ⟨_, rfl, ?_⟩
    refine ⟨ms, _, (r1.1, r1.2.1, r35, (decide (V.int r40 = V.int (1 : Int)))), _, rfl, hW.enter0, h71, hM, fun r77 u80 H81 hM e79 h78 => ?_⟩
    replace h2 := rep_ext e79 h2
    replace h32 := rep_ext e79 h32
    replace h48 := rep_ext e79 h48
    replace h71 := rep_ext e79 h71
    replace h73 := rep_ext e79 h73
    replace hW := hW.ret0 e79
    refine ⟨(by show 2 ≤ sizeLine; decide), ?_⟩
    intro p82 n86
    have e83 := Rx.Ext.new (H := H81) (o := (HO.lst [u75, u80])) n86
    have hp84 : upd H81 p82 (HO.lst [u75, u80]) p82 = some (HO.lst [u75, u80]) := upd_same
    generalize upd H81 p82 (HO.lst [u75, u80]) = H87 at e83 hp84 ⊢
    have h85 : rep ms H87 (D.lst (([r72, r77] : List (Int × (Str × Str × Str) × Str × Bool)).map (fun y_ : (Int × (Str × Str × Str) × Str × Bool) => (eRule A y_)))) (.ref p82) := rep_lst_mk hW n86 e83 hp84 (repL_cons h73 (repL_cons h78 repL_nil))
    replace h2 := rep_ext e83 h2
    replace h32 := rep_ext e83 h32
    replace h48 := rep_ext e83 h48
    replace h71 := rep_ext e83 h71
    replace h73 := rep_ext e83 h73
    replace h78 := rep_ext e83 h78
    replace hW := hW.ret0 e83
    refine ⟨_, rfl, ?_⟩
    refine ⟨_, _, rfl, rfl, .inl ⟨by decide, by decide⟩, ?_⟩
    refine ⟨_, _, rfl, rfl, ?_⟩
    refine ⟨_, rfl, ?_⟩
    refine ⟨_, rfl, ?_⟩
    refine ⟨ms, _, r1, (r6 + r11), _, rfl, hW.enter0, h2, hM, fun r88 u91 H92 hM e90 h89 hfr93 => ?_⟩
    obtain ⟨p_, ws94, rfl, np95, hp, hl96, hv97⟩ := rep_dT h89
    have nl98 := hfr93 p_ rfl
    have hz_ := none0 hW nl98
    replace hv97 := repL_valsD hp hv97
    replace h2 := rep_ext e90 (rep_new nl98 h2)
    replace h32 := rep_ext e90 (rep_new nl98 h32)
    replace h48 := rep_ext e90 (rep_new nl98 h48)
    replace h71 := rep_ext e90 (rep_new nl98 h71)
    replace h73 := rep_ext e90 (rep_new nl98 h73)
    replace h78 := rep_ext e90 (rep_new nl98 h78)
    replace h85 := rep_ext e90 (rep_new nl98 h85)
    replace hW := wd_fresh (hW.ret0 e90) hp
    refine ⟨(by show 3 ≤ sizeLine; decide), ?_⟩
    intro p100 n103
    have e101 := Rx.Ext.new (H := H92) (o := (HO.tup [(V.ref p82), V.int (((2 : Int) * (r6 + r11)) + (2 : Int)), (V.ref p_)])) n103
    have hp102 : upd H92 p100 (HO.tup [(V.ref p82), V.int (((2 : Int) * (r6 + r11)) + (2 : Int)), (V.ref p_)]) p100 = some (HO.tup [(V.ref p82), V.int (((2 : Int) * (r6 + r11)) + (2 : Int)), (V.ref p_)]) := upd_same
    generalize upd H92 p100 (HO.tup [(V.ref p82), V.int (((2 : Int) * (r6 + r11)) + (2 : Int)), (V.ref p_)]) = H104 at e101 hp102 ⊢
    replace h2 := rep_ext e101 h2
    replace h32 := rep_ext e101 h32
    replace h48 := rep_ext e101 h48
    replace h71 := rep_ext e101 h71
    replace h73 := rep_ext e101 h73
    replace h78 := rep_ext e101 h78
    replace h85 := rep_ext e101 h85
    replace hv97 := repL_ext e101 hv97
    replace hp := Rx.Ext.keep e101 hp
    replace hW := hW.ret0 e101
    refine ⟨_, _, rfl, .inl (.inl hp102), rfl, ?_⟩
    refine ⟨_, _, rfl, ?_⟩
    refine ⟨_, _, rfl, ?_⟩
    refine ⟨_, _, rfl, ?_⟩
    refine ⟨rfl, ?_⟩
    obtain ⟨g105, hM⟩ := hM
    apply lc_lens (n := (1 : Int)) hp hv97 g105 (fun _ _ h_ => ⟨_, rfl, h_⟩)
    · skip
      intro k_ b_ v_ H_ R_ dg_ ln_ r_
      refine ⟨rfl, ?_⟩
      refine ⟨_, rfl, _, rfl, _, _, rfl, dg_, _, _, rfl, ln_, ?_⟩
      exact ⟨rfl, r_⟩
    · skip
      intro p106 n110
      have e107 := Rx.Ext.new (H := H104) (o := (HO.lst ((r88.map fun q_ => decide (V.int (lenAt r88 q_.1 : Int) = V.int (1 : Int))).map V.bl))) n110
      have hp108 : upd H104 p106 (HO.lst ((r88.map fun q_ => decide (V.int (lenAt r88 q_.1 : Int) = V.int (1 : Int))).map V.bl)) p106 = some (HO.lst ((r88.map fun q_ => decide (V.int (lenAt r88 q_.1 : Int) = V.int (1 : Int))).map V.bl)) := upd_same
      generalize upd H104 p106 (HO.lst ((r88.map fun q_ => decide (V.int (lenAt r88 q_.1 : Int) = V.int (1 : Int))).map V.bl)) = H111 at e107 hp108 ⊢
      have h109 : rep (p_ :: ms) H111 (D.lst ((r88.map fun q_ => decide (V.int (lenAt r88 q_.1 : Int) = V.int (1 : Int))).map (fun y_ : Bool => (D.v (V.bl y_))))) (.ref p106) := rep_lst_mk hW n110 e107 hp108 repL_blsM
      replace h2 := rep_ext e107 h2
      replace h32 := rep_ext e107 h32
      replace h48 := rep_ext e107 h48
      replace h71 := rep_ext e107 h71
      replace h73 := rep_ext e107 h73
      replace h78 := rep_ext e107 h78
      replace h85 := rep_ext e107 h85
      replace hv97 := repL_ext e107 hv97
      replace hp := Rx.Ext.keep e107 hp
      replace hW := hW.ret0 e107
      apply rep_all h109
      obtain ⟨b112, b112e⟩ : ∃ b_ : Bool, b_ = List.all (r88.map fun q_ => decide (V.int (lenAt r88 q_.1 : Int) = V.int (1 : Int))) id := ⟨_, rfl⟩
      rw [← b112e]
      replace hM := hM b112 b112e
      refine ⟨_, rfl, ?_⟩
      refine for_rangeG (S := Unit) (lo := (0 : Int)) (hi := (2 : Int)) (N := Int.toNat (2 : Int)) (fun (s : Unit) σ_ h_ => ∃ (w_0 : Option V), ∃ (w_1 : Option V), ∃ (w_2 : Option V), ∃ (w_3 : Option V), σ_ = [some (V.ref ap), some u4, some (V.int (r6 + r11)), some (V.ref L24), some (V.ref p82), some (V.int (((2 : Int) * (r6 + r11)) + (2 : Int))), some (V.ref p_), some (V.bl b112), w_0, w_1, w_2, w_3, none, none, none] ∧ Wd (p_ :: ms) [(ap, none)] [] H_0 h_ ∧ Keep (p_ :: ms) H111 h_ ∧ h_ p_ = some (.dT (List.zip (r88.map (·.1)) ws94))) () (by simp) hM ⟨_, _, _, _, rfl, hW, Keep.refl, hp⟩ ?_ ?_
      · skip
        rintro x113 s115 k116 _ H125 ⟨w121, w122, w123, w124, rfl, hW, hk117, hp⟩ hM Nx119 hN120
        replace h2 := rep_keep hk117 h2
        replace h32 := rep_keep hk117 h32
        replace h48 := rep_keep hk117 h48
        replace h71 := rep_keep hk117 h71
        replace h73 := rep_keep hk117 h73
        replace h78 := rep_keep hk117 h78
        replace h85 := rep_keep hk117 h85
        replace hv97 := repL_keep hk117 hv97
        replace h109 := rep_keep hk117 h109
        refine ⟨p_, _, hp, True.intro, fun od126 => ?_⟩
        replace h2 := rep_put (o := .frz od126 (.dT (List.zip (r88.map (·.1)) ws94))) List.mem_cons_self h2
        replace h32 := rep_put (o := .frz od126 (.dT (List.zip (r88.map (·.1)) ws94))) List.mem_cons_self h32
        replace h48 := rep_put (o := .frz od126 (.dT (List.zip (r88.map (·.1)) ws94))) List.mem_cons_self h48
        replace h71 := rep_put (o := .frz od126 (.dT (List.zip (r88.map (·.1)) ws94))) List.mem_cons_self h71
        replace h73 := rep_put (o := .frz od126 (.dT (List.zip (r88.map (·.1)) ws94))) List.mem_cons_self h73
        replace h78 := rep_put (o := .frz od126 (.dT (List.zip (r88.map (·.1)) ws94))) List.mem_cons_self h78
        replace h85 := rep_put (o := .frz od126 (.dT (List.zip (r88.map (·.1)) ws94))) List.mem_cons_self h85
        replace hv97 := repL_put (o := .frz od126 (.dT (List.zip (r88.map (·.1)) ws94))) List.mem_cons_self hv97
        replace h109 := rep_put (o := .frz od126 (.dT (List.zip (r88.map (·.1)) ws94))) List.mem_cons_self h109
        replace hk117 := keep_put (o := .frz od126 (.dT (List.zip (r88.map (·.1)) ws94))) List.mem_cons_self hk117
        replace hW := wd_lockT (o := .frz od126 (.dT (List.zip (r88.map (·.1)) ws94))) hW List.mem_cons_self hz_ hp
        replace hp : upd H125 p_ (.frz od126 (.dT (List.zip (r88.map (·.1)) ws94))) p_ = some (.frz od126 (.dT (List.zip (r88.map (·.1)) ws94))) := upd_same
        generalize upd H125 p_ (.frz od126 (.dT (List.zip (r88.map (·.1)) ws94))) = H127 at *
        refine ⟨_, rfl, ?_⟩
        refine ⟨p_, _, rfl, .inr ⟨_, hp, ?_⟩⟩
        obtain ⟨ks133, hks134, hM⟩ := hM
        refine for_keysG (S := Unit) (items := ks133) (e := tpI) (kf := kfI) (fun _ => rfl) (keys_zip hl96 hks134) (fun (s : Unit) σ_ h_ => ∃ (w_0 : Option V), ∃ (w_1 : Option V), ∃ (w_2 : Option V), σ_ = [some (V.ref ap), some u4, some (V.int (r6 + r11)), some (V.ref L24), some (V.ref p82), some (V.int (((2 : Int) * (r6 + r11)) + (2 : Int))), some (V.ref p_), some (V.bl b112), some (V.int x113), w_0, w_1, w_2, none, none, none] ∧ Wd (p_ :: ms) [(ap, none)] [] H_0 h_ ∧ Keep (p_ :: ms) H127 h_ ∧ h_ p_ = some (.frz od126 (.dT (List.zip (r88.map (·.1)) ws94)))) () (fun _ _ _ z_ => by obtain ⟨_, _, _, _, _, _, q_⟩ := z_; exact q_) hM ⟨_, _, _, rfl, hW, Keep.refl, hp⟩ ?_ ?_
        · skip
          rintro x136 u137 s138 k139 _ H147 ⟨w144, w145, w146, rfl, hW, hk140, hp⟩ h141 hM Nx142 hN143
          replace h2 := rep_keep hk140 h2
          replace h32 := rep_keep hk140 h32
          replace h48 := rep_keep hk140 h48
          replace h71 := rep_keep hk140 h71
          replace h73 := rep_keep hk140 h73
          replace h78 := rep_keep hk140 h78
          replace h85 := rep_keep hk140 h85
          replace hv97 := repL_keep hk140 hv97
          replace h109 := rep_keep hk140 h109
          replace hk117 := Keep.trans hk117 hk140
          apply rep_gtup h141 rfl
          intro vs148 hv149
          obtain ⟨u150, us151, rfl, h152, hv153⟩ := repL_uncons hv149
          obtain rfl := of_v h152
          obtain ⟨u154, us155, rfl, h156, hv157⟩ := repL_uncons hv153
          obtain rfl := of_v h156
          obtain rfl := repL_empty hv157
          refine ⟨_, _, rfl, ?_⟩
          refine ⟨_, _, rfl, ?_⟩
          refine ⟨rfl, ?_⟩
          refine ⟨_, rfl, ?_⟩
          refine ⟨_, rfl, ?_⟩
          obtain ⟨g158, g159, hM⟩ := hM
          apply rep_ixL (e := (fun y_ : (Int × (Str × Str × Str) × Str × Bool) => (eRule A y_))) (xs := ([r72, r77] : List (Int × (Str × Str × Str) × Str × Bool))) h85 g158 g159
          intro u162 h160
          obtain ⟨x161, x161e⟩ : ∃ x_, x_ = ([r72, r77] : List (Int × (Str × Str × Str) × Str × Bool))[Int.toNat x113]'g159 := ⟨_, rfl⟩
          rw [← x161e] at h160
          replace hM := hM x161 x161e
          refine ⟨_, rfl, ?_⟩
          refine ⟨_, rfl, ?_⟩
          refine ⟨_, rfl, ?_⟩
          refine ⟨(p_ :: ms), _, x161, (((2 : Int) * (r6 + r11)) + (2 : Int)), x136.1, x136.2, _, rfl, hW.enter0, h160, hM, fun r163 u166 H167 hM e165 h164 hfr168 => ?_⟩
          obtain ⟨L169, vs170, rfl, nm172, hv173, hr174⟩ := rep_lstAt h164
          have nl171 := hfr168 L169 rfl
          have kn175 := keep_none (w := hW) nl171 hk117
          have kn176 := keep_none (w := hW) nl171 hk140
          have mu177 := mo_fresh (ds := r163.map (fun y_ : Int => (D.v (V.int y_)))) hW nl171 nm172 hv173 hr174 (by first | rfl | exact noMs_mapT (fun _ => rfl) _ | exact noMs_mapF (fun _ => rfl) _)
          replace h2 := rep_ext e165 (rep_new nl171 h2)
          replace h32 := rep_ext e165 (rep_new nl171 h32)
          replace h48 := rep_ext e165 (rep_new nl171 h48)
          replace h71 := rep_ext e165 (rep_new nl171 h71)
          replace h73 := rep_ext e165 (rep_new nl171 h73)
          replace h78 := rep_ext e165 (rep_new nl171 h78)
          replace h85 := rep_ext e165 (rep_new nl171 h85)
          replace hv97 := repL_ext e165 (repL_new nl171 hv97)
          replace h109 := rep_ext e165 (rep_new nl171 h109)
          replace hk117 := keep_ext e165 (Keep.new (l := L169) hk117)
          replace hk140 := keep_ext e165 (Keep.new (l := L169) hk140)
          replace h160 := rep_ext e165 (rep_new nl171 h160)
          replace hp := Rx.Ext.keep e165 hp
          replace hW := wd_fresh (hW.ret0 e165) hv173
          refine ⟨_, rfl, ?_⟩
          have h178 := mo_rep_dr dr_here nm172 mu177
          obtain ⟨g179, hM⟩ := hM
          apply rep_repr (d := (D.lst (r163.map (fun y_ : Int => (D.v (V.int y_)))))) h178 g179.1 g179.2.1 g179.2.2.1 g179.2.2.2.1 g179.2.2.2.2
          refine ⟨_, rfl, ?_⟩
          refine ⟨_, rfl, ?_⟩
          refine ⟨_, rfl, ?_⟩
          refine ⟨(by show 2 ≤ sizeLine; decide), ?_⟩
          intro p180 n184
          have e181 := Rx.Ext.new (H := H167) (o := (HO.tup [V.int x136.1, V.int x136.2])) n184
          have hp182 : upd H167 p180 (HO.tup [V.int x136.1, V.int x136.2]) p180 = some (HO.tup [V.int x136.1, V.int x136.2]) := upd_same
          generalize upd H167 p180 (HO.tup [V.int x136.1, V.int x136.2]) = H185 at e181 hp182 ⊢
          have h183 : rep (L169 :: (p_ :: ms)) H185 (D.tup [(D.v (V.int x136.1)), (D.v (V.int x136.2))]) (.ref p180) := rep_tup_mk hW n184 e181 hp182 (repL_cons rep_v (repL_cons rep_v repL_nil))
          replace h2 := rep_ext e181 h2
          replace h32 := rep_ext e181 h32
          replace h48 := rep_ext e181 h48
          replace h71 := rep_ext e181 h71
          replace h73 := rep_ext e181 h73
          replace h78 := rep_ext e181 h78
          replace h85 := rep_ext e181 h85
          replace hv97 := repL_ext e181 hv97
          replace h109 := rep_ext e181 h109
          replace hk117 := keep_ext e181 hk117
          replace hk140 := keep_ext e181 hk140
          replace h160 := rep_ext e181 h160
          replace mu177 := mo_ext e181 mu177
          replace hp := Rx.Ext.keep e181 hp
          replace hW := hW.ret0 e181
          obtain ⟨y186, hy187, hM⟩ := hM
          apply ownd_get (m := r88) (ks := ([Sum.inl x136.1, Sum.inl x136.2] : List Key)) (y := y186) (.inr ⟨_, hp⟩) hv97 h183 rfl hy187
          intro u189 h188
          obtain ⟨g190, hM⟩ := hM
          apply rep_repr (d := (D.lst (y186.map (fun y_ : Int => (D.v (V.int y_)))))) h188 g190.1 g190.2.1 g190.2.2.1 g190.2.2.2.1 g190.2.2.2.2
          refine ⟨rfl, ?_⟩
          refine ⟨_, rfl, ?_⟩
          refine ite3 hM (fun hM => ?_) (fun hM => ?_)
          · skip
            refine iteT ?_
            exact ⟨hp, hQ false _ _ hM (wd_lockF (o := .dT (List.zip (r88.map (·.1)) ws94)) hW (List.mem_cons_of_mem _ List.mem_cons_self) hz_ hp).out rep_v⟩
          · skip
            refine ⟨_, rfl, ?_⟩
            refine ⟨_, rfl, ?_⟩
            obtain ⟨g191, g192, hM⟩ := hM
            apply rep_ixL (e := (fun y_ : (Int × (Str × Str × Str) × Str × Bool) => (eRule A y_))) (xs := ([r72, r77] : List (Int × (Str × Str × Str) × Str × Bool))) h85 g191 g192
            intro u195 h193
            obtain ⟨x194, x194e⟩ : ∃ x_, x_ = ([r72, r77] : List (Int × (Str × Str × Str) × Str × Bool))[Int.toNat x113]'g192 := ⟨_, rfl⟩
            rw [← x194e] at h193
            replace hM := hM x194 x194e
            refine ⟨_, rfl, ?_⟩
            refine ⟨_, rfl, ?_⟩
            refine ⟨_, rfl, ?_⟩
            refine ⟨(L169 :: (p_ :: ms)), _, x194, (((2 : Int) * (r6 + r11)) + (2 : Int)), x136.2, x136.1, _, rfl, hW.enter0, h193, hM, fun r196 u199 H200 hM e198 h197 hfr201 => ?_⟩
            replace h2 := rep_ext e198 h2
            replace h32 := rep_ext e198 h32
            replace h48 := rep_ext e198 h48
            replace h71 := rep_ext e198 h71
            replace h73 := rep_ext e198 h73
            replace h78 := rep_ext e198 h78
            replace h85 := rep_ext e198 h85
            replace hv97 := repL_ext e198 hv97
            replace h109 := rep_ext e198 h109
            replace hk117 := keep_ext e198 hk117
            replace hk140 := keep_ext e198 hk140
            replace h160 := rep_ext e198 h160
            replace h183 := rep_ext e198 h183
            replace h188 := rep_ext e198 h188
            replace h193 := rep_ext e198 h193
            replace mu177 := mo_ext e198 mu177
            replace hp := Rx.Ext.keep e198 hp
            replace hW := hW.ret0 e198
            refine ⟨_, rfl, ?_⟩
            have hz202 := mo_rep_dr dr_here nm172 mu177
            obtain ⟨g203, hM⟩ := hM
            apply rep_neD2 (d := (D.lst (r196.map (fun y_ : Int => (D.v (V.int y_)))))) (e := (D.lst (r163.map (fun y_ : Int => (D.v (V.int y_)))))) (rep_dr dr_here h197) hz202 g203.1 g203.2.1 g203.2.2.1 g203.2.2.2
            refine ⟨_, rfl, ?_⟩
            refine ite3 hM (fun hM => ?_) (fun hM => ?_)
            · skip
              exact ⟨hp, hQ false _ _ hM (wd_lockF (o := .dT (List.zip (r88.map (·.1)) ws94)) hW (List.mem_cons_of_mem _ List.mem_cons_self) hz_ hp).out rep_v⟩
            · skip
              refine ⟨_, rfl, ?_⟩
              refine ⟨mo_tyL mu177, ?_⟩
              obtain ⟨g204, hM⟩ := hM
              apply mo_appU mu177 (by rw [List.length_map]; exact g204)
              intro vs205 hr207
              have mk209 := mo_setL mu177 (repL_snoc (e := (fun y_ : Int => (D.v (V.int y_)))) (xs := r163) (y := (0 : Int)) hr207 rep_v)
              replace h2 := rep_put (o := .lst (vs205 ++ [V.int (0 : Int)])) mu177.im h2
              replace h32 := rep_put (o := .lst (vs205 ++ [V.int (0 : Int)])) mu177.im h32
              replace h48 := rep_put (o := .lst (vs205 ++ [V.int (0 : Int)])) mu177.im h48
              replace h71 := rep_put (o := .lst (vs205 ++ [V.int (0 : Int)])) mu177.im h71
              replace h73 := rep_put (o := .lst (vs205 ++ [V.int (0 : Int)])) mu177.im h73
              replace h78 := rep_put (o := .lst (vs205 ++ [V.int (0 : Int)])) mu177.im h78
              replace h85 := rep_put (o := .lst (vs205 ++ [V.int (0 : Int)])) mu177.im h85
              replace hv97 := repL_put (o := .lst (vs205 ++ [V.int (0 : Int)])) mu177.im hv97
              replace h109 := rep_put (o := .lst (vs205 ++ [V.int (0 : Int)])) mu177.im h109
              replace hk117 := keep_put (o := .lst (vs205 ++ [V.int (0 : Int)])) mu177.im hk117
              replace hk140 := keep_put (o := .lst (vs205 ++ [V.int (0 : Int)])) mu177.im hk140
              replace h160 := rep_put (o := .lst (vs205 ++ [V.int (0 : Int)])) mu177.im h160
              replace h183 := rep_put (o := .lst (vs205 ++ [V.int (0 : Int)])) mu177.im h183
              replace h188 := rep_put (o := .lst (vs205 ++ [V.int (0 : Int)])) mu177.im h188
              replace h193 := rep_put (o := .lst (vs205 ++ [V.int (0 : Int)])) mu177.im h193
              replace h197 := rep_put (o := .lst (vs205 ++ [V.int (0 : Int)])) mu177.im h197
              replace hp := at_putL (o := .lst (vs205 ++ [V.int (0 : Int)])) hp (fun _ z_ => nomatch z_) mu177
              replace hW := wd_put (o := .lst (vs205 ++ [V.int (0 : Int)])) hW mu177
              replace mu177 := mk209
              generalize upd H200 L169 (.lst (vs205 ++ [V.int (0 : Int)])) = H210 at *
              replace mu177 : MutO (L169 :: (p_ :: ms)) [(ap, none)] H_0 H210 L169 (D.lst ((r163 ++ [(0 : Int)]).map (fun y_ : Int => (D.v (V.int y_))))) := mu177
              clear mk209
              have h211 := mo_rep_dr dr_here nm172 mu177
              replace hW := wd_dr dr_here mu177.hp hW
              replace h2 := rep_dr dr_here h2
              replace h32 := rep_dr dr_here h32
              replace h48 := rep_dr dr_here h48
              replace h71 := rep_dr dr_here h71
              replace h73 := rep_dr dr_here h73
              replace h78 := rep_dr dr_here h78
              replace h85 := rep_dr dr_here h85
              replace hv97 := repL_dr dr_here hv97
              replace h109 := rep_dr dr_here h109
              replace hk117 := keep_dr dr_here kn175 hk117
              replace hk140 := keep_dr dr_here kn176 hk140
              replace h160 := rep_dr dr_here h160
              replace h183 := rep_dr dr_here h183
              replace h188 := rep_dr dr_here h188
              replace h193 := rep_dr dr_here h193
              replace h197 := rep_dr dr_here h197
              clear mu177
              exact hN143 () _ _ hM ⟨_, _, _, rfl, hW, hk140, hp⟩
        · skip
          rintro s212 _ H217 hM ⟨w214, w215, w216, rfl, hW, hk213, hp⟩
          replace h2 := rep_keep hk213 h2
          replace h32 := rep_keep hk213 h32
          replace h48 := rep_keep hk213 h48
          replace h71 := rep_keep hk213 h71
          replace h73 := rep_keep hk213 h73
          replace h78 := rep_keep hk213 h78
          replace h85 := rep_keep hk213 h85
          replace hv97 := repL_keep hk213 hv97
          replace h109 := rep_keep hk213 h109
          replace hk117 := Keep.trans hk117 hk213
          refine ⟨hp, ?_⟩
          replace h2 := rep_put (o := .dT (List.zip (r88.map (·.1)) ws94)) List.mem_cons_self h2
          replace h32 := rep_put (o := .dT (List.zip (r88.map (·.1)) ws94)) List.mem_cons_self h32
          replace h48 := rep_put (o := .dT (List.zip (r88.map (·.1)) ws94)) List.mem_cons_self h48
          replace h71 := rep_put (o := .dT (List.zip (r88.map (·.1)) ws94)) List.mem_cons_self h71
          replace h73 := rep_put (o := .dT (List.zip (r88.map (·.1)) ws94)) List.mem_cons_self h73
          replace h78 := rep_put (o := .dT (List.zip (r88.map (·.1)) ws94)) List.mem_cons_self h78
          replace h85 := rep_put (o := .dT (List.zip (r88.map (·.1)) ws94)) List.mem_cons_self h85
          replace hv97 := repL_put (o := .dT (List.zip (r88.map (·.1)) ws94)) List.mem_cons_self hv97
          replace h109 := rep_put (o := .dT (List.zip (r88.map (·.1)) ws94)) List.mem_cons_self h109
          replace hk117 := keep_put (o := .dT (List.zip (r88.map (·.1)) ws94)) List.mem_cons_self hk117
          replace hW := wd_lockF (o := .dT (List.zip (r88.map (·.1)) ws94)) hW List.mem_cons_self hz_ hp
          replace hp : upd H217 p_ (.dT (List.zip (r88.map (·.1)) ws94)) p_ = some (.dT (List.zip (r88.map (·.1)) ws94)) := upd_same
          generalize upd H217 p_ (.dT (List.zip (r88.map (·.1)) ws94)) = H218 at *
          refine ⟨_, rfl, ?_⟩
          apply rep_iter h85
          intro a219 xs220 _ an221 hp222 hl223
          refine fun L224 nl225 => ?_
          have nm239 := nm_new hW nl225
          have kn240 := keep_none (w := hW) nl225 hk117
          refine lc_listG (L := L224) (fun n_ ys_ h_ => Wd (L224 :: (p_ :: ms)) [(ap, none)] [] H_0 h_ ∧ Keep (L224 :: (p_ :: ms)) H218 h_ ∧ MutO (L224 :: (p_ :: ms)) [(ap, none)] H_0 h_ L224 (D.lst (ys_.map (fun y_ : Bool => (D.v (V.bl y_))))) ∧ ys_.length ≤ n_ ∧ h_ p_ = some (.dT (List.zip (r88.map (·.1)) ws94))) (items := ([r72, r77] : List (Int × (Str × Str × Str) × Str × Bool))) (e := (fun y_ : (Int × (Str × Str × Str) × Str × Bool) => (eRule A y_))) an221 hp222 hl223 nl225 (fun _ _ _ q_ => q_.2.1) hM ⟨wd_cell hW nl225, keep_cell nl225 Keep.refl, mo_newL (ds := []) hW nl225 repL_nil, Nat.le_refl _, Rx.Ext.keep (Rx.Ext.new nl225) hp⟩ ?_ ?_
          · skip
            rintro x235 u236 n226 ys227 k228 H241 hn ⟨hW, hk229, mu230, ln231, hp⟩ h237 hM Nx234 hN232
            replace h2 := rep_keep hk229 (rep_new nl225 h2)
            replace h32 := rep_keep hk229 (rep_new nl225 h32)
            replace h48 := rep_keep hk229 (rep_new nl225 h48)
            replace h71 := rep_keep hk229 (rep_new nl225 h71)
            replace h73 := rep_keep hk229 (rep_new nl225 h73)
            replace h78 := rep_keep hk229 (rep_new nl225 h78)
            replace h85 := rep_keep hk229 (rep_new nl225 h85)
            replace hv97 := repL_keep hk229 (repL_new nl225 hv97)
            replace h109 := rep_keep hk229 (rep_new nl225 h109)
            replace hk117 := Keep.trans (Keep.new hk117) hk229
            refine ⟨rfl, ?_⟩
            refine tyes_of ?_
            refine ⟨_, rfl, ?_⟩
            refine ⟨_, rfl, ?_⟩
            refine ⟨(L224 :: (p_ :: ms)), _, x235, (((2 : Int) * (r6 + r11)) + (2 : Int)), _, rfl, hW.enter0, h237, hM, fun r242 u245 H246 hM e244 h243 => ?_⟩
            replace h2 := rep_ext e244 h2
            replace h32 := rep_ext e244 h32
            replace h48 := rep_ext e244 h48
            replace h71 := rep_ext e244 h71
            replace h73 := rep_ext e244 h73
            replace h78 := rep_ext e244 h78
            replace h85 := rep_ext e244 h85
            replace hv97 := repL_ext e244 hv97
            replace h109 := rep_ext e244 h109
            replace hk117 := keep_ext e244 hk117
            replace hk229 := keep_ext e244 hk229
            replace h237 := rep_ext e244 h237
            replace mu230 := mo_ext e244 mu230
            replace hp := Rx.Ext.keep e244 hp
            replace hW := hW.ret0 e244
            obtain rfl := of_v h243
            refine mo_end mu230 hn (by rw [List.length_map]; exact ln231) fun vs247 hr248 => ?_
            have mk250 := mo_setL mu230 (repL_snoc (e := (fun y_ : Bool => (D.v (V.bl y_)))) (xs := ys227) (y := r242) hr248 rep_v)
            replace h2 := rep_put (o := .lst (vs247 ++ [V.bl r242])) mu230.im h2
            replace h32 := rep_put (o := .lst (vs247 ++ [V.bl r242])) mu230.im h32
            replace h48 := rep_put (o := .lst (vs247 ++ [V.bl r242])) mu230.im h48
            replace h71 := rep_put (o := .lst (vs247 ++ [V.bl r242])) mu230.im h71
            replace h73 := rep_put (o := .lst (vs247 ++ [V.bl r242])) mu230.im h73
            replace h78 := rep_put (o := .lst (vs247 ++ [V.bl r242])) mu230.im h78
            replace h85 := rep_put (o := .lst (vs247 ++ [V.bl r242])) mu230.im h85
            replace hv97 := repL_put (o := .lst (vs247 ++ [V.bl r242])) mu230.im hv97
            replace h109 := rep_put (o := .lst (vs247 ++ [V.bl r242])) mu230.im h109
            replace hk117 := keep_put (o := .lst (vs247 ++ [V.bl r242])) mu230.im hk117
            replace hk229 := keep_put (o := .lst (vs247 ++ [V.bl r242])) mu230.im hk229
            replace h237 := rep_put (o := .lst (vs247 ++ [V.bl r242])) mu230.im h237
            replace hp := at_putL (o := .lst (vs247 ++ [V.bl r242])) hp (fun _ z_ => nomatch z_) mu230
            replace hW := wd_put (o := .lst (vs247 ++ [V.bl r242])) hW mu230
            replace mu230 := mk250
            generalize upd H246 L224 (.lst (vs247 ++ [V.bl r242])) = H251 at *
            replace mu230 : MutO (L224 :: (p_ :: ms)) [(ap, none)] H_0 H251 L224 (D.lst ((ys227 ++ [r242]).map (fun y_ : Bool => (D.v (V.bl y_))))) := mu230
            clear mk250
            exact hN232 r242 _ hM ⟨hW, hk229, mu230, by rw [List.length_append]; exact Nat.add_le_add_right ln231 1, hp⟩
          · skip
            rintro n226 ys252 H253 hM ⟨hW, hk229, mu230, ln231, hp⟩
            replace h2 := rep_keep hk229 (rep_new nl225 h2)
            replace h32 := rep_keep hk229 (rep_new nl225 h32)
            replace h48 := rep_keep hk229 (rep_new nl225 h48)
            replace h71 := rep_keep hk229 (rep_new nl225 h71)
            replace h73 := rep_keep hk229 (rep_new nl225 h73)
            replace h78 := rep_keep hk229 (rep_new nl225 h78)
            replace h85 := rep_keep hk229 (rep_new nl225 h85)
            replace hv97 := repL_keep hk229 (repL_new nl225 hv97)
            replace h109 := rep_keep hk229 (rep_new nl225 h109)
            replace hk117 := Keep.trans (Keep.new hk117) hk229
            clear hk229 ln231
            have h254 := mo_rep_dr dr_here nm239 mu230
            replace hW := wd_dr dr_here mu230.hp hW
            replace h2 := rep_dr dr_here h2
            replace h32 := rep_dr dr_here h32
            replace h48 := rep_dr dr_here h48
            replace h71 := rep_dr dr_here h71
            replace h73 := rep_dr dr_here h73
            replace h78 := rep_dr dr_here h78
            replace h85 := rep_dr dr_here h85
            replace hv97 := repL_dr dr_here hv97
            replace h109 := rep_dr dr_here h109
            replace hk117 := keep_dr dr_here kn240 hk117
            clear mu230
            obtain ⟨g255, hM⟩ := hM
            apply rep_repr (d := (D.lst (ys252.map (fun y_ : Bool => (D.v (V.bl y_)))))) h254 g255.1 g255.2.1 g255.2.2.1 g255.2.2.2.1 g255.2.2.2.2
            refine ⟨_, rfl, ?_⟩
            refine ⟨_, rfl, ?_⟩
            refine ⟨(by show 2 ≤ sizeLine; decide), ?_⟩
            intro p256 n260
            have e257 := Rx.Ext.new (H := H253) (o := (HO.lst [V.bl b112, V.bl b112])) n260
            have hp258 : upd H253 p256 (HO.lst [V.bl b112, V.bl b112]) p256 = some (HO.lst [V.bl b112, V.bl b112]) := upd_same
            generalize upd H253 p256 (HO.lst [V.bl b112, V.bl b112]) = H261 at e257 hp258 ⊢
            have h259 : rep (p_ :: ms) H261 (D.lst (([b112, b112] : List Bool).map (fun y_ : Bool => (D.v (V.bl y_))))) (.ref p256) := rep_lst_mk hW n260 e257 hp258 (repL_cons rep_v (repL_cons rep_v repL_nil))
            replace h2 := rep_ext e257 h2
            replace h32 := rep_ext e257 h32
            replace h48 := rep_ext e257 h48
            replace h71 := rep_ext e257 h71
            replace h73 := rep_ext e257 h73
            replace h78 := rep_ext e257 h78
            replace h85 := rep_ext e257 h85
            replace hv97 := repL_ext e257 hv97
            replace h109 := rep_ext e257 h109
            replace hk117 := keep_ext e257 hk117
            replace h254 := rep_ext e257 h254
            replace hp := Rx.Ext.keep e257 hp
            replace hW := hW.ret0 e257
            obtain ⟨g262, hM⟩ := hM
            apply rep_repr (d := (D.lst (([b112, b112] : List Bool).map (fun y_ : Bool => (D.v (V.bl y_)))))) h259 g262.1 g262.2.1 g262.2.2.1 g262.2.2.2.1 g262.2.2.2.2
            refine ⟨rfl, ?_⟩
            refine ⟨_, rfl, ?_⟩
            refine ite3 hM (fun hM => ?_) (fun hM => ?_)
            · skip
              exact hQ false _ _ hM hW.out rep_v
            · skip
              refine ⟨_, rfl, ?_⟩
              refine ⟨_, rfl, ?_⟩
              obtain ⟨g263, g264, hM⟩ := hM
              apply rep_ixL (e := (fun y_ : (Int × (Str × Str × Str) × Str × Bool) => (eRule A y_))) (xs := ([r72, r77] : List (Int × (Str × Str × Str) × Str × Bool))) h85 g263 g264
              intro u267 h265
              obtain ⟨x266, x266e⟩ : ∃ x_, x_ = ([r72, r77] : List (Int × (Str × Str × Str) × Str × Bool))[Int.toNat (0 : Int)]'g264 := ⟨_, rfl⟩
              rw [← x266e] at h265
              replace hM := hM x266 x266e
              refine ⟨rfl, ?_⟩
              refine ⟨(p_ :: ms), _, x266, (((2 : Int) * (r6 + r11)) + (2 : Int)), _, rfl, hW.enter0, h265, hM, fun r268 u271 H272 hM e270 h269 => ?_⟩
              replace h2 := rep_ext e270 h2
              replace h32 := rep_ext e270 h32
              replace h48 := rep_ext e270 h48
              replace h71 := rep_ext e270 h71
              replace h73 := rep_ext e270 h73
              replace h78 := rep_ext e270 h78
              replace h85 := rep_ext e270 h85
              replace hv97 := repL_ext e270 hv97
              replace h109 := rep_ext e270 h109
              replace hk117 := keep_ext e270 hk117
              replace h254 := rep_ext e270 h254
              replace h259 := rep_ext e270 h259
              replace h265 := rep_ext e270 h265
              replace hp := Rx.Ext.keep e270 hp
              replace hW := hW.ret0 e270
              obtain rfl := of_v h269
              obtain ⟨g273, hM⟩ := hM
              apply rep_repr (d := (D.v (V.bl r268))) (rep_v (ms := ([] : List Addr))) g273.1 g273.2.1 g273.2.2.1 g273.2.2.2.1 g273.2.2.2.2
              refine ⟨_, rfl, ?_⟩
              obtain ⟨g274, hM⟩ := hM
              apply rep_repr (d := (D.v (V.bl b112))) (rep_v (ms := ([] : List Addr))) g274.1 g274.2.1 g274.2.2.1 g274.2.2.2.1 g274.2.2.2.2
              refine ⟨rfl, ?_⟩
              refine ⟨_, rfl, ?_⟩
              refine ite3 hM (fun hM => ?_) (fun hM => ?_)
              · skip
                exact hQ false _ _ hM hW.out rep_v
              · skip
                exact hN120 () _ _ hM ⟨_, _, _, _, rfl, hW, hk117, hp⟩
      · skip
        rintro s275 _ H281 hM ⟨w277, w278, w279, w280, rfl, hW, hk276, hp⟩
        replace h2 := rep_keep hk276 h2
        replace h32 := rep_keep hk276 h32
        replace h48 := rep_keep hk276 h48
        replace h71 := rep_keep hk276 h71
        replace h73 := rep_keep hk276 h73
        replace h78 := rep_keep hk276 h78
        replace h85 := rep_keep hk276 h85
        replace hv97 := repL_keep hk276 hv97
        replace h109 := rep_keep hk276 h109
        refine ⟨_, rfl, ?_⟩
        refine ⟨_, rfl, ?_⟩
        obtain ⟨ks282, hks283, hM⟩ := hM
        refine ⟨p_, _, rfl, .inl hp, fun p284 bs285 n286 hb287 => ?_⟩
        have KL289 := keys_list hW hb287 (keys_zip hl96 hks283) n286
        have e288 := Rx.Ext.new (H := H281) (o := HO.lst (bs285.map V.ref)) n286
        generalize upd H281 p284 (HO.lst (bs285.map V.ref)) = H290 at KL289 e288 ⊢
        replace h2 := rep_ext e288 h2
        replace h32 := rep_ext e288 h32
        replace h48 := rep_ext e288 h48
        replace h71 := rep_ext e288 h71
        replace h73 := rep_ext e288 h73
        replace h78 := rep_ext e288 h78
        replace h85 := rep_ext e288 h85
        replace hv97 := repL_ext e288 hv97
        replace h109 := rep_ext e288 h109
        replace hp := Rx.Ext.keep e288 hp
        replace hW := hW.ret0 e288
        refine ⟨[ap], ap, _, ks282, _, rfl, (wd_pot hW).enterP, KL289, hM, fun r291 u294 H295 hM e293 hweak292 => ?_⟩
        replace h2 := rep_ret hW e293 h2
        replace h32 := rep_ret hW e293 h32
        replace h48 := rep_ret hW e293 h48
        replace h71 := rep_ret hW e293 h71
        replace h73 := rep_ret hW e293 h73
        replace h78 := rep_ret hW e293 h78
        replace h85 := rep_ret hW e293 h85
        replace hv97 := repL_ret hW e293 hv97
        replace h109 := rep_ret hW e293 h109
        replace hp := e293.kp _ _ (dT_pot hW hp) hp
        replace hW := hW.retP e293
        refine ⟨_, rfl, ?_⟩
        obtain ⟨g296, g297, hM⟩ := hM
        apply rep_ixL (e := (fun y_ : (Int × (Str × Str × Str) × Str × Bool) => (eRule A y_))) (xs := ([r72, r77] : List (Int × (Str × Str × Str) × Str × Bool))) h85 g296 g297
        intro u300 h298
        obtain ⟨x299, x299e⟩ : ∃ x_, x_ = ([r72, r77] : List (Int × (Str × Str × Str) × Str × Bool))[Int.toNat (0 : Int)]'g297 := ⟨_, rfl⟩
        rw [← x299e] at h298
        replace hM := hM x299 x299e
        refine ⟨_, rfl, ?_⟩
        refine ⟨_, rfl, ?_⟩
        refine ⟨_, _, rfl, rfl, ?_⟩
        refine ⟨(p_ :: ms), _, x299, (((2 : Int) * (r6 + r11)) + (2 : Int)), (0 : Int), ((((2 : Int) * (r6 + r11)) + (2 : Int)) - (1 : Int)), _, rfl, hW.enter0, h298, hM, fun r301 u304 H305 hM e303 h302 hfr306 => ?_⟩
        replace h2 := rep_ext e303 h2
        replace h32 := rep_ext e303 h32
        replace h48 := rep_ext e303 h48
        replace h71 := rep_ext e303 h71
        replace h73 := rep_ext e303 h73
        replace h78 := rep_ext e303 h78
        replace h85 := rep_ext e303 h85
        replace hv97 := repL_ext e303 hv97
        replace h109 := rep_ext e303 h109
        replace hweak292 := rep_ext e303 hweak292
        replace h298 := rep_ext e303 h298
        replace hp := Rx.Ext.keep e303 hp
        replace hW := hW.ret0 e303
        refine ⟨(by show 2 ≤ sizeLine; decide), ?_⟩
        intro p307 n311
        have e308 := Rx.Ext.new (H := H305) (o := (HO.tup [u294, u304])) n311
        have hp309 : upd H305 p307 (HO.tup [u294, u304]) p307 = some (HO.tup [u294, u304]) := upd_same
        generalize upd H305 p307 (HO.tup [u294, u304]) = H312 at e308 hp309 ⊢
        have h310 : rep [ap] H312 (D.tup [(D.tup [(D.v (V.int r291.1)), (D.v (V.int r291.2))]), (D.lst (r301.map (fun y_ : Int => (D.v (V.int y_)))))]) (.ref p307) := rep_tup_mk (wd_pot hW) n311 e308 hp309 (repL_cons hweak292 (repL_cons (rep_low hW h302) repL_nil))
        replace h2 := rep_ext e308 h2
        replace h32 := rep_ext e308 h32
        replace h48 := rep_ext e308 h48
        replace h71 := rep_ext e308 h71
        replace h73 := rep_ext e308 h73
        replace h78 := rep_ext e308 h78
        replace h85 := rep_ext e308 h85
        replace hv97 := repL_ext e308 hv97
        replace h109 := rep_ext e308 h109
        replace hweak292 := rep_ext e308 hweak292
        replace h298 := rep_ext e308 h298
        replace h302 := rep_ext e308 h302
        replace hp := Rx.Ext.keep e308 hp
        replace hW := hW.ret0 e308
        apply rep_gtup h310 rfl
        intro vs313 hv314
        obtain ⟨u315, us316, rfl, h317, hv318⟩ := repL_uncons hv314
        obtain ⟨u319, us320, rfl, h321, hv322⟩ := repL_uncons hv318
        obtain rfl := repL_empty hv322
        refine ⟨_, _, rfl, ?_⟩
        apply rep_gtup h317 rfl
        intro vs323 hv324
        obtain ⟨u325, us326, rfl, h327, hv328⟩ := repL_uncons hv324
        obtain rfl := of_v h327
        obtain ⟨u329, us330, rfl, h331, hv332⟩ := repL_uncons hv328
        obtain rfl := of_v h331
        obtain rfl := repL_empty hv332
        refine ⟨_, _, rfl, ?_⟩
        refine ⟨_, _, rfl, ?_⟩
        refine ⟨rfl, ?_⟩
        refine ⟨_, _, rfl, ?_⟩
        refine ⟨rfl, ?_⟩
        refine ⟨_, rfl, ?_⟩
        refine ⟨_, rfl, ?_⟩
        refine ⟨_, rfl, ?_⟩
        refine ⟨_, _, rfl, rfl, ?_⟩
        refine ⟨(by show 2 ≤ sizeLine; decide), ?_⟩
        intro p333 n337
        have e334 := Rx.Ext.new (H := H312) (o := (HO.tup [V.int (0 : Int), V.int ((((2 : Int) * (r6 + r11)) + (2 : Int)) - (1 : Int))])) n337
        have hp335 : upd H312 p333 (HO.tup [V.int (0 : Int), V.int ((((2 : Int) * (r6 + r11)) + (2 : Int)) - (1 : Int))]) p333 = some (HO.tup [V.int (0 : Int), V.int ((((2 : Int) * (r6 + r11)) + (2 : Int)) - (1 : Int))]) := upd_same
        generalize upd H312 p333 (HO.tup [V.int (0 : Int), V.int ((((2 : Int) * (r6 + r11)) + (2 : Int)) - (1 : Int))]) = H338 at e334 hp335 ⊢
        have h336 : rep (p_ :: ms) H338 (D.tup [(D.v (V.int (0 : Int))), (D.v (V.int ((((2 : Int) * (r6 + r11)) + (2 : Int)) - (1 : Int))))]) (.ref p333) := rep_tup_mk hW n337 e334 hp335 (repL_cons rep_v (repL_cons rep_v repL_nil))
        replace h2 := rep_ext e334 h2
        replace h32 := rep_ext e334 h32
        replace h48 := rep_ext e334 h48
        replace h71 := rep_ext e334 h71
        replace h73 := rep_ext e334 h73
        replace h78 := rep_ext e334 h78
        replace h85 := rep_ext e334 h85
        replace hv97 := repL_ext e334 hv97
        replace h109 := rep_ext e334 h109
        replace hweak292 := rep_ext e334 hweak292
        replace h298 := rep_ext e334 h298
        replace h302 := rep_ext e334 h302
        replace h310 := rep_ext e334 h310
        replace h317 := rep_ext e334 h317
        replace h321 := rep_ext e334 h321
        replace hp := Rx.Ext.keep e334 hp
        replace hW := hW.ret0 e334
        obtain ⟨y339, hy340, hM⟩ := hM
        apply ownd_get (m := r88) (ks := ([Sum.inl (0 : Int), Sum.inl ((((2 : Int) * (r6 + r11)) + (2 : Int)) - (1 : Int))] : List Key)) (y := y339) (.inl hp) hv97 h336 rfl hy340
        intro u342 h341
        obtain ⟨g343, hM⟩ := hM
        apply rep_neD2 (d := (D.lst (r301.map (fun y_ : Int => (D.v (V.int y_)))))) (e := (D.lst (y339.map (fun y_ : Int => (D.v (V.int y_)))))) h321 h341 g343.1 g343.2.1 g343.2.2.1 g343.2.2.2
        refine ⟨_, rfl, ?_⟩
        refine ite3 hM (fun hM => ?_) (fun hM => ?_)
        · skip
          exact hQ false _ _ hM hW.out rep_v
        · skip
          refine ⟨_, rfl, ?_⟩
          refine ⟨_, rfl, ?_⟩
          refine ⟨_, rfl, ?_⟩
          refine ⟨_, rfl, ?_⟩
          obtain ⟨g344, g345, hM⟩ := hM
          apply rep_ixL (e := (fun y_ : (Int × (Str × Str × Str) × Str × Bool) => (eRule A y_))) (xs := ([r72, r77] : List (Int × (Str × Str × Str) × Str × Bool))) h85 g344 g345
          intro u348 h346
          obtain ⟨x347, x347e⟩ : ∃ x_, x_ = ([r72, r77] : List (Int × (Str × Str × Str) × Str × Bool))[Int.toNat (0 : Int)]'g345 := ⟨_, rfl⟩
          rw [← x347e] at h346
          replace hM := hM x347 x347e
          refine ⟨rfl, ?_⟩
          refine ⟨(p_ :: ms), _, x347, (((2 : Int) * (r6 + r11)) + (2 : Int)), r291.1, r291.2, _, rfl, hW.enter0, h346, hM, fun r349 u352 H353 hM e351 h350 hfr354 => ?_⟩
          replace h2 := rep_ext e351 h2
          replace h32 := rep_ext e351 h32
          replace h48 := rep_ext e351 h48
          replace h71 := rep_ext e351 h71
          replace h73 := rep_ext e351 h73
          replace h78 := rep_ext e351 h78
          replace h85 := rep_ext e351 h85
          replace hv97 := repL_ext e351 hv97
          replace h109 := rep_ext e351 h109
          replace hweak292 := rep_ext e351 hweak292
          replace h298 := rep_ext e351 h298
          replace h302 := rep_ext e351 h302
          replace h310 := rep_ext e351 h310
          replace h317 := rep_ext e351 h317
          replace h321 := rep_ext e351 h321
          replace h336 := rep_ext e351 h336
          replace h341 := rep_ext e351 h341
          replace h346 := rep_ext e351 h346
          replace hp := Rx.Ext.keep e351 hp
          replace hW := hW.ret0 e351
          refine ⟨_, rfl, ?_⟩
          refine ⟨_, rfl, ?_⟩
          refine ⟨_, rfl, ?_⟩
          refine ⟨(by show 2 ≤ sizeLine; decide), ?_⟩
          intro p355 n359
          have e356 := Rx.Ext.new (H := H353) (o := (HO.tup [V.int r291.1, V.int r291.2])) n359
          have hp357 : upd H353 p355 (HO.tup [V.int r291.1, V.int r291.2]) p355 = some (HO.tup [V.int r291.1, V.int r291.2]) := upd_same
          generalize upd H353 p355 (HO.tup [V.int r291.1, V.int r291.2]) = H360 at e356 hp357 ⊢
          have h358 : rep (p_ :: ms) H360 (D.tup [(D.v (V.int r291.1)), (D.v (V.int r291.2))]) (.ref p355) := rep_tup_mk hW n359 e356 hp357 (repL_cons rep_v (repL_cons rep_v repL_nil))
          replace h2 := rep_ext e356 h2
          replace h32 := rep_ext e356 h32
          replace h48 := rep_ext e356 h48
          replace h71 := rep_ext e356 h71
          replace h73 := rep_ext e356 h73
          replace h78 := rep_ext e356 h78
          replace h85 := rep_ext e356 h85
          replace hv97 := repL_ext e356 hv97
          replace h109 := rep_ext e356 h109
          replace hweak292 := rep_ext e356 hweak292
          replace h298 := rep_ext e356 h298
          replace h302 := rep_ext e356 h302
          replace h310 := rep_ext e356 h310
          replace h317 := rep_ext e356 h317
          replace h321 := rep_ext e356 h321
          replace h336 := rep_ext e356 h336
          replace h341 := rep_ext e356 h341
          replace h346 := rep_ext e356 h346
          replace h350 := rep_ext e356 h350
          replace hp := Rx.Ext.keep e356 hp
          replace hW := hW.ret0 e356
          obtain ⟨y361, hy362, hM⟩ := hM
          apply ownd_get (m := r88) (ks := ([Sum.inl r291.1, Sum.inl r291.2] : List Key)) (y := y361) (.inl hp) hv97 h358 rfl hy362
          intro u364 h363
          obtain ⟨g365, hM⟩ := hM
          apply rep_eqD2 (d := (D.lst (r349.map (fun y_ : Int => (D.v (V.int y_)))))) (e := (D.lst (y361.map (fun y_ : Int => (D.v (V.int y_)))))) h350 h363 g365.1 g365.2.1 g365.2.2.1 g365.2.2.2
          exact hQ (PyData.eqv (pyOf (D.lst (r349.map (fun y_ : Int => (D.v (V.int y_)))))) (pyOf (D.lst (y361.map (fun y_ : Int => (D.v (V.int y_))))))) _ _ hM hW.out rep_v
/-! ### the pot of a cell, and the law -/
def sp_pot (K : PySem.W.Frag) : Sp := fun vs H Q _ => ∃ (a : Addr) (ns : List Int) (k : Int), vs = [.ref a, .int k] ∧ SqL K H a (ns.map V.int) ∧ ns.length ≤ 63 ∧ 0 ≤ k ∧ k ≤ 100 ∧
  ∀ (p : Addr) (H1 : Hp) (i j : Int), H p = none → Rx.Ext H H1 → H1 p = some (.lst [.int i, .int j]) → j.natAbs < 4294967296 → Q (.ref p) H1
theorem ok_pot {P : Program} {w : World} {K : PySem.W.Frag} {mg : Str → Option Value} {base : Heap} {A : Ad} (T : Txt w K mg A) : FnOk P w K mg base CX0 1 A.a_pot A.d_pot ["_law_script", "_law_k"] (sp_pot K) := by
  refine T.F_pot.ok sc_pot (fun vs H Q E h => ?_) (fun cdv A_ outer s_ H_0 vs Q E hr h => ?_)
  · obtain ⟨a, ns, k, rfl, _⟩ := h
    rfl
  · obtain ⟨a, ns, k, rfl, hS, hl, k0, k1, hQ⟩ := h
    refine ⟨_, pss_cons (ps_set (i := 2) sc_pot.nd rfl (.inl rfl) (pe_op op_add (pe_op op_mul pe_int (pv 1)) pe_int))
      (pss_cons (ps_if (pt_cmpR op_lt (pv 1) (pe_callB call_len (by rfl) T.z_len PySem.boot_len (pa_cons (pv 0) pa_nil)) (nomark _))
        (pss_one (ps_set (i := 2) sc_pot.nd rfl (.inl rfl) (pe_callB call_abs (by rfl) T.z_abs (by decide +kernel) (pa_cons (pe_ix ix_list (pv 0) (pv 1) (fun _ _ => rfl)) pa_nil)))) pss_nil)
      (pss_one (ps_ret (pe_lst (pa_cons (pe_callB (call_max2 rfl) (by rfl) T.z_max (by decide +kernel) (pa_cons pe_int (pa_cons (pe_op op_sub (pv 2) (pe_op op_pow pe_int pe_int)) pa_nil)))
        (pa_cons (pe_op op_add (pe_op op_mod (pe_callTy call_int1 (by rfl) T.z_int (by decide +kernel) (pa_cons (pe_op op_add (pe_op op_add (pe_op op_mul (pe_op op_mod (pe_callTy call_int1 (by rfl) T.z_int (by decide +kernel) (pa_cons (pv 2) pa_nil)) pe_int) pe_int) (pe_op op_mul pe_int (pv 1))) pe_int) pa_nil)) pe_int) pe_int) pa_nil)))))), ?_⟩
    refine ⟨_, rfl, _, _, rfl, rfl, .inl ⟨by decide, by decide⟩, _, _, rfl, rfl, ?_⟩
    refine ⟨_, rfl, _, rfl, _, ns.length, rfl, .inl ⟨_, hS, by rw [List.length_map]⟩, _, _, rfl, rfl, _, rfl, ?_⟩
    have fin : ∀ (c : Int) (p : Addr), H_0 p = none → Q (.ref p) (upd H_0 p (.lst [.int (if c - 10 ^ Int.toNat 18 > 0 then c - 10 ^ Int.toNat 18 else 0), .int ((c % 2147483549 * 40087 + 60013 * k + 29) % 2147483477 + 1)])) := fun c p np =>
      hQ p _ _ _ np (Rx.Ext.new np) upd_same (by omega)
    refine ite2 (fun c => ?_) (fun c => ?_)
    · have hk : k.toNat < ns.length := by
        have := of_decide_eq_true c
        omega
      refine ⟨_, rfl, _, rfl, a, _, k, .int (ns[k.toNat]), rfl, rfl, hS, at_of (j := k.toNat) (by omega) (by rw [List.getElem?_map, List.getElem?_eq_getElem hk]; rfl), _, rfl, ?_⟩
      refine ⟨_, rfl, _, _, rfl, rfl, ⟨by decide, by decide, by decide⟩, _, _, rfl, rfl, _, _, rfl, _, rfl, .inl ⟨_, rfl, _, _, rfl, rfl, (by show (0 : Int) < 2147483549; decide), _, _, rfl, rfl, .inr ⟨by decide, by decide⟩, _, rfl, _, _, rfl, rfl, .inl ⟨by decide, by decide⟩, _, _, rfl, rfl, _, _, rfl, rfl, .inl ⟨_, rfl, _, _, rfl, rfl, (by show (0 : Int) < 2147483477; decide), _, _, rfl, rfl, (by show 2 ≤ sizeLine; decide), fun p np => fin _ p np⟩⟩⟩
    · refine ⟨_, rfl, _, _, rfl, rfl, ⟨by decide, by decide, by decide⟩, _, _, rfl, rfl, _, _, rfl, _, rfl, .inl ⟨_, rfl, _, _, rfl, rfl, (by show (0 : Int) < 2147483549; decide), _, _, rfl, rfl, .inr ⟨by decide, by decide⟩, _, rfl, _, _, rfl, rfl, .inl ⟨by decide, by decide⟩, _, _, rfl, rfl, _, _, rfl, rfl, .inl ⟨_, rfl, _, _, rfl, rfl, (by show (0 : Int) < 2147483477; decide), _, _, rfl, rfl, (by show 2 ≤ sizeLine; decide), fun p np => fin _ p np⟩⟩⟩

set_option exponentiation.threshold 20000
open Wm
structure WV (w : Str × Str × Str) : Prop where
  h4 : (L w.1).length ≤ 4
  m1 : 1 ≤ (L w.2.1).length
  m4 : (L w.2.1).length ≤ 4
  t4 : (L w.2.2).length ≤ 4
  mh : ∀ c ∈ L w.1, c = 104 ∨ c = 97
  mm : ∀ c ∈ L w.2.1, c = 104 ∨ c = 97
  mt : ∀ c ∈ L w.2.2, c = 104 ∨ c = 97
theorem line_of {z : Str} {n : Nat} (h : (L z).length ≤ n) (hn : n ≤ 100000) : z.length ≤ sizeLine := by
  rw [len_L]
  exact Nat.le_trans h (Nat.le_trans hn (by decide))
theorem line4 {z : Str} (h : (L z).length ≤ 4) : z.length ≤ sizeLine := line_of h (by decide)
def lst (w : Str × Str × Str) : Int := if ((L w.1).length : Int) + (L w.2.2).length > 1 then ((L w.1).length : Int) + (L w.2.2).length else 1
theorem lst_ge {w : Str × Str × Str} : ((L w.1).length : Int) + (L w.2.2).length ≤ lst w ∧ 1 ≤ lst w := by
  unfold lst
  split <;> omega
theorem lst_le {w : Str × Str × Str} (hw : WV w) : lst w ≤ 8 := by
  have := hw.h4
  have := hw.t4
  unfold lst
  split <;> omega
theorem wleast_ok {w : Str × Str × Str} (hw : WV w) {k : Int → Prop} (q : k (lst w)) : M_Word_least w k := by
  unfold M_Word_least
  refine ⟨line4 hw.h4, line4 hw.t4, ?_⟩
  rw [len_L, len_L]
  exact q
theorem cm3 {i j : Int} {a : Nat} (ha : i.natAbs < 2 ^ a) (h0 : 0 < a) (hj : j.natAbs < 2 ^ 4) (h : a ≤ 1000) : CMulW i j := wide_mul ha hj h0 (by decide) (by omega)
theorem draw_ok {n : Int} {k : Int → Prop} (h0 : 0 < n) (h1 : n < 1073741824) (q : ∀ d, 0 ≤ d → d < n → k d) : M_draw n k := ⟨⟨h0, h1⟩, q⟩
theorem str1 (c : Nat) : (Str.mk #[c]).length = 1 := rfl
theorem signs_ok {few many : Int} (h0 : 0 ≤ few) (h1 : few ≤ many) (h4 : many ≤ 4) {k : Str → Prop} (q : ∀ z : Str, few ≤ (L z).length → ((L z).length : Int) ≤ many → (∀ c ∈ L z, c = 104 ∨ c = 97) → k z) : M_signs few many k := by
  unfold M_signs
  refine draw_ok (by omega) (by omega) fun d d0 d1 => ⟨by rw [rangeI_len]; omega, ?_⟩
  refine mapC_any (fun y => ∃ c, y = Str.mk #[c] ∧ (c = 104 ∨ c = 97)) (fun x _ k' hk => ?_) fun ys hl hp => ?_
  · refine draw_ok (by decide) (by decide) fun e e0 e1 => ⟨by decide +kernel, ?_⟩
    have he : e = 0 ∨ e = 1 := by omega
    rcases he with rfl | rfl
    · exact ⟨104, by decide +kernel, hk _ ⟨_, rfl, .inl rfl⟩⟩
    · exact ⟨97, by decide +kernel, hk _ ⟨_, rfl, .inr rfl⟩⟩
  · rw [List.nil_append]
    rw [rangeI_len] at hl
    have hs : ∀ zs : List Str, (∀ y ∈ zs, ∃ c, y = Str.mk #[c] ∧ (c = 104 ∨ c = 97)) → (zs.map (·.length)).sum = zs.length ∧ ((zs.map L).flatten).length = zs.length ∧ ∀ c ∈ (zs.map L).flatten, c = 104 ∨ c = 97 := by
      intro zs
      induction zs with
      | nil => intro _; exact ⟨rfl, rfl, fun c hc => absurd hc (by simp)⟩
      | cons z zs ih =>
        intro h
        obtain ⟨c, rfl, hc⟩ := h z List.mem_cons_self
        obtain ⟨i1, i2, i3⟩ := ih fun y hy => h y (List.mem_cons_of_mem _ hy)
        refine ⟨?_, ?_, fun c' hc' => ?_⟩
        · rw [List.map_cons, List.sum_cons, i1, str1, List.length_cons]
          omega
        · rw [List.map_cons, List.flatten_cons, List.length_append, i2, L_one, List.length_cons, List.length_cons, List.length_nil]
          omega
        · rw [List.map_cons, List.flatten_cons, L_one] at hc'
          rcases List.mem_append.mp hc' with hc' | hc'
          · rw [List.mem_singleton.mp hc']
            exact hc
          · exact i3 c' hc'
    obtain ⟨s1, s2, s3⟩ := hs ys hp
    refine ⟨?_, q _ ?_ ?_ ?_⟩
    · rw [s1, len_L, L_empty]
      show ys.length + ys.length * 0 ≤ _
      omega
    · rw [join_L, s2]
      omega
    · rw [join_L, s2]
      omega
    · rw [join_L]
      exact s3
theorem word_ok {w : Str × Str × Str} (hw : WV w) {k : Str × Str × Str → Prop} (q : k w) : M_Word_init w.1 w.2.1 w.2.2 k := by
  have one : ∀ {z : Str} {k : Unit → Prop}, (L z).length ≤ 4 → (∀ c ∈ L z, c = 104 ∨ c = 97) → k () → M_check_part z k := fun {z k} h4 hm q => by
    unfold M_check_part M_is_marks
    refine ⟨line4 h4, ?_⟩
    rw [count_h, count_a, marks_all _ hm, len_L]
    show (if (!decide (V.int _ = V.int _)) = true then _ else _)
    rw [if_neg (by simp)]
    refine ⟨line4 h4, ?_⟩
    rw [if_neg (by simp only [decide_eq_true_eq]; omega)]
    exact q
  unfold M_Word_init
  refine one hw.h4 hw.mh (one hw.m4 hw.mm ?_)
  rw [if_neg]
  · exact one hw.t4 hw.mt q
  · rw [eqS, L_empty]
    have := hw.m1
    simp
    intro z
    rw [show L w.2.1 = [] from by rw [L, z]] at this
    simp at this
def standers : List Str := ["home", "away", "even", "odd"]
theorem stander_in {s : Str} (h : s ∈ standers) : ∃ c, wd_CONTRARY_STANDERS.lookup s = some c := by
  simp only [standers, List.mem_cons, List.not_mem_nil, or_false] at h
  rcases h with rfl | rfl | rfl | rfl
  · exact ⟨"away", by decide +kernel⟩
  · exact ⟨"home", by decide +kernel⟩
  · exact ⟨"odd", by decide +kernel⟩
  · exact ⟨"even", by decide +kernel⟩
theorem rinit_ok {st : Int} {w : Str × Str × Str} {s : Str} {t : Bool} (h0 : st ≠ 0) (h7 : st.natAbs ≤ 7) (hs : s ∈ standers) {k : Int × (Str × Str × Str) × Str × Bool → Prop} (q : k (st, w, s, t)) : M_Rule_init st w s t k := by
  obtain ⟨c, hc⟩ := stander_in hs
  unfold M_Rule_init M_is_integer
  have a : (if st < 0 then -st else st) ≤ 7 := by split <;> omega
  show if (!(!false)) = true then False else _
  rw [if_neg (show ¬ (!(!false)) = true by decide), if_neg (show ¬ decide (V.int st = V.int 0) = true by simpa using h0), if_neg (show ¬ decide (7 < (if st < 0 then -st else st)) = true by simpa using a)]
  exact ⟨c, hc, q⟩
abbrev RT := Int × (Str × Str × Str) × Str × Bool
structure RV (x : RT) : Prop where
  s0 : x.1 ≠ 0
  s7 : x.1.natAbs ≤ 7
  w : WV x.2.1
  st : x.2.2.1 ∈ standers
theorem rule_ok {x : RT} (h : RV x) {k : RT → Prop} (q : k x) : M_rule x k := by
  unfold M_rule
  exact word_ok h.w (rinit_ok h.s0 h.s7 h.st q)
theorem pick_ok {xs : List Int} (h0 : 0 < xs.length) (h1 : xs.length < 1073741824) {k : Int → Prop} (q : ∀ x ∈ xs, k x) : M_pick xs k := by
  unfold M_pick
  exact draw_ok (by omega) (by omega) fun d d0 d1 => ⟨d0, by omega, fun x hx => q x (by rw [hx]; exact List.getElem_mem _)⟩
theorem pickS_ok {xs : List Str} (h0 : 0 < xs.length) (h1 : xs.length < 1073741824) {k : Str → Prop} (q : ∀ x ∈ xs, k x) : M_pick_pls xs k := by
  unfold M_pick_pls
  exact draw_ok (by omega) (by omega) fun d d0 d1 => ⟨d0, by omega, fun x hx => q x (by rw [hx]; exact List.getElem_mem _)⟩
theorem model_ok {k : RT → Prop} (q : ∀ x, RV x → k x) : M_model k := by
  unfold M_model
  refine pick_ok (by decide) (by decide) fun a ha => pick_ok (by decide) (by decide) fun b hb => ?_
  have a1 : 1 ≤ a ∧ a ≤ 7 := by
    simp only [List.mem_cons, List.not_mem_nil, or_false] at ha
    omega
  have b1 : b = 1 ∨ b = -1 := by
    simp only [List.mem_cons, List.not_mem_nil, or_false] at hb
    omega
  refine ⟨cm3 (a := 4) (by omega) (by decide) (by omega) (by decide), ?_⟩
  refine signs_ok (by decide) (by decide) (by decide) fun z1 l1 m1 c1 => signs_ok (by decide) (by decide) (by decide) fun z2 l2 m2 c2 => signs_ok (by decide) (by decide) (by decide) fun z3 l3 m3 c3 => ?_
  refine pickS_ok (by decide) (by decide) fun s hs => draw_ok (by decide) (by decide) fun d _ _ => ?_
  have w : WV (z1, z2, z3) := ⟨show (L z1).length ≤ 4 by omega, show 1 ≤ (L z2).length by omega, show (L z2).length ≤ 4 by omega, show (L z3).length ≤ 4 by omega, c1, c2, c3⟩
  refine q (a * b, (z1, z2, z3), s, _) ⟨?_, ?_, w, hs⟩
  · show a * b ≠ 0
    rcases b1 with rfl | rfl <;> omega
  · show (a * b).natAbs ≤ 7
    rcases b1 with rfl | rfl <;> omega
theorem rleast_ok {r : RT} (hw : WV r.2.1) {k : Int → Prop} (q : k (2 * lst r.2.1 + 2)) : M_Rule_least_size r k := by
  unfold M_Rule_least_size
  exact wleast_ok hw q
theorem mleast_ok {r : RT} (hw : WV r.2.1) {k : Int → Prop} (q : k (lst r.2.1)) : M_least r k := by
  unfold M_least
  refine ⟨line4 hw.h4, line4 hw.t4, ?_⟩
  rw [len_L, len_L]
  exact q
theorem issize_ok {r : RT} {n : Int} (hw : WV r.2.1) (h : 2 * lst r.2.1 + 2 ≤ n) (e : n % 2 = 0) {k : Bool → Prop} (q : k true) : M_is_size r n k := by
  unfold M_is_size M_is_integer
  show if (!false) = true then _ else _
  rw [if_pos (show (!false) = true from rfl)]
  refine rleast_ok hw ?_
  rw [if_pos (decide_eq_true h), e]
  exact q
theorem chksize_ok {r : RT} {n : Int} (hw : WV r.2.1) (h : 2 * lst r.2.1 + 2 ≤ n) (e : n % 2 = 0) {k : Unit → Prop} (q : k ()) : M_check_size r n k := by
  unfold M_check_size
  exact issize_ok hw h e q
theorem chkteam_ok {t n : Int} (h0 : 0 ≤ t) (h1 : t < n) {k : Unit → Prop} (q : k ()) : M_check_team t n k := by
  unfold M_check_team M_is_count M_is_integer
  show if (!false) = true then _ else _
  rw [if_pos (show (!false) = true from rfl), decide_eq_true h0]
  show if (!true) = true then False else _
  rw [if_neg (by decide), if_neg (by simp only [decide_eq_true_eq]; omega)]
  exact q
theorem eqI' {a b : Int} : (decide (V.int a = V.int b) = true) = (a = b) := by
  rw [eqI, decide_eq_true_eq]
theorem memL37 {lo hi n : Int} (h1 : lo ≤ n) (h2 : n < hi) : n ∈ rangeI lo hi := by
  unfold rangeI
  rw [List.mem_map]
  exact ⟨(n - lo).toNat, List.mem_range.mpr (by omega), by omega⟩
def restL (step places ring : Int) : Int := if 0 < step then places % ring else (-places) % ring
def roundsL (step places ring : Int) : List Int :=
  ((rangeI 0 (step.natAbs : Int)).map fun lap => restL step places ring + ring * lap).filterMap fun g => if g % (step.natAbs : Int) = 0 then some (g / (step.natAbs : Int)) else none
theorem absN (x : Int) : (if x < 0 then -x else x) = (x.natAbs : Int) := by split <;> omega
theorem restL_b {step places ring : Int} (r0 : 0 < ring) : 0 ≤ restL step places ring ∧ restL step places ring < ring := by
  unfold restL
  split
  · exact ⟨Int.emod_nonneg _ (by omega), Int.emod_lt_of_pos _ r0⟩
  · exact ⟨Int.emod_nonneg _ (by omega), Int.emod_lt_of_pos _ r0⟩
theorem restL_dvd {step places ring r : Int} (s0 : step ≠ 0) : ring ∣ (step.natAbs : Int) * r - restL step places ring ↔ ring ∣ places - step * r := by
  unfold restL
  by_cases c : 0 < step
  · rw [if_pos c, show ((step.natAbs : Nat) : Int) = step by omega]
    have e : step * r - places % ring = -(places - step * r) + ring * (places / ring) := by
      have := Int.emod_add_mul_ediv places ring
      omega
    rw [e]
    constructor
    · intro h
      have := Int.dvd_sub h (Int.dvd_mul_right ring (places / ring))
      rw [show -(places - step * r) + ring * (places / ring) - ring * (places / ring) = -(places - step * r) by omega] at this
      exact Int.dvd_neg.mp this
    · intro h
      exact Int.dvd_add (Int.dvd_neg.mpr h) (Int.dvd_mul_right _ _)
  · rw [if_neg c, show ((step.natAbs : Nat) : Int) = -step by omega]
    have e : -step * r - (-places) % ring = (places - step * r) + ring * ((-places) / ring) := by
      have := Int.emod_add_mul_ediv (-places) ring
      rw [Int.neg_mul]
      omega
    rw [e]
    constructor
    · intro h
      have := Int.dvd_sub h (Int.dvd_mul_right ring ((-places) / ring))
      rw [show (places - step * r) + ring * ((-places) / ring) - ring * ((-places) / ring) = (places - step * r) by omega] at this
      exact this
    · intro h
      exact Int.dvd_add h (Int.dvd_mul_right _ _)
theorem rounds_mem {step places ring r : Int} (s0 : step ≠ 0) (r0 : 0 < ring) : r ∈ roundsL step places ring ↔ 0 ≤ r ∧ r < ring ∧ ring ∣ places - step * r := by
  have sp : 0 < (step.natAbs : Int) := by omega
  obtain ⟨b0, b1⟩ := @restL_b step places ring r0
  rw [← restL_dvd s0]
  unfold roundsL
  rw [List.mem_filterMap]
  constructor
  · rintro ⟨g, hg, e⟩
    rw [List.mem_map] at hg
    obtain ⟨lap, hl, rfl⟩ := hg
    obtain ⟨l0, l1⟩ := rangeI_mem hl
    split at e
    · rename_i c
      have e' : (restL step places ring + ring * lap) / (step.natAbs : Int) = r := by simpa using e
      have m : (step.natAbs : Int) * r = restL step places ring + ring * lap := by
        have := Int.emod_add_mul_ediv (restL step places ring + ring * lap) (step.natAbs : Int)
        rw [c, e'] at this
        omega
      have n0 : 0 ≤ ring * lap := Int.mul_nonneg (by omega) l0
      have n1 : ring * lap ≤ ring * ((step.natAbs : Int) - 1) := Int.mul_le_mul_of_nonneg_left (by omega) (by omega)
      have n2 : ring * ((step.natAbs : Int) - 1) = (step.natAbs : Int) * ring - ring := by rw [Int.mul_sub, Int.mul_one, Int.mul_comm]
      refine ⟨?_, ?_, ⟨lap, by omega⟩⟩
      · exact Int.not_lt.mp fun z => by
          have := Int.mul_neg_of_pos_of_neg sp z
          omega
      · exact Int.lt_of_mul_lt_mul_left (a := (step.natAbs : Int)) (by omega) (by omega)
    · cases e
  · rintro ⟨h0, h1, ⟨lap, hl⟩⟩
    have m : (step.natAbs : Int) * r = restL step places ring + ring * lap := by omega
    have l0 : 0 ≤ lap := Int.not_lt.mp fun z => by
      have a : ring * lap ≤ ring * (-1) := Int.mul_le_mul_of_nonneg_left (by omega) (by omega)
      have b : 0 ≤ (step.natAbs : Int) * r := Int.mul_nonneg (by omega) h0
      omega
    have l1 : lap < (step.natAbs : Int) := Int.not_le.mp fun z => by
      have a : ring * (step.natAbs : Int) ≤ ring * lap := Int.mul_le_mul_of_nonneg_left z (by omega)
      have b : (step.natAbs : Int) * r < (step.natAbs : Int) * ring := Int.mul_lt_mul_of_pos_left h1 sp
      rw [Int.mul_comm ring] at a
      omega
    refine ⟨(step.natAbs : Int) * r, List.mem_map.mpr ⟨lap, memL37 l0 l1, m.symm⟩, ?_⟩
    rw [if_pos (Int.mul_emod_right _ _), Int.mul_ediv_cancel_left _ (by omega)]
def S (l : List Nat) : Str := ⟨l.toArray⟩
def seatF (st n t d : Int) : Int := if (t - st * d) % (n - 1) < n / 2 then (t - st * d) % (n - 1) else (t - st * d) % (n - 1) - (n - 1)
def oppF (st n t d : Int) : Int := if t = n - 1 then st * d % (n - 1) else if (2 * st * d - t) % (n - 1) = t then n - 1 else (2 * st * d - t) % (n - 1)
theorem seatF_b {st n t d : Int} (h4 : 4 ≤ n) (ev : n % 2 = 0) : -(n / 2 - 1) ≤ seatF st n t d ∧ seatF st n t d ≤ n / 2 - 1 := by
  have a := Int.emod_nonneg (t - st * d) (show n - 1 ≠ 0 by omega)
  have b := Int.emod_lt_of_pos (t - st * d) (show 0 < n - 1 by omega)
  unfold seatF
  split <;> omega
theorem cmul7 {st d n : Int} (s7 : st.natAbs ≤ 14) (hd : 0 ≤ d) (hd2 : d < n) (bg : n.natAbs < 2 ^ 899) : CMulW st d := wide_mul (a := 4) (b := 899) (by omega) (by omega) (by decide) (by decide) (by decide)
theorem ints_py (ns : List Int) : pyOf (D.lst (ns.map fun y => D.v (V.int y))) = .list (ns.map PyData.int) := by
  simp only [pyOf]
  congr 1
  induction ns with
  | nil => rfl
  | cons n ns ih =>
    rw [List.map_cons, List.map_cons]
    simp only [pyL, pyOf]
    rw [ih]
theorem ints_shaped (ns : List Int) : SeqAt.shaped (pyOf (D.lst (ns.map fun y => D.v (V.int y)))) = true := by
  rw [ints_py]
  unfold SeqAt.shaped
  rw [Bool.and_eq_true]
  have h : ∀ ns : List Int, PyData.canLayAll0 (ns.map PyData.int) = true ∧ PyData.depthAll (ns.map PyData.int) ≤ 1 := by
    intro ns
    induction ns with
    | nil => exact ⟨rfl, by simp [PyData.depthAll]⟩
    | cons n ns ih =>
      refine ⟨?_, ?_⟩
      · rw [List.map_cons]
        simp only [PyData.canLayAll0, PyData.canLay0, Bool.true_and]
        exact ih.1
      · rw [List.map_cons]
        simp only [PyData.depthAll, PyData.depth]
        have := ih.2
        omega
  refine ⟨?_, ?_⟩
  · simp only [PyData.canLay0]
    exact (h ns).1
  · refine decide_eq_true ?_
    simp only [PyData.depth]
    have := (h ns).2
    omega
theorem forC_okN {α S : Type} {body : α → S → (S → Prop) → Prop} {k : S → Prop} (I : Nat → S → Prop) (N : Nat) : ∀ {xs : List α} {i : Nat} {s0 : S}, i + xs.length ≤ N → (∀ x ∈ xs, ∀ (j : Nat) (s : S) (k' : S → Prop), j < N → I j s → (∀ s', I (j + 1) s' → k' s') → body x s k') → I i s0 → (∀ s, I (i + xs.length) s → k s) → forC body xs s0 k
  | [], i, s0, _, _, h, q => q s0 h
  | x :: xs, i, s0, hN, hb, h, q => hb x List.mem_cons_self i s0 _ (by rw [List.length_cons] at hN; omega) h fun s' h' => forC_okN I N (i := i + 1) (by rw [List.length_cons] at hN; omega) (fun y hy => hb y (List.mem_cons_of_mem _ hy)) h' fun s h2 => q s (by rw [List.length_cons, show i + (xs.length + 1) = i + 1 + xs.length by omega]; exact h2)
def gcdR (st many : Int) : Int := ((Nat.gcd st.natAbs (many - 1).natAbs : Nat) : Int)
theorem absI (x : Int) : Int.natAbs (if x < 0 then -x else x) = x.natAbs := by
  split <;> omega
theorem odd_half {m x : Int} (h1 : m % 2 = 1) (h : m ∣ 2 * x) : m ∣ x := by
  have e : x = m * x - (m / 2) * (2 * x) := by
    have := Int.emod_add_mul_ediv m 2
    grind
  rw [e]
  exact Int.dvd_sub (Int.dvd_mul_right m x) (Int.dvd_mul_of_dvd_right h)
theorem emod_is {m x t : Int} (t0 : 0 ≤ t) (t1 : t < m) : x % m = t ↔ m ∣ x - t := by
  have tt : t % m = t := Int.emod_eq_of_lt t0 t1
  constructor
  · intro h
    refine Int.dvd_of_emod_eq_zero (Int.emod_eq_emod_iff_emod_sub_eq_zero.mp ?_)
    rw [h, tt]
  · intro h
    have := Int.emod_eq_emod_iff_emod_sub_eq_zero.mpr (Int.emod_eq_zero_of_dvd h)
    rw [this, tt]
theorem opp_mid {st n t d : Int} (h4 : 4 ≤ n) (ev : n % 2 = 0) (t0 : 0 ≤ t) (t1 : t < n - 1) : oppF st n t d = n - 1 ↔ seatF st n t d = 0 := by
  have a := Int.emod_nonneg (2 * st * d - t) (show n - 1 ≠ 0 by omega)
  have b := Int.emod_lt_of_pos (2 * st * d - t) (show 0 < n - 1 by omega)
  have a2 := Int.emod_nonneg (t - st * d) (show n - 1 ≠ 0 by omega)
  have b2 := Int.emod_lt_of_pos (t - st * d) (show 0 < n - 1 by omega)
  have e1 : (2 * st * d - t) % (n - 1) = t ↔ (t - st * d) % (n - 1) = 0 := by
    rw [emod_is t0 t1]
    constructor
    · intro h
      refine Int.emod_eq_zero_of_dvd (odd_half (by omega) ?_)
      rw [show 2 * (t - st * d) = -(2 * st * d - t - t) by grind]
      exact Int.dvd_neg.mpr h
    · intro h
      rw [show 2 * st * d - t - t = -(2 * (t - st * d)) by grind]
      exact Int.dvd_neg.mpr (Int.dvd_mul_of_dvd_right (Int.dvd_of_emod_eq_zero h))
  unfold oppF seatF
  rw [if_neg (by omega)]
  by_cases c : (2 * st * d - t) % (n - 1) = t
  · rw [if_pos c, e1.mp c, if_pos (by omega)]
    simp
  · rw [if_neg c]
    have z : (t - st * d) % (n - 1) ≠ 0 := fun z => c (e1.mpr z)
    constructor
    · intro h
      omega
    · intro h
      exfalso
      split at h <;> omega
theorem eqv_ints (a b : List Int) : PyData.eqv (pyOf (D.lst (a.map fun y => D.v (V.int y)))) (pyOf (D.lst (a.map fun y => D.v (V.int y)))) = true :=
  SeqAt.eqv_refl _ (SeqAt.canLay_of_shaped (ints_shaped a))
theorem oppF_b {st n t d : Int} (h4 : 4 ≤ n) : 0 ≤ oppF st n t d ∧ oppF st n t d < n := by
  have a := Int.emod_nonneg (2 * st * d - t) (show n - 1 ≠ 0 by omega)
  have b := Int.emod_lt_of_pos (2 * st * d - t) (show 0 < n - 1 by omega)
  have a2 := Int.emod_nonneg (st * d) (show n - 1 ≠ 0 by omega)
  have b2 := Int.emod_lt_of_pos (st * d) (show 0 < n - 1 by omega)
  unfold oppF
  split
  · omega
  · split <;> omega
theorem oppF_ne {st n t d : Int} (h4 : 4 ≤ n) : oppF st n t d ≠ t := by
  have b2 := Int.emod_lt_of_pos (st * d) (show 0 < n - 1 by omega)
  unfold oppF
  split
  · omega
  · split <;> omega
def roundsF (st n one other : Int) : List Int := if one = n - 1 then roundsL st other (n - 1) else if other = n - 1 then roundsL st one (n - 1) else roundsL (2 * st) (one + other) (n - 1)
def seatV (n x : Int) : Int := if x % (n - 1) < n / 2 then x % (n - 1) else x % (n - 1) - (n - 1)
theorem seatF_V (st n t d : Int) : seatF st n t d = seatV n (t - st * d) := rfl
theorem seatV_neg {n x y : Int} (h4 : 4 ≤ n) (ev : n % 2 = 0) (h : n - 1 ∣ x + y) : seatV n y = 0 - seatV n x := by
  have a := Int.emod_nonneg x (show n - 1 ≠ 0 by omega)
  have b := Int.emod_lt_of_pos x (show 0 < n - 1 by omega)
  have e : y % (n - 1) = if x % (n - 1) = 0 then 0 else (n - 1) - x % (n - 1) := by
    obtain ⟨c, hc⟩ := h
    have q := Int.emod_add_mul_ediv x (n - 1)
    by_cases z : x % (n - 1) = 0
    · rw [if_pos z]
      refine Int.emod_eq_zero_of_dvd ⟨c - x / (n - 1), ?_⟩
      grind
    · rw [if_neg z]
      refine (emod_is (by omega) (by omega)).mpr ⟨c - x / (n - 1) - 1, ?_⟩
      grind
  unfold seatV
  rw [e]
  split <;> split <;> split <;> omega
theorem seatV_dvd {n x : Int} (h4 : 4 ≤ n) : n - 1 ∣ x - seatV n x := by
  have q := Int.emod_add_mul_ediv x (n - 1)
  unfold seatV
  split
  · exact ⟨x / (n - 1), by omega⟩
  · exact ⟨x / (n - 1) + 1, by grind⟩
theorem seatV_0 {n x : Int} (h4 : 4 ≤ n) (ev : n % 2 = 0) : seatV n x = 0 ↔ n - 1 ∣ x := by
  have b := Int.emod_lt_of_pos x (show 0 < n - 1 by omega)
  constructor
  · intro h
    have := @seatV_dvd n x h4
    rw [h] at this
    simpa using this
  · intro h
    unfold seatV
    rw [Int.emod_eq_zero_of_dvd h, if_pos (by omega)]
theorem oppF_ring {st n t d : Int} (t1 : t ≠ n - 1) (h : oppF st n t d ≠ n - 1) : oppF st n t d = (2 * st * d - t) % (n - 1) := by
  unfold oppF at h ⊢
  rw [if_neg t1] at h ⊢
  split
  · rename_i c
    rw [if_pos c] at h
    exact absurd rfl h
  · rfl
def meets (st n a b r : Int) : Prop := if a = n - 1 then n - 1 ∣ b - st * r else if b = n - 1 then n - 1 ∣ a - st * r else n - 1 ∣ a + b - 2 * st * r
theorem dvd_emod_sub {m x : Int} : m ∣ x % m - x := by
  refine ⟨-(x / m), ?_⟩
  have := Int.emod_add_mul_ediv x m
  grind
theorem meets_opp {st n t d : Int} (h4 : 4 ≤ n) (ev : n % 2 = 0) (t0 : 0 ≤ t) (t1 : t < n) : meets st n t (oppF st n t d) d := by
  unfold meets
  by_cases c : t = n - 1
  · rw [if_pos c]
    unfold oppF
    rw [if_pos c]
    exact dvd_emod_sub
  · rw [if_neg c]
    by_cases e : oppF st n t d = n - 1
    · rw [if_pos e]
      have := (opp_mid h4 ev t0 (by omega)).mp e
      rw [seatF_V, seatV_0 h4 ev] at this
      exact this
    · rw [if_neg e, oppF_ring c e]
      have := @dvd_emod_sub (n - 1) (2 * st * d - t)
      rw [show t + (2 * st * d - t) % (n - 1) - 2 * st * d = (2 * st * d - t) % (n - 1) - (2 * st * d - t) by omega]
      exact this
theorem opp_meets {st n a b r : Int} (h4 : 4 ≤ n) (ev : n % 2 = 0) (a0 : 0 ≤ a) (a1 : a < n) (b0 : 0 ≤ b) (b1 : b < n) (ab : a ≠ b) (h : meets st n a b r) : oppF st n a r = b := by
  unfold meets at h
  by_cases c : a = n - 1
  · rw [if_pos c] at h
    unfold oppF
    rw [if_pos c]
    refine (emod_is b0 (by omega)).mpr ?_
    rw [show st * r - b = -(b - st * r) by omega]
    exact Int.dvd_neg.mpr h
  · rw [if_neg c] at h
    by_cases e : b = n - 1
    · rw [if_pos e] at h
      rw [e]
      exact (opp_mid h4 ev a0 (by omega)).mpr ((seatV_0 h4 ev).mpr h)
    · rw [if_neg e] at h
      have f : (2 * st * r - a) % (n - 1) = b := by
        refine (emod_is b0 (by omega)).mpr ?_
        rw [show 2 * st * r - a - b = -(a + b - 2 * st * r) by omega]
        exact Int.dvd_neg.mpr h
      unfold oppF
      rw [if_neg c, f, if_neg (fun z => ab z.symm)]
theorem meets_swap {st n a b r : Int} (ab : a ≠ b) : meets st n a b r ↔ meets st n b a r := by
  unfold meets
  by_cases c : a = n - 1
  · rw [if_pos c, if_neg (fun z => ab (by omega)), if_pos c]
  · rw [if_neg c]
    by_cases e : b = n - 1
    · rw [if_pos e, if_pos e]
    · rw [if_neg e, if_neg e, if_neg c, Int.add_comm]
theorem oppF_opp {st n t d : Int} (h4 : 4 ≤ n) (ev : n % 2 = 0) (t0 : 0 ≤ t) (t1 : t < n) : oppF st n (oppF st n t d) d = t := by
  obtain ⟨o0, o1⟩ := @oppF_b st n t d h4
  have on := @oppF_ne st n t d h4
  exact opp_meets h4 ev o0 o1 t0 t1 on ((meets_swap on).mpr (meets_opp h4 ev t0 t1))
theorem seat_opp {st n t d : Int} (h4 : 4 ≤ n) (ev : n % 2 = 0) (t0 : 0 ≤ t) (t1 : t < n - 1) (h : oppF st n t d ≠ n - 1) : seatF st n (oppF st n t d) d = 0 - seatF st n t d := by
  have m := meets_opp (st := st) (d := d) h4 ev t0 (show t < n by omega)
  unfold meets at m
  rw [if_neg (by omega), if_neg h] at m
  rw [seatF_V, seatF_V]
  refine seatV_neg h4 ev ?_
  rw [show t - st * d + (oppF st n t d - st * d) = t + oppF st n t d - 2 * st * d by grind]
  exact m
theorem asc_ext : ∀ {l k : List Int}, l.Pairwise (· < ·) → k.Pairwise (· < ·) → (∀ x, x ∈ l ↔ x ∈ k) → l = k
  | [], [], _, _, _ => rfl
  | [], y :: k, _, _, h => absurd ((h y).mpr List.mem_cons_self) List.not_mem_nil
  | x :: l, [], _, _, h => absurd ((h x).mp List.mem_cons_self) List.not_mem_nil
  | x :: l, y :: k, hl, hk, h => by
    rw [List.pairwise_cons] at hl hk
    have e : x = y := by
      rcases List.mem_cons.mp ((h x).mp List.mem_cons_self) with z | z
      · exact z
      · rcases List.mem_cons.mp ((h y).mpr List.mem_cons_self) with w | w
        · exact w.symm
        · have a := hk.1 x z
          have b := hl.1 y w
          omega
    subst e
    rw [asc_ext hl.2 hk.2 fun z => ?_]
    constructor
    · intro hz
      rcases List.mem_cons.mp ((h z).mp (List.mem_cons_of_mem _ hz)) with w | w
      · have := hl.1 z hz
        omega
      · exact w
    · intro hz
      rcases List.mem_cons.mp ((h z).mpr (List.mem_cons_of_mem _ hz)) with w | w
      · have := hk.1 z hz
        omega
      · exact w
theorem rangeI_asc (lo hi : Int) : (rangeI lo hi).Pairwise (· < ·) := by
  unfold rangeI
  rw [List.pairwise_map]
  exact (List.pairwise_lt_range).imp fun h => by omega
theorem rounds_asc {step places ring : Int} (s0 : step ≠ 0) (r0 : 0 < ring) : (roundsL step places ring).Pairwise (· < ·) := by
  unfold roundsL
  refine List.Pairwise.filterMap (R := (· < ·)) _ (fun a a' h b hb b' hb' => ?_) ?_
  · split at hb
    · rename_i c
      split at hb'
      · rename_i c'
        have e1 : a / (step.natAbs : Int) = b := by simpa using hb
        have e2 : a' / (step.natAbs : Int) = b' := by simpa using hb'
        have q1 := Int.emod_add_mul_ediv a (step.natAbs : Int)
        have q2 := Int.emod_add_mul_ediv a' (step.natAbs : Int)
        rw [c, e1] at q1
        rw [c', e2] at q2
        exact Int.lt_of_mul_lt_mul_left (a := (step.natAbs : Int)) (by omega) (by omega)
      · cases hb'
    · cases hb
  · rw [List.pairwise_map]
    refine (rangeI_asc _ _).imp fun {x y} h => ?_
    have := Int.mul_lt_mul_of_pos_left h r0
    omega
theorem roundsF_mem {st n a b r : Int} (s0 : st ≠ 0) (h4 : 4 ≤ n) : r ∈ roundsF st n a b ↔ 0 ≤ r ∧ r < n - 1 ∧ meets st n a b r := by
  unfold roundsF meets
  split
  · exact rounds_mem s0 (by omega)
  · split
    · exact rounds_mem s0 (by omega)
    · exact rounds_mem (by omega) (by omega)
theorem roundsF_asc {st n a b : Int} (s0 : st ≠ 0) (h4 : 4 ≤ n) : (roundsF st n a b).Pairwise (· < ·) := by
  unfold roundsF
  split
  · exact rounds_asc s0 (by omega)
  · split
    · exact rounds_asc s0 (by omega)
    · exact rounds_asc (by omega) (by omega)
theorem roundsF_swap {st n a b : Int} (s0 : st ≠ 0) (h4 : 4 ≤ n) (ab : a ≠ b) : roundsF st n b a = roundsF st n a b :=
  asc_ext (roundsF_asc s0 h4) (roundsF_asc s0 h4) fun r => by
    rw [roundsF_mem s0 h4, roundsF_mem s0 h4, meets_swap ab]
theorem cong_list {st p m : Int} (m0 : 0 < m) {R : List Int} (asc : R.Pairwise (· < ·)) (mem : ∀ r, r ∈ R ↔ 0 ≤ r ∧ r < m ∧ m ∣ p - st * r) {g : Int} (hg : g = ((Int.gcd st m : Nat) : Int)) (ne : g ∣ p → R ≠ []) :
    (¬ g ∣ p → R = []) ∧ (g ∣ p → ∃ r0 : Int, 0 ≤ r0 ∧ r0 < m / g ∧ R = (rangeI 0 g).map fun i => r0 + i * (m / g)) := by
  have gp : 0 < g := by
    have := Int.gcd_pos_of_ne_zero_right st (show m ≠ 0 by omega)
    omega
  have g1 : g ∣ st := by rw [hg]; exact Int.gcd_dvd_left ..
  have g2 : g ∣ m := by rw [hg]; exact Int.gcd_dvd_right ..
  have cop : Int.gcd (st / g) (m / g) = 1 := by
    rw [hg]
    exact Int.gcd_ediv_gcd_ediv_gcd (by omega)
  obtain ⟨s', hs'⟩ := g1
  obtain ⟨m', hm'⟩ := g2
  have mp : 0 < m' := by
    rcases Int.lt_or_le 0 m' with h | h
    · exact h
    · have := Int.mul_nonpos_of_nonneg_of_nonpos (show 0 ≤ g by omega) h
      omega
  have dv : m / g = m' := by rw [hm', Int.mul_ediv_cancel_left _ (by omega)]
  have ds : st / g = s' := by rw [hs', Int.mul_ediv_cancel_left _ (by omega)]
  rw [dv, ds] at cop
  rw [dv]
  refine ⟨fun hn => ?_, fun hp => ?_⟩
  · rw [List.eq_nil_iff_forall_not_mem]
    intro r hr
    obtain ⟨_, _, d⟩ := (mem r).mp hr
    refine hn ?_
    have a : g ∣ p - st * r := Int.dvd_trans ⟨m', hm'⟩ d
    have b : g ∣ st * r := Int.dvd_mul_of_dvd_left ⟨s', hs'⟩
    have := Int.dvd_add a b
    rw [show p - st * r + st * r = p by omega] at this
    exact this
  · obtain ⟨r1, hr1⟩ := List.exists_mem_of_ne_nil _ (ne hp)
    obtain ⟨a0, a1, ⟨c, hc⟩⟩ := (mem r1).mp hr1
    have z0 := Int.emod_nonneg r1 (show m' ≠ 0 by omega)
    have z1 := Int.emod_lt_of_pos r1 mp
    have zq := Int.emod_add_mul_ediv r1 m'
    refine ⟨r1 % m', z0, z1, asc_ext asc ?_ fun r => ?_⟩
    · rw [List.pairwise_map]
      refine (rangeI_asc _ _).imp fun {x y} h => ?_
      have := Int.mul_lt_mul_of_pos_right h mp
      omega
    · rw [mem, List.mem_map]
      generalize r1 % m' = r0 at z0 z1 zq ⊢
      generalize r1 / m' = qq at zq
      constructor
      · rintro ⟨h0, h1, ⟨e, he⟩⟩
        have k1 : m' ∣ s' * (r - r0) := by
          refine ⟨c - e + qq * s', ?_⟩
          have : g * (s' * (r - r0)) = g * (m' * (c - e + qq * s')) := by grind
          exact Int.eq_of_mul_eq_mul_left (by omega) this
        have k2 : m' ∣ r - r0 := by
          have q := Int.natAbs_dvd_natAbs.mpr k1
          rw [Int.natAbs_mul] at q
          refine Int.natAbs_dvd_natAbs.mp (Nat.Coprime.dvd_of_dvd_mul_left ?_ q)
          rw [Nat.coprime_iff_gcd_eq_one, Nat.gcd_comm]
          exact cop
        obtain ⟨i, hi⟩ := k2
        refine ⟨i, memL37 ?_ ?_, by grind⟩
        · refine Int.not_lt.mp fun w => ?_
          have : m' * i ≤ m' * (-1) := Int.mul_le_mul_of_nonneg_left (by omega) (by omega)
          omega
        · refine Int.lt_of_mul_lt_mul_left (a := m') ?_ (by omega)
          rw [Int.mul_comm m' g]
          omega
      · rintro ⟨i, hi, rfl⟩
        obtain ⟨i0, i1⟩ := rangeI_mem hi
        have b0 : 0 ≤ i * m' := Int.mul_nonneg i0 (by omega)
        have b1 : i * m' ≤ (g - 1) * m' := Int.mul_le_mul_of_nonneg_right (by omega) (by omega)
        have b2 : (g - 1) * m' = m - m' := by rw [Int.sub_mul, Int.one_mul, ← hm']
        exact ⟨by omega, by omega, ⟨c + qq * s' - s' * i, by grind⟩⟩
theorem finE : ((List.range 15).all fun t => (List.range t).all fun a => (List.range t).all fun b => decide (b % Nat.gcd a t ≠ 0) || (List.range t).any fun lap => decide ((b + a * lap) % t = 0)) = true := by decide +kernel
theorem rounds_ne {step places ring : Int} (s0 : step ≠ 0) (s7 : step.natAbs ≤ 14) (r0 : 0 < ring) (h : ((Int.gcd step ring : Nat) : Int) ∣ places) : roundsL step places ring ≠ [] := by
  have tp : 0 < step.natAbs := by omega
  have rl : ((Int.gcd step ring : Nat) : Int) ∣ restL step places ring := by
    have q : ((Int.gcd step ring : Nat) : Int) ∣ ring := Int.gcd_dvd_right ..
    have dm : ∀ x : Int, ((Int.gcd step ring : Nat) : Int) ∣ x → ((Int.gcd step ring : Nat) : Int) ∣ x % ring := fun x hx => by
      have := Int.dvd_add (Int.dvd_trans q (@dvd_emod_sub ring x)) hx
      rw [show x % ring - x + x = x % ring by omega] at this
      exact this
    unfold restL
    split
    · exact dm _ h
    · exact dm _ (Int.dvd_neg.mpr h)
  obtain ⟨b0, b1⟩ := @restL_b step places ring r0
  generalize hr : restL step places ring = rest at rl b0 b1
  have t1 := Nat.mod_lt ring.natAbs tp
  have t2 := Nat.mod_lt rest.natAbs tp
  have f := List.all_eq_true.mp (List.all_eq_true.mp (List.all_eq_true.mp finE step.natAbs (List.mem_range.mpr (by omega))) _ (List.mem_range.mpr t1)) _ (List.mem_range.mpr t2)
  rw [Bool.or_eq_true, List.any_eq_true] at f
  rcases f with f | ⟨lap, hl, hz⟩
  · exfalso
    refine of_decide_eq_true f ?_
    rw [← Nat.gcd_rec]
    have d1 : Nat.gcd step.natAbs ring.natAbs ∣ rest.natAbs := Int.ofNat_dvd_left.mp rl
    have d2 : Nat.gcd step.natAbs ring.natAbs ∣ step.natAbs := Nat.gcd_dvd_left _ _
    exact Nat.mod_eq_zero_of_dvd ((Nat.dvd_mod_iff d2).mpr d1)
  · have hz' := of_decide_eq_true hz
    rw [List.mem_range] at hl
    have hh : (rest + ring * (lap : Int)) % (step.natAbs : Int) = 0 := by
      have e1 : rest = (rest.natAbs : Int) := by omega
      have e2 : ring = (ring.natAbs : Int) := by omega
      rw [e1, e2, ← Int.natCast_mul, ← Int.natCast_add, ← Int.natCast_emod]
      have : (rest.natAbs + ring.natAbs * lap) % step.natAbs = 0 := by
        rw [Nat.add_mod, Nat.mul_mod] at hz' ⊢
        rw [Nat.mod_mod, Nat.mod_mod] at hz'
        exact hz'
      rw [this]
      rfl
    have : (rest + ring * (lap : Int)) / (step.natAbs : Int) ∈ roundsL step places ring := by
      unfold roundsL
      rw [List.mem_filterMap, hr]
      exact ⟨rest + ring * (lap : Int), List.mem_map.mpr ⟨(lap : Int), memL37 (by omega) (by omega), rfl⟩, by rw [if_pos hh]⟩
    exact List.ne_nil_of_mem this
theorem gcd_two {s m : Int} (h : m % 2 = 1) : Int.gcd (2 * s) m = Int.gcd s m := by
  have c : Nat.gcd 2 m.natAbs = 1 := by
    rw [Nat.gcd_rec, show m.natAbs % 2 = 1 by omega]
    rfl
  show Nat.gcd (2 * s).natAbs m.natAbs = Nat.gcd s.natAbs m.natAbs
  rw [Int.natAbs_mul]
  exact Nat.Coprime.gcd_mul_left_cancel _ c
def numF (n a b : Int) : Int := if a = n - 1 then b else if b = n - 1 then a else a + b
theorem roundsF_form {st n a b : Int} (s0 : st ≠ 0) (s7 : st.natAbs ≤ 7) (h4 : 4 ≤ n) (ev : n % 2 = 0) {g : Int} (hg : g = ((Int.gcd st (n - 1) : Nat) : Int)) :
    (¬ g ∣ numF n a b → roundsF st n a b = []) ∧ (g ∣ numF n a b → ∃ r0 : Int, 0 ≤ r0 ∧ r0 < (n - 1) / g ∧ roundsF st n a b = (rangeI 0 g).map fun i => r0 + i * ((n - 1) / g)) := by
  unfold roundsF numF
  split
  · exact cong_list (by omega) (rounds_asc s0 (by omega)) (fun r => rounds_mem s0 (by omega)) hg (fun h => rounds_ne s0 (by omega) (by omega) (by rw [← hg]; exact h))
  · split
    · exact cong_list (by omega) (rounds_asc s0 (by omega)) (fun r => rounds_mem s0 (by omega)) hg (fun h => rounds_ne s0 (by omega) (by omega) (by rw [← hg]; exact h))
    · have hg2 : g = ((Int.gcd (2 * st) (n - 1) : Nat) : Int) := by rw [gcd_two (by omega)]; exact hg
      exact cong_list (by omega) (rounds_asc (by omega) (by omega)) (fun r => rounds_mem (by omega) (by omega)) hg2 (fun h => rounds_ne (by omega) (by omega) (by omega) (by rw [← hg2]; exact h))
structure OkS (d : D) (k n : Nat) : Prop where
  pl : plainD d = true
  sw : (pyOf d).showable = true
  nd : (pyOf d).hasDict = false
  dp : (pyOf d).depth ≤ k
  ln : (pyOf d).shown.length ≤ n
  cl : (pyOf d).canLay0 = true
theorem OkS.rp {d : D} {k n : Nat} (h : OkS d k n) (hk : k ≤ 60) (hn : n ≤ 16777216) : plainD d = true ∧ (pyOf d).showable = true ∧ (pyOf d).hasDict = false ∧ (pyOf d).depth ≤ 60 ∧ (pyOf d).shown.length ≤ sizeLine :=
  ⟨h.pl, h.sw, h.nd, Nat.le_trans h.dp hk, by rw [sizeLine_eq]; exact Nat.le_trans h.ln hn⟩
theorem OkS.sh {d : D} {k n : Nat} (h : OkS d k n) (hk : k ≤ 60) : SeqAt.shaped (pyOf d) = true := by
  unfold SeqAt.shaped
  rw [h.cl, Bool.true_and]
  exact decide_eq_true (by have := h.dp; omega)
theorem OkS.rf {d : D} {k n : Nat} (h : OkS d k n) (hk : k ≤ 60) : PyData.eqv (pyOf d) (pyOf d) = true := SeqAt.eqv_refl _ (SeqAt.canLay_of_shaped (h.sh hk))
theorem OkS.mono {d : D} {k n k' n' : Nat} (h : OkS d k n) (hk : k ≤ k') (hn : n ≤ n') : OkS d k' n' := ⟨h.pl, h.sw, h.nd, Nat.le_trans h.dp hk, Nat.le_trans h.ln hn, h.cl⟩
theorem oks_int {i : Int} (h : i.natAbs < 2 ^ 1920) : OkS (D.v (V.int i)) 1 1921 := by
  have l : i.natAbs.log2 < 1920 := PySem.Flt.log2_lt_of (by decide) h
  refine ⟨rfl, decide_eq_true l, rfl, ?_, int_text_len_1921 l, rfl⟩
  simp [pyOf, PyData.depth]
theorem oks_bl (b : Bool) : OkS (D.v (V.bl b)) 1 5 := by
  cases b <;> exact ⟨rfl, rfl, rfl, by decide, by decide +kernel, rfl⟩
theorem len_app (a b : Str) : (a ++ b).length = a.length + b.length := by
  rw [len_L, len_L, len_L, L_app, List.length_append]
theorem textFrom_le : ∀ {ts : List Str} {i : Nat} {acc : Str} {n : Nat}, (∀ t ∈ ts, t.length ≤ n) → (textFrom i acc ts).length ≤ acc.length + ts.length * (n + 2)
  | [], i, acc, n, _ => by
    show acc.length ≤ acc.length + 0 * (n + 2)
    omega
  | t :: ts, i, acc, n, h => by
    have h1 := h t List.mem_cons_self
    have ih := textFrom_le (ts := ts) (i := i + 1) (acc := acc ++ (if i > 0 then ", " else "" : String) ++ t) (n := n) fun t ht => h t (List.mem_cons_of_mem _ ht)
    show (textFrom (i + 1) (acc ++ (if i > 0 then ", " else "" : String) ++ t) ts).length ≤ _
    refine Nat.le_trans ih ?_
    have e : ((if i > 0 then ", " else "" : String) : Str).length ≤ 2 := by
      split <;> decide +kernel
    rw [len_app, len_app, List.length_cons, Nat.succ_mul]
    omega
theorem shownAll_len : ∀ ds : List D, (PyData.shownAll (pyL ds)).length = ds.length
  | [] => rfl
  | d :: ds => by
    simp only [pyL, PyData.shownAll, List.length_cons, shownAll_len ds]
theorem oks_all {k n : Nat} : ∀ {ds : List D}, (∀ d ∈ ds, OkS d k n) → plainL ds = true ∧ PyData.showableAll (pyL ds) = true ∧ PyData.hasDictAll (pyL ds) = false ∧ PyData.depthAll (pyL ds) ≤ k ∧ (∀ t ∈ PyData.shownAll (pyL ds), t.length ≤ n) ∧ PyData.canLayAll0 (pyL ds) = true
  | [], _ => ⟨rfl, rfl, rfl, by simp [pyL, PyData.depthAll], fun t ht => by simp [pyL, PyData.shownAll] at ht, rfl⟩
  | d :: ds, h => by
    obtain ⟨a1, a2, a3, a4, a5, a6⟩ := oks_all (ds := ds) fun e he => h e (List.mem_cons_of_mem _ he)
    have hd := h d List.mem_cons_self
    refine ⟨?_, ?_, ?_, ?_, ?_, ?_⟩
    · simp only [plainL, hd.pl, a1, Bool.and_self]
    · simp only [pyL, PyData.showableAll, hd.sw, a2, Bool.and_self]
    · simp only [pyL, PyData.hasDictAll, hd.nd, a3, Bool.or_self]
    · simp only [pyL, PyData.depthAll]
      have := hd.dp
      omega
    · intro t ht
      simp only [pyL, PyData.shownAll, List.mem_cons] at ht
      rcases ht with rfl | ht
      · exact hd.ln
      · exact a5 t ht
    · simp only [pyL, PyData.canLayAll0, hd.cl, a6, Bool.and_self]
theorem oks_lst {ds : List D} {k n m : Nat} (h : ∀ d ∈ ds, OkS d k n) (hm : ds.length ≤ m) : OkS (D.lst ds) (k + 1) (m * (n + 2) + 2) := by
  obtain ⟨a1, a2, a3, a4, a5, a6⟩ := oks_all h
  refine ⟨?_, ?_, ?_, ?_, ?_, ?_⟩
  · simp only [plainD]; exact a1
  · simp only [pyOf, PyData.showable]; exact a2
  · simp only [pyOf, PyData.hasDict]; exact a3
  · simp only [pyOf, PyData.depth]; omega
  · simp only [pyOf, PyData.shown]
    unfold listText
    rw [len_app]
    have t := textFrom_le (i := 0) (acc := "[") a5
    rw [shownAll_len] at t
    have l1 : (("[" : String) : Str).length = 1 := by decide +kernel
    have l2 : (("]" : String) : Str).length = 1 := by decide +kernel
    have : ds.length * (n + 2) ≤ m * (n + 2) := Nat.mul_le_mul_right _ hm
    first
      | omega
      | (show (textFrom 0 ("[" : Str) _).length + ("]" : Str).length ≤ _; have l3 : ("[" : Str).length = 1 := by decide +kernel; have l4 : ("]" : Str).length = 1 := by decide +kernel; omega)
  · simp only [pyOf, PyData.canLay0]; exact a6
theorem oks_map {α : Type} {e : α → D} {xs : List α} {k n m : Nat} (h : ∀ x ∈ xs, OkS (e x) k n) (hm : xs.length ≤ m) : OkS (D.lst (xs.map e)) (k + 1) (m * (n + 2) + 2) :=
  oks_lst (fun d hd => by
    obtain ⟨x, hx, rfl⟩ := List.mem_map.mp hd
    exact h x hx) (by rw [List.length_map]; exact hm)
theorem p899 {n : Int} (h0 : 0 ≤ n) (h : n < 10 ^ 70) : n.natAbs < 2 ^ 899 := by
  have e : (10 : Int) ^ 70 < 2 ^ 255 := by decide
  have e3 : ((2 ^ 255 : Nat) : Int) = (2 : Int) ^ 255 := by decide
  have : n.natAbs < 2 ^ 255 := by omega
  exact Nat.lt_trans this (Nat.pow_lt_pow_right (by decide) (by decide))
theorem forC_snoc {α β : Type} {body : α → List β → (List β → Prop) → Prop} {k : List β → Prop} (g : α → β) (N : Nat) : ∀ {xs : List α} {acc : List β}, acc.length + xs.length ≤ N → (∀ x ∈ xs, ∀ (s : List β) (k' : List β → Prop), s.length < N → k' (s ++ [g x]) → body x s k') → k (acc ++ xs.map g) → forC body xs acc k
  | [], acc, _, _, q => by
    rw [List.map_nil, List.append_nil] at q
    exact q
  | x :: xs, acc, hN, h, q => by
    rw [List.length_cons] at hN
    refine h x List.mem_cons_self acc _ (by omega) ?_
    refine forC_snoc g N (by rw [List.length_append, List.length_cons, List.length_nil]; omega) (fun y hy => h y (List.mem_cons_of_mem _ hy)) ?_
    rw [List.append_assoc]
    exact q
theorem rangeI_cons {lo hi : Int} (h : lo < hi) : rangeI lo hi = lo :: rangeI (lo + 1) hi := by
  apply List.ext_getElem?
  intro i
  cases i with
  | zero => rw [rangeI_get (by omega)]; simp
  | succ i =>
    rw [List.getElem?_cons_succ]
    by_cases c : i < (hi - (lo + 1)).toNat
    · rw [rangeI_get (by omega), rangeI_get c]
      congr 1
      omega
    · rw [List.getElem?_eq_none (by rw [rangeI_len]; omega), List.getElem?_eq_none (by rw [rangeI_len]; omega)]
theorem forC_rng {S : Type} {body : Int → S → (S → Prop) → Prop} {k : S → Prop} (I : Int → S → Prop) {hi : Int} : ∀ (n : Nat) {lo : Int} {s0 : S}, n = (hi - lo).toNat → lo ≤ hi → (∀ (x : Int) (s : S) (k' : S → Prop), lo ≤ x → x < hi → I x s → (∀ s', I (x + 1) s' → k' s') → body x s k') → I lo s0 → (∀ s, I hi s → k s) → forC body (rangeI lo hi) s0 k
  | 0, lo, s0, hn, hl, _, h0, q => by
    have e : lo = hi := by omega
    subst e
    have : rangeI lo lo = [] := List.eq_nil_of_length_eq_zero (by rw [rangeI_len]; omega)
    rw [this]
    exact q s0 h0
  | n + 1, lo, s0, hn, hl, hb, h0, q => by
    rw [rangeI_cons (by omega)]
    exact hb lo s0 _ (by omega) (by omega) h0 fun s' h' => forC_rng I n (by omega) (by omega) (fun x s k' a b => hb x s k' (by omega) b) h' q
def SP (st n d : Int) : List Int := (rangeI 0 (n - 1)).map fun t => seatF st n t d
theorem seat_uniq {n x a : Int} (h4 : 4 ≤ n) (ev : n % 2 = 0) (b1 : -(n / 2 - 1) ≤ a) (b2 : a ≤ n / 2 - 1) (h : n - 1 ∣ x - a) : seatV n x = a := by
  have e : x % (n - 1) = if 0 ≤ a then a else a + (n - 1) := by
    by_cases c : 0 ≤ a
    · rw [if_pos c]
      exact (emod_is c (by omega)).mpr h
    · rw [if_neg c]
      refine (emod_is (by omega) (by omega)).mpr ?_
      obtain ⟨z, hz⟩ := h
      exact ⟨z - 1, by grind⟩
  unfold seatV
  rw [e]
  split <;> split <;> omega
theorem spots_ok {r : RT} (h : RV r) {p d : Int} (hp : 1 ≤ p) (hb : p ≤ 100) (d0 : 0 ≤ d) (d1 : d < 2 * p + 1) {k : List Int → Prop} (q : k (SP r.1 (2 * p + 2) d)) : M_spots r p d k := by
  have s7 := h.s7
  unfold M_spots
  unfold SP at q
  rw [show 2 * p + 2 - 1 = 2 * p + 1 by omega] at q
  refine forC_snoc (fun t => seatF r.1 (2 * p + 2) t d) 300 (by rw [rangeI_len]; simp; omega) (fun x hx s k' hs hk => ?_) (by rw [List.nil_append]; exact q)
  obtain ⟨x0, x1⟩ := rangeI_mem hx
  have hsv := seatF_b (st := r.1) (n := 2 * p + 2) (t := x) (d := d) (by omega) (by omega)
  have b70 : (1000 : Int) < 10 ^ 70 := by decide
  refine ⟨cmul7 (n := 2 * p + 2) (by omega) d0 (by omega) (p899 (by omega) (by omega)), by rw [rangeI_len]; omega, filC_ok (fun y => if (x - r.1 * d - y) % (2 * p + 1) = 0 then some y else none) (fun y hy k2 hk2 => ?_) ?_⟩
  · refine ⟨by omega, ?_⟩
    by_cases c : (x - r.1 * d - y) % (2 * p + 1) = 0
    · rw [if_pos (by rw [eqI']; exact c)]
      rw [if_pos c] at hk2
      exact hk2
    · rw [if_neg (by rw [eqI']; exact c)]
      rw [if_neg c] at hk2
      exact hk2
  · rw [List.nil_append]
    generalize hys : (rangeI (0 - p) (p + 1)).filterMap (fun y => if (x - r.1 * d - y) % (2 * p + 1) = 0 then some y else none) = ys
    have mem : ∀ y, y ∈ ys ↔ (0 - p ≤ y ∧ y < p + 1) ∧ (x - r.1 * d - y) % (2 * p + 1) = 0 := fun y => by
      rw [← hys, List.mem_filterMap]
      constructor
      · rintro ⟨z, hz, e⟩
        split at e
        · rename_i c
          cases e
          exact ⟨rangeI_mem hz, c⟩
        · cases e
      · rintro ⟨a, c⟩
        exact ⟨y, memL37 a.1 a.2, by rw [if_pos c]⟩
    have hin : seatF r.1 (2 * p + 2) x d ∈ ys := by
      refine (mem _).mpr ⟨by omega, ?_⟩
      have := @seatV_dvd (2 * p + 2) (x - r.1 * d) (by omega)
      rw [show 2 * p + 2 - 1 = 2 * p + 1 by omega] at this
      exact Int.emod_eq_zero_of_dvd this
    refine ⟨by decide, List.length_pos_of_mem hin, fun y hy => ⟨by omega, ?_⟩⟩
    have hy' : y ∈ ys := by rw [hy]; exact List.getElem_mem _
    obtain ⟨⟨y1, y2⟩, y3⟩ := (mem y).mp hy'
    have e : seatF r.1 (2 * p + 2) x d = y := seat_uniq (by omega) (by omega) (by omega) (by omega) (by
      rw [show 2 * p + 2 - 1 = 2 * p + 1 by omega]
      exact Int.dvd_of_emod_eq_zero y3)
    rw [e] at hk
    exact hk
theorem SP_at {st n d t : Int} (t0 : 0 ≤ t) (t1 : t < n - 1) : (SP st n d)[t.toNat]? = some (seatF st n t d) := by
  unfold SP
  rw [List.getElem?_map, rangeI_get (by omega)]
  show some (seatF st n (0 + (t.toNat : Int)) d) = _
  rw [show (0 : Int) + (t.toNat : Int) = t by omega]
theorem SP_len {st n d : Int} : (SP st n d).length = (n - 1).toNat := by
  unfold SP
  rw [List.length_map, rangeI_len]
  omega
theorem seat_inj {st n d a b : Int} (h4 : 4 ≤ n) (a0 : 0 ≤ a) (a1 : a < n - 1) (b0 : 0 ≤ b) (b1 : b < n - 1) (h : seatF st n a d = seatF st n b d) : a = b := by
  rw [seatF_V, seatF_V] at h
  have d1 := @seatV_dvd n (a - st * d) h4
  have d2 := @seatV_dvd n (b - st * d) h4
  rw [h] at d1
  have d3 : n - 1 ∣ a - b := by
    have := Int.dvd_sub d1 d2
    rw [show a - st * d - seatV n (b - st * d) - (b - st * d - seatV n (b - st * d)) = a - b by omega] at this
    exact this
  have e1 := (emod_is b0 b1).mpr d3
  rw [Int.emod_eq_of_lt a0 a1] at e1
  exact e1
theorem SP_idx {st n d t s : Int} (h4 : 4 ≤ n) (t0 : 0 ≤ t) (t1 : t < n - 1) (h : seatF st n t d = s) : s ∈ SP st n d ∧ (((SP st n d).idxOf s : Nat) : Int) = t := by
  have hm : s ∈ SP st n d := by
    have := List.mem_of_getElem? (SP_at (st := st) (d := d) t0 t1)
    rw [h] at this
    exact this
  refine ⟨hm, ?_⟩
  have hl := List.idxOf_lt_length_iff.mpr hm
  have hl' := hl
  rw [SP_len] at hl'
  have e := List.getElem_idxOf hl
  have e2 := SP_at (st := st) (n := n) (d := d) (t := ((SP st n d).idxOf s : Int)) (by omega) (by omega)
  rw [show (((SP st n d).idxOf s : Nat) : Int).toNat = (SP st n d).idxOf s by omega, List.getElem?_eq_getElem hl, e] at e2
  have e3 := Option.some.inj e2
  exact seat_inj (st := st) (d := d) h4 (by omega) (by omega) t0 t1 (by rw [← e3, h])
theorem rangeI_last {n : Int} (h : 1 ≤ n) : rangeI 0 n = rangeI 0 (n - 1) ++ [n - 1] := by
  apply List.ext_getElem?
  intro i
  by_cases c : i < (n - 1).toNat
  · rw [List.getElem?_append_left (by rw [rangeI_len]; omega), rangeI_get (by omega), rangeI_get (by omega)]
  · rw [List.getElem?_append_right (by rw [rangeI_len]; omega), rangeI_len]
    by_cases e : i = (n - 1).toNat
    · rw [rangeI_get (by omega), e, show (n - 1).toNat - (n - 1 - 0).toNat = 0 by omega]
      simp
      omega
    · rw [List.getElem?_eq_none (by rw [rangeI_len]; omega), List.getElem?_eq_none (by simp; omega)]
theorem ixL {α : Type} {l : List α} {i : Int} {y : α} {k : α → Prop} (h0 : 0 ≤ i) (hy : l[i.toNat]? = some y) (q : k y) : 0 ≤ i ∧ ∃ g : Int.toNat i < l.length, ∀ x, x = l[Int.toNat i]'g → k x := by
  obtain ⟨g, e⟩ := List.getElem?_eq_some_iff.mp hy
  exact ⟨h0, g, fun x hx => by rw [hx, e]; exact q⟩
theorem int_small {i : Int} (h0 : -1000 ≤ i) (h1 : i ≤ 1000) : i.natAbs < 2 ^ 1920 := Nat.lt_of_lt_of_le (show i.natAbs < 2 ^ 10 by omega) (Nat.pow_le_pow_right (by decide) (by decide))
theorem mapC2 {α β : Type} {body : α → (β → Prop) → Prop} {a b : α} {acc : List β} {k : List β → Prop} (q : body a fun y => body b fun z => k (acc ++ [y] ++ [z])) : mapC body [a, b] acc k := q
theorem chkpair_ok {a b n : Int} (a0 : 0 ≤ a) (a1 : a < n) (b0 : 0 ≤ b) (b1 : b < n) (ab : a ≠ b) {k : Unit → Prop} (q : k ()) : M_check_pair a b n k := by
  unfold M_check_pair
  refine chkteam_ok a0 a1 (chkteam_ok b0 b1 ?_)
  rw [if_neg (by rw [eqI']; exact ab)]
  exact q
theorem roundsat_ok {step places ring : Int} (s0 : step ≠ 0) (s7 : step.natAbs ≤ 14) (r0 : 0 < ring) (rb : ring.natAbs < 2 ^ 900) {k : List Int → Prop} (q : k (roundsL step places ring)) : M_rounds_at step places ring k := by
  unfold M_rounds_at
  simp only [absN]
  refine ⟨fun v => v = restL step places ring, ?_, fun rest hr => ?_⟩
  · unfold restL
    by_cases c : 0 < step
    · rw [if_pos (decide_eq_true c), if_pos c]
      exact ⟨r0, rfl⟩
    · rw [if_neg (by simpa using c), if_neg c]
      exact ⟨r0, rfl⟩
  · unfold roundsL at q
    rw [← hr] at q
    refine ⟨by rw [rangeI_len]; omega, mapC_ok (fun lap => rest + ring * lap) (fun x hx k' hk => ?_) ?_⟩
    · obtain ⟨x1, x2⟩ := rangeI_mem hx
      exact ⟨cm3 rb (by decide) (by omega) (by decide), hk⟩
    · rw [List.nil_append]
      refine ⟨by rw [List.length_map, rangeI_len]; omega, filC_ok (fun g => if g % (step.natAbs : Int) = 0 then some (g / (step.natAbs : Int)) else none) (fun x hx k' hk => ?_) ?_⟩
      · refine ⟨by omega, ?_⟩
        by_cases c : x % (step.natAbs : Int) = 0
        · rw [if_pos (by rw [eqI']; exact c)]
          rw [if_pos c] at hk
          exact ⟨wide_div (b := 4) (by omega) (by omega) (by decide) (by decide), hk⟩
        · rw [if_neg (by rw [eqI']; exact c)]
          rw [if_neg c] at hk
          exact hk
      · rw [List.nil_append]
        exact q
theorem isright_ok {r : Int × (Str × Str × Str) × Str × Bool} {n : Int} {k : Bool → Prop} (q : k (decide (gcdR r.1 n = 1))) : M_is_rightP r n k := by
  unfold M_is_rightP M_Rule_step
  simp only [absI]
  have e : (decide (V.int (gcdR r.1 n) = V.int 1)) = decide (gcdR r.1 n = 1) := by
    by_cases c : gcdR r.1 n = 1
    · rw [decide_eq_true c, decide_eq_true (by rw [c])]
    · rw [decide_eq_false c, decide_eq_false (by simpa using c)]
  rw [← e] at q
  exact q
theorem roundsof_ok {r : RT} {n one other : Int} (h : RV r) (hn : 2 * lst r.2.1 + 2 ≤ n) (e : n % 2 = 0) (big : n.natAbs < 2 ^ 899) (a0 : 0 ≤ one) (a1 : one < n) (b0 : 0 ≤ other) (b1 : other < n) (ab : one ≠ other) {k : List Int → Prop}
    (q : k (if one = n - 1 then roundsL r.1 other (n - 1) else if other = n - 1 then roundsL r.1 one (n - 1) else roundsL (2 * r.1) (one + other) (n - 1))) : M_rounds_of r n one other k := by
  have l1 := @lst_ge r.2.1
  have bg : (n - 1).natAbs < 2 ^ 900 := by
    have : (2 : Nat) ^ 900 = 2 * 2 ^ 899 := by rw [show (900 : Nat) = 899 + 1 from rfl, Nat.pow_succ, Nat.mul_comm]
    omega
  have s0 := h.s0
  have s7 := h.s7
  unfold M_rounds_of M_Rule_step
  refine chksize_ok h.w hn e (chkpair_ok a0 a1 b0 b1 ab ?_)
  by_cases c : one = n - 1
  · rw [if_pos (by rw [eqI']; exact c)]
    rw [if_pos c] at q
    exact roundsat_ok s0 (by omega) (by omega) bg q
  · rw [if_neg (by rw [eqI']; exact c)]
    rw [if_neg c] at q
    by_cases d : other = n - 1
    · rw [if_pos (by rw [eqI']; exact d)]
      rw [if_pos d] at q
      exact roundsat_ok s0 (by omega) (by omega) bg q
    · rw [if_neg (by rw [eqI']; exact d)]
      rw [if_neg d] at q
      exact roundsat_ok (by omega) (by omega) (by omega) bg q
theorem isrightU_ok {r : RT} {n : Int} (h : RV r) (hn : 2 * lst r.2.1 + 2 ≤ n) (e : n % 2 = 0) {k : Bool → Prop} (q : k (decide (gcdR r.1 n = 1))) : M_is_right r n k := by
  unfold M_is_right
  exact chksize_ok h.w hn e (isright_ok q)
/-! ### the dict of all pairs -/
abbrev Dm (P : List (Int × Int)) (f : Int × Int → List Int) : List (List Key × List Int) := P.map fun q => (kfI q, f q)
theorem kfI_inj {q r : Int × Int} (h : kfI q = kfI r) : q = r := by
  simp only [kfI, List.cons.injEq, Sum.inl.injEq, and_true] at h
  exact Prod.ext h.1 h.2
theorem Dm_cons {r : Int × Int} {P : List (Int × Int)} {f : Int × Int → List Int} : Dm (r :: P) f = (kfI r, f r) :: Dm P f := rfl
theorem Dm_keys (P : List (Int × Int)) (f : Int × Int → List Int) : (Dm P f).map (·.1) = P.map kfI := by
  rw [List.map_map]
  rfl
theorem Dm_get {f : Int × Int → List Int} {q : Int × Int} : ∀ {P : List (Int × Int)}, q ∈ P → Rx.getD (Dm P f) (kfI q) = some (f q)
  | [], h => absurd h List.not_mem_nil
  | r :: P, h => by
    unfold Rx.getD
    by_cases c : r = q
    · rw [Dm_cons, List.find?_cons_of_pos (by simp [c])]
      rw [c]
      rfl
    · rw [Dm_cons, List.find?_cons_of_neg (by simpa using fun z => c (kfI_inj z))]
      exact Dm_get (P := P) (by
        rcases List.mem_cons.mp h with z | z
        · exact absurd z.symm c
        · exact z)
theorem Dm_has {f : Int × Int → List Int} {q : Int × Int} {P : List (Int × Int)} (h : q ∉ P) : ¬ Rx.hasD (Dm P f) (kfI q) = true := by
  unfold Rx.hasD
  rw [List.any_eq_true]
  rintro ⟨z, hz, e⟩
  obtain ⟨r, hr, rfl⟩ := List.mem_map.mp hz
  exact h (by rw [← kfI_inj (of_decide_eq_true e)]; exact hr)
theorem Dm_cong {f g : Int × Int → List Int} {P : List (Int × Int)} (h : ∀ q ∈ P, f q = g q) : Dm P f = Dm P g :=
  List.map_congr_left fun q hq => by rw [h q hq]
theorem Dm_add {f : Int × Int → List Int} {q : Int × Int} {x : Int} : ∀ {P : List (Int × Int)}, P.Nodup → addF (Dm P f) (kfI q) x = Dm P fun r => if r = q then f r ++ [x] else f r
  | [], _ => rfl
  | r :: P, nd => by
    obtain ⟨n1, n2⟩ := List.nodup_cons.mp nd
    rw [Dm_cons, addF, Dm_cons]
    by_cases c : r = q
    · rw [if_pos (by rw [c]), if_pos c]
      congr 1
      exact Dm_cong fun z hz => by rw [if_neg fun e => n1 (by rw [c, ← e]; exact hz)]
    · rw [if_neg (fun z => c (kfI_inj z)), if_neg c, Dm_add n2]
/-- the pairs so far -/
structure PS (m i j : Int) (P : List (Int × Int)) : Prop where
  nd : P.Nodup
  mem : ∀ q, q ∈ P ↔ 0 ≤ q.1 ∧ q.1 < q.2 ∧ q.2 ≤ m ∧ (q.1 < i ∨ (q.1 = i ∧ q.2 < j))
def GM (st n d : Int) (q : Int × Int) : List Int := (rangeI 0 d).filter fun r => decide (oppF st n q.1 r = q.2)
theorem GM_len {st n d : Int} {q : Int × Int} (h : d ≤ 1000) : (GM st n d q).length ≤ 1000 := by
  refine Nat.le_trans (List.length_filter_le _ _) ?_
  rw [rangeI_len]
  omega
theorem GM_next {st n d : Int} (h : 0 ≤ d) (q : Int × Int) : GM st n (d + 1) q = GM st n d q ++ if oppF st n q.1 d = q.2 then [d] else [] := by
  unfold GM
  rw [rangeI_last (n := d + 1) (by omega), List.filter_append, show d + 1 - 1 = d by omega]
  congr 1
  by_cases c : oppF st n q.1 d = q.2
  · rw [if_pos c]; simp [c]
  · rw [if_neg c]; simp [c]
theorem GM_all {st n : Int} {q : Int × Int} (s0 : st ≠ 0) (h4 : 4 ≤ n) (ev : n % 2 = 0) (a0 : 0 ≤ q.1) (ab : q.1 < q.2) (b1 : q.2 < n) : GM st n (n - 1) q = roundsF st n q.1 q.2 := by
  refine asc_ext ((rangeI_asc _ _).filter _) (roundsF_asc s0 h4) fun x => ?_
  rw [roundsF_mem s0 h4]
  unfold GM
  rw [List.mem_filter, decide_eq_true_eq]
  constructor
  · rintro ⟨h, e⟩
    obtain ⟨x0, x1⟩ := rangeI_mem h
    refine ⟨x0, x1, ?_⟩
    rw [← e]
    exact meets_opp h4 ev a0 (by omega)
  · rintro ⟨x0, x1, h⟩
    exact ⟨memL37 x0 x1, opp_meets h4 ev a0 (by omega) (by omega) b1 (by omega) h⟩
theorem pairs_ok {p : Int} (hp : 1 ≤ p) (hb : p ≤ 100) {k : List (List Key × List Int) → Prop} (q : ∀ P, PS (2 * p + 1) (2 * p + 2) 0 P → P.length ≤ 100000 → k (Dm P fun _ => [])) :
    forC (fun (x6 : Int) (s8 : (List (List Key × List Int))) (k9 : (List (List Key × List Int)) → Prop) => (forC (fun (x18 : Int) (s20 : (List (List Key × List Int))) (k21 : (List (List Key × List Int)) → Prop) => ((¬ Rx.hasD s20 (kfI (x6, x18)) = true ∧ s20.length < 16777216) ∧ (k21 (s20 ++ [(kfI (x6, x18), ([] : List Int))])))) (rangeI (x6 + (1 : Int)) ((((2 : Int) * p) + (1 : Int)) + (1 : Int))) s8 fun s41 => (k9 s41))) (rangeI (0 : Int) ((((2 : Int) * p) + (1 : Int)) + (1 : Int))) ([] : (List (List Key × List Int))) k := by
  refine forC_rng (fun i s => ∃ P, s = Dm P (fun _ => []) ∧ PS (2 * p + 1) i 0 P ∧ (P.length : Int) ≤ 300 * i) _ rfl (by omega) (fun i s k' i0 i1 hs hk => ?_) ⟨[], rfl, ⟨List.nodup_nil, fun q => ⟨fun h => absurd h List.not_mem_nil, fun h => by omega⟩⟩, by simp⟩ ?_
  · obtain ⟨P, rfl, hP, hl⟩ := hs
    refine forC_rng (fun j s => ∃ P, s = Dm P (fun _ => []) ∧ PS (2 * p + 1) i j P ∧ (P.length : Int) ≤ 300 * i + (j - (i + 1))) _ rfl (by omega) (fun j s k2 j0 j1 hs hk2 => ?_) ⟨P, rfl, ⟨hP.nd, fun q => ?_⟩, by omega⟩ ?_
    · obtain ⟨P, rfl, hP, hl⟩ := hs
      have nin : (i, j) ∉ P := fun z => by
        have := (hP.mem _).mp z
        simp only at this
        omega
      refine ⟨⟨Dm_has nin, by rw [List.length_map]; omega⟩, hk2 _ ⟨P ++ [(i, j)], by simp [Dm], ⟨?_, fun q => ?_⟩, by rw [List.length_append, List.length_singleton]; omega⟩⟩
      · rw [List.nodup_append]
        refine ⟨hP.nd, by simp, fun a ha b hb e => ?_⟩
        rw [List.mem_singleton] at hb
        rw [e, hb] at ha
        exact nin ha
      · rw [List.mem_append, List.mem_singleton, hP.mem]
        constructor
        · rintro (h | rfl)
          · omega
          · refine ⟨by omega, ?_, ?_, .inr ⟨rfl, ?_⟩⟩
            · show i < j
              omega
            · show j ≤ _
              omega
            · show j < j + 1
              omega
        · intro h
          by_cases c : q = (i, j)
          · exact .inr c
          · refine .inl ⟨h.1, h.2.1, h.2.2.1, ?_⟩
            have : ¬ (q.1 = i ∧ q.2 = j) := fun z => c (Prod.ext z.1 z.2)
            omega
    · rw [hP.mem]
      omega
    · rintro s ⟨P, rfl, hP, hl⟩
      refine hk _ ⟨P, rfl, ⟨hP.nd, fun q => ?_⟩, by omega⟩
      rw [hP.mem]
      omega
  · rintro s ⟨P, rfl, hP, hl⟩
    refine q P ⟨hP.nd, fun q => ?_⟩ (by omega)
    rw [hP.mem]
    omega
/-- the list of rounds of a pair, within round d: x teams have been asked -/
def GX (st n d x : Int) (q : Int × Int) : List Int := GM st n d q ++ if oppF st n q.1 d = q.2 ∧ (q.2 = n - 1 ∨ q.1 < x) then [d] else []
theorem GX_len {st n d x : Int} {q : Int × Int} (h : d ≤ 1000) : (GX st n d x q).length < 16777216 := by
  have := GM_len (st := st) (n := n) (q := q) h
  unfold GX
  rw [List.length_append]
  split <;> simp <;> omega
theorem meetings_ok {r : RT} (h : RV r) {p : Int} (hp : 1 ≤ p) (hb : p ≤ 100) {k : List (List Key × List Int) → Prop}
    (q : ∀ P : List (Int × Int), (∀ z, z ∈ P ↔ 0 ≤ z.1 ∧ z.1 < z.2 ∧ z.2 ≤ 2 * p + 1) → P.length ≤ 100000 → k (Dm P fun z => roundsF r.1 (2 * p + 2) z.1 z.2)) : M_meetings r p k := by
  have s0 := h.s0
  unfold M_meetings
  refine pairs_ok hp hb fun P hP hl => ?_
  have mem : ∀ z, z ∈ P ↔ 0 ≤ z.1 ∧ z.1 < z.2 ∧ z.2 ≤ 2 * p + 1 := fun z => by
    rw [hP.mem]
    omega
  generalize hn : 2 * p + 2 = n at q
  have hm : 2 * p + 1 = n - 1 := by omega
  rw [hm] at mem ⊢
  refine forC_rng (fun d s => s = Dm P (GM r.1 n d)) _ rfl (by omega) (fun d s k' d0 d1 hs hk => ?_) (Dm_cong fun z _ => rfl) ?_
  · subst hs
    refine spots_ok h hp hb d0 (by omega) ?_
    rw [hn]
    have t0b := @oppF_b r.1 n (n - 1) d (by omega)
    have t0n := @oppF_ne r.1 n (n - 1) d (by omega)
    have t0o := @oppF_opp r.1 n (n - 1) d (by omega) (by omega) (by omega) (by omega)
    generalize ht : oppF r.1 n (n - 1) d = t at t0b t0n t0o
    have st0 : seatF r.1 n t d = 0 := (opp_mid (by omega) (by omega) (by omega) (by omega)).mp t0o
    obtain ⟨i1, i2⟩ := SP_idx (st := r.1) (n := n) (d := d) (t := t) (s := 0) (by omega) (by omega) (by omega) st0
    have inP : (t, n - 1) ∈ P := (mem _).mpr ⟨by show 0 ≤ t; omega, by show t < n - 1; omega, by show n - 1 ≤ n - 1; omega⟩
    rw [i2]
    refine ⟨i1, _, Dm_get inP, by have := @GM_len r.1 n d (t, n - 1) (by omega); omega, ?_⟩
    rw [Dm_add hP.nd]
    refine forC_rng (fun x s => s = Dm P (GX r.1 n d x)) _ rfl (by omega) (fun x s k2 x0 x1 hs hk2 => ?_) (Dm_cong fun z hz => ?_) fun s hs => hk _ ?_
    · subst hs
      refine ixL x0 (SP_at x0 x1) ?_
      by_cases c : oppF r.1 n x d = n - 1
      · have sx : seatF r.1 n x d = 0 := (opp_mid (by omega) (by omega) x0 x1).mp c
        obtain ⟨j1, j2⟩ := SP_idx (st := r.1) (n := n) (d := d) (t := x) (s := 0 - seatF r.1 n x d) (by omega) x0 x1 (by omega)
        rw [j2, if_neg (by simp)]
        refine ⟨j1, hk2 _ (Dm_cong fun z hz => ?_)⟩
        have := (mem z).mp hz
        unfold GX
        congr 1
        by_cases e : z.1 = x
        · by_cases e2 : oppF r.1 n z.1 d = z.2
          · have : z.2 = n - 1 := by rw [← e2, e]; exact c
            rw [if_pos ⟨e2, .inl this⟩, if_pos ⟨e2, .inl this⟩]
          · rw [if_neg (fun u => e2 u.1), if_neg (fun u => e2 u.1)]
        · have a : (z.1 < x) = (z.1 < x + 1) := by
            apply propext
            omega
          simp only [a]
      · have ob := @oppF_b r.1 n x d (by omega)
        have on := @oppF_ne r.1 n x d (by omega)
        obtain ⟨j1, j2⟩ := SP_idx (st := r.1) (n := n) (d := d) (t := oppF r.1 n x d) (s := 0 - seatF r.1 n x d) (by omega) (by omega) (by omega) (seat_opp (by omega) (by omega) x0 x1 c)
        rw [j2]
        refine ⟨j1, ?_⟩
        generalize ho : oppF r.1 n x d = o at c ob on
        by_cases lt : x < o
        · rw [if_pos (decide_eq_true lt)]
          have inX : (x, o) ∈ P := (mem _).mpr ⟨x0, lt, by show o ≤ n - 1; omega⟩
          refine ⟨_, Dm_get inX, GX_len (by omega), hk2 _ ?_⟩
          rw [Dm_add hP.nd]
          refine Dm_cong fun z hz => ?_
          have hz' := (mem z).mp hz
          unfold GX
          by_cases e : z = (x, o)
          · rw [if_pos e, e]
            show (GM r.1 n d (x, o) ++ if oppF r.1 n x d = o ∧ (o = n - 1 ∨ x < x) then [d] else []) ++ [d] = GM r.1 n d (x, o) ++ if oppF r.1 n x d = o ∧ (o = n - 1 ∨ x < x + 1) then [d] else []
            rw [if_neg (by omega), if_pos (by omega), List.append_nil]
          · rw [if_neg e]
            congr 1
            by_cases e1 : z.1 = x
            · have : oppF r.1 n z.1 d ≠ z.2 := fun u => e (Prod.ext e1 (by rw [← u, e1, ho]))
              rw [if_neg (fun u => this u.1), if_neg (fun u => this u.1)]
            · have a : (z.1 < x) = (z.1 < x + 1) := by
                apply propext
                omega
              simp only [a]
        · rw [if_neg (by simpa using lt)]
          refine hk2 _ (Dm_cong fun z hz => ?_)
          have hz' := (mem z).mp hz
          unfold GX
          congr 1
          by_cases e1 : z.1 = x
          · have : oppF r.1 n z.1 d ≠ z.2 := fun u => by
              rw [e1, ho] at u
              omega
            rw [if_neg (fun u => this u.1), if_neg (fun u => this u.1)]
          · have a : (z.1 < x) = (z.1 < x + 1) := by
              apply propext
              omega
            simp only [a]
    · have hz' := (mem z).mp hz
      show (if z = (t, n - 1) then GM r.1 n d z ++ [d] else GM r.1 n d z) = GX r.1 n d 0 z
      unfold GX
      by_cases e : z = (t, n - 1)
      · rw [if_pos e, if_pos]
        rw [e]
        exact ⟨t0o, .inl rfl⟩
      · rw [if_neg e, if_neg, List.append_nil]
        rintro ⟨u, v | v⟩
        · have := @oppF_opp r.1 n z.1 d (by omega) (by omega) (by omega) (by omega)
          rw [u, v, ht] at this
          exact e (Prod.ext this.symm v)
        · omega
    · rw [hs]
      refine Dm_cong fun z hz => ?_
      have hz' := (mem z).mp hz
      rw [GM_next d0]
      unfold GX
      congr 1
      by_cases e : oppF r.1 n z.1 d = z.2
      · rw [if_pos e, if_pos ⟨e, .inr (by omega)⟩]
      · rw [if_neg e, if_neg fun u => e u.1]
  · rintro s rfl
    rw [Dm_cong fun z hz => GM_all s0 (by omega) (by omega) ((mem z).mp hz).1 ((mem z).mp hz).2.1 (by have := (mem z).mp hz; omega)]
    exact q P (fun z => by rw [mem, hm]) hl
theorem rF_len {st n a b : Int} (s0 : st ≠ 0) (s7 : st.natAbs ≤ 7) (h4 : 4 ≤ n) (ev : n % 2 = 0) : (roundsF st n a b).length ≤ 7 := by
  obtain ⟨h1, h2⟩ := roundsF_form (a := a) (b := b) s0 s7 h4 ev (g := ((Int.gcd st (n - 1) : Nat) : Int)) rfl
  by_cases c : ((Int.gcd st (n - 1) : Nat) : Int) ∣ numF n a b
  · obtain ⟨r0, _, _, e⟩ := h2 c
    rw [e, List.length_map, rangeI_len]
    have := Nat.le_of_dvd (by omega) (Int.natAbs_dvd_natAbs.mpr (Int.gcd_dvd_left (a := st) (b := n - 1)))
    omega
  · rw [h1 c]
    exact Nat.zero_le _
theorem rF_oks {st n a b : Int} (s0 : st ≠ 0) (s7 : st.natAbs ≤ 7) (h4 : 4 ≤ n) (hb : n ≤ 100) (ev : n % 2 = 0) : OkS (D.lst ((roundsF st n a b).map fun y_ : Int => (D.v (V.int y_)))) 2 20000 :=
  (oks_map (e := fun y_ : Int => D.v (V.int y_)) (xs := roundsF st n a b) (m := 7) (fun x hx => oks_int (int_small (by have := (roundsF_mem s0 h4).mp hx; omega) (by have := (roundsF_mem s0 h4).mp hx; omega))) (rF_len s0 s7 h4 ev)).mono (by decide) (by decide)
theorem lenAt_Dm {P : List (Int × Int)} {f : Int × Int → List Int} {z : Int × Int} (h : z ∈ P) : lenAt (Dm P f) (kfI z) = (f z).length := by
  unfold lenAt
  rw [Dm_get h]
  rfl
theorem all_one {st n : Int} (s0 : st ≠ 0) (s7 : st.natAbs ≤ 7) (h4 : 4 ≤ n) (ev : n % 2 = 0) {P : List (Int × Int)} (mem : ∀ z, z ∈ P ↔ 0 ≤ z.1 ∧ z.1 < z.2 ∧ z.2 ≤ n - 1) :
    List.all ((Dm P fun z => roundsF st n z.1 z.2).map fun q_ => decide (V.int (lenAt (Dm P fun z => roundsF st n z.1 z.2) q_.1 : Int) = V.int (1 : Int))) id = decide (gcdR st n = 1) := by
  by_cases c : gcdR st n = 1
  · rw [decide_eq_true c, List.all_eq_true]
    intro x hx
    obtain ⟨q, hq, rfl⟩ := List.mem_map.mp hx
    obtain ⟨z, hz, rfl⟩ := List.mem_map.mp hq
    obtain ⟨r0, _, _, e⟩ := (roundsF_form (a := z.1) (b := z.2) s0 s7 h4 ev (g := 1) c.symm).2 (Int.one_dvd _)
    have l : lenAt (Dm P fun z => roundsF st n z.1 z.2) (kfI z) = 1 := by
      rw [lenAt_Dm hz, e, List.length_map, rangeI_len]
      rfl
    show decide (V.int (lenAt (Dm P fun z => roundsF st n z.1 z.2) (kfI z) : Int) = V.int (1 : Int)) = true
    rw [l]
    rfl
  · rw [decide_eq_false c]
    have hz : ((0 : Int), n - 1) ∈ P := (mem _).mpr ⟨by show (0 : Int) ≤ 0; omega, by show (0 : Int) < n - 1; omega, by show n - 1 ≤ n - 1; omega⟩
    obtain ⟨r0, _, _, e⟩ := (roundsF_form (a := 0) (b := n - 1) s0 s7 h4 ev (g := gcdR st n) rfl).2 (by
      have : numF n 0 (n - 1) = 0 := by
        unfold numF
        rw [if_neg (by omega), if_pos rfl]
      rw [this]
      exact Int.dvd_zero _)
    have l : lenAt (Dm P fun z => roundsF st n z.1 z.2) (kfI (0, n - 1)) = (gcdR st n - 0).toNat := by
      rw [lenAt_Dm hz]
      show (roundsF st n 0 (n - 1)).length = _
      rw [e, List.length_map, rangeI_len]
    rw [Bool.eq_false_iff]
    intro h
    rw [List.all_eq_true] at h
    have := h _ (List.mem_map.mpr ⟨_, List.mem_map.mpr ⟨_, hz, rfl⟩, rfl⟩)
    have t : decide (V.int (lenAt (Dm P fun z => roundsF st n z.1 z.2) (kfI (0, n - 1)) : Int) = V.int (1 : Int)) = true := this
    rw [l, eqI'] at t
    omega
theorem pickT_ok {xs : List (Int × Int)} (h0 : 0 < xs.length) (h1 : xs.length < 1073741824) {k : Int × Int → Prop} (q : ∀ x ∈ xs, k x) : M_pick_pltii xs k := by
  unfold M_pick_pltii
  exact draw_ok (by omega) (by omega) fun d d0 d1 => ⟨d0, by omega, fun x hx => q x (by rw [hx]; exact List.getElem_mem _)⟩
theorem roundsG_ok {r : RT} {n one other : Int} (h : RV r) (hn : 2 * lst r.2.1 + 2 ≤ n) (e : n % 2 = 0) (big : n ≤ 100) (a0 : 0 ≤ one) (a1 : one < n) (b0 : 0 ≤ other) (b1 : other < n) (ab : one ≠ other) {k : List Int → Prop}
    (q : k (roundsF r.1 n one other)) : M_rounds_of r n one other k :=
  roundsof_ok h hn e (p899 (by have := @lst_ge r.2.1; omega) (by have : (1000 : Int) < 10 ^ 70 := by decide
                                                                 omega)) a0 a1 b0 b1 ab q
theorem right_true : M_right fun r => r = true := by
  unfold M_right
  refine model_ok fun r hr => mleast_ok hr.w (draw_ok (by decide) (by decide) fun a a0 a1 => pickS_ok (by decide) (by decide) fun s hs => draw_ok (by decide) (by decide) fun t _ _ => rule_ok hr ?_)
  have hy : RV (r.1, r.2.1, s, decide (V.int t = V.int (1 : Int))) := ⟨hr.s0, hr.s7, hr.w, hs⟩
  refine rule_ok hy ?_
  have l1 := @lst_ge r.2.1
  have l2 := lst_le hr.w
  generalize hp : lst r.2.1 + a = p
  refine meetings_ok hr (by omega) (by omega) fun P mem hl => ⟨by rw [List.length_map]; omega, fun b hb => ?_⟩
  have hn : 2 * lst r.2.1 + 2 ≤ 2 * p + 2 := by omega
  have n4 : 4 ≤ 2 * p + 2 := by omega
  have nb : 2 * p + 2 ≤ 100 := by omega
  have ev : (2 * p + 2) % 2 = 0 := by omega
  rw [show 2 * p + 1 = 2 * p + 2 - 1 by omega] at mem
  generalize 2 * p + 2 = n at hn n4 nb ev mem hb ⊢
  rw [all_one hr.s0 hr.s7 n4 ev mem] at hb
  have ok : ∀ a b, OkS (D.lst ((roundsF r.1 n a b).map fun y_ : Int => (D.v (V.int y_)))) 2 20000 := fun a b => rF_oks hr.s0 hr.s7 n4 nb ev
  have okp := fun a b => (ok a b).rp (by decide) (by decide)
  have oks := fun a b => (ok a b).sh (by decide)
  have hz : ((0 : Int), n - 1) ∈ P := (mem _).mpr ⟨by show (0 : Int) ≤ 0; omega, by show (0 : Int) < n - 1; omega, by show n - 1 ≤ n - 1; omega⟩
  have bp := (oks_bl b).rp (by decide) (by decide)
  have bl2 : ∀ bs : List Bool, bs.length ≤ 2 → _ := fun bs h => ((oks_map (e := fun y_ : Bool => D.v (V.bl y_)) (fun x (_ : x ∈ bs) => oks_bl x) h).rp (by decide) (by decide))
  have two : ∀ x : Int, 0 ≤ x → x < 2 → ∃ y : RT, ([r, (r.1, r.2.1, s, decide (V.int t = V.int (1 : Int)))] : List RT)[x.toNat]? = some y ∧ RV y ∧ y.1 = r.1 ∧ y.2.1 = r.2.1 := fun x x0 x1 => by
    have : x = 0 ∨ x = 1 := by omega
    rcases this with rfl | rfl
    · exact ⟨r, rfl, hr, rfl, rfl⟩
    · exact ⟨_, rfl, hy, rfl, rfl⟩
  refine forC_ok (fun _ => True) (fun x hx _ k1 _ hk1 => ?_) trivial fun _ _ => ?_
  · obtain ⟨x0, x1⟩ := rangeI_mem hx
    obtain ⟨y, y1, y2, y3, y4⟩ := two x x0 x1
    refine ⟨P, Dm_keys _ _, forC_ok (fun _ => True) (fun z hz' _ k2 _ hk2 => ?_) trivial fun _ _ => ?_⟩
    · have hm := (mem z).mp hz'
      refine ixL x0 y1 (roundsG_ok y2 (by rw [y4]; exact hn) ev nb (by omega) (by omega) (by omega) (by omega) (by omega) ?_)
      rw [y3]
      refine ⟨okp _ _, _, Dm_get hz', okp _ _, ?_⟩
      rw [if_neg (by simp)]
      refine ixL x0 y1 (roundsG_ok y2 (by rw [y4]; exact hn) ev nb (by omega) (by omega) (by omega) (by omega) (by omega) ?_)
      rw [y3, roundsF_swap hr.s0 n4 (by omega)]
      refine ⟨⟨(ok _ _).pl, (ok _ _).pl, oks _ _, oks _ _⟩, ?_⟩
      rw [eqv_ints _ [], if_neg (by simp)]
      exact ⟨by have := @rF_len r.1 n z.1 z.2 hr.s0 hr.s7 n4 ev; omega, hk2 _ trivial⟩
    · refine ⟨by show 2 < 100000; decide, mapC2 (isrightU_ok hr hn ev (isrightU_ok hy hn ev ?_))⟩
      show _ ∧ _
      rw [← hb]
      refine ⟨bl2 _ (Nat.le_refl 2), bl2 _ (Nat.le_refl 2), ?_⟩
      rw [if_neg (by simp)]
      refine ixL (by decide) (y := r) rfl (isrightU_ok hr hn ev ?_)
      rw [← hb]
      refine ⟨bp, bp, ?_⟩
      rw [if_neg (by simp)]
      exact hk1 _ trivial
  · refine ⟨P, Dm_keys _ _, pickT_ok (List.length_pos_of_mem hz) (by omega) fun z hz' => ?_⟩
    have hm := (mem z).mp hz'
    refine ixL (by decide) (y := r) rfl (roundsG_ok hr hn ev nb (by omega) (by omega) (by omega) (by omega) (by omega) ?_)
    refine ⟨_, Dm_get hz, ⟨(ok _ _).pl, (ok _ _).pl, oks _ _, oks _ _⟩, ?_⟩
    rw [if_neg (by rw [eqv_ints _ []]; simp)]
    refine ixL (by decide) (y := r) rfl (roundsG_ok hr hn ev nb (by omega) (by omega) (by omega) (by omega) (by omega) ?_)
    exact ⟨_, Dm_get hz', ⟨(ok _ _).pl, (ok _ _).pl, oks _ _, oks _ _⟩, eqv_ints _ []⟩

def sp_law (K : PySem.W.Frag) : Sp := fun vs H Q _ => ∃ (a : Addr) (ns : List Int), vs = [.ref a] ∧ SqL K H a (ns.map V.int) ∧ ns.length ≤ 63 ∧ ∀ H1 : Hp, Q (.bl true) H1
theorem law_enter {K : PySem.W.Frag} {H : Hp} {a : Addr} {ns : List Int} (hl : ns.length ≤ 63) (_ : Only H) (hS : SqL K H a (ns.map V.int)) : sp_law K [.ref a] H (fun v _ => v = .bl true) fun _ _ _ => False := ⟨a, ns, rfl, hS, hl, fun _ => rfl⟩
theorem sq_keep {K : PySem.W.Frag} {H H1 : Hp} {a : Addr} {xs : List V} (k : ∀ b o, H b = some o → H1 b = some o) (h : SqL K H a xs) : SqL K H1 a xs := by
  rcases h with (h | ⟨o, h⟩) | h
  · exact .inl (.inl (k _ _ h))
  · exact .inl (.inr ⟨o, k _ _ h⟩)
  · exact .inr h
theorem ok_law {P : Program} {w : World} {K : PySem.W.Frag} {mg : Str → Option Value} {base : Heap} {A : Ad} (T : Txt w K mg A) : FnG P w K mg base 9 A.a_law A.d_law ["_law_script"] (sp_law K) := by
  refine okG T.F_law sc_law (fun vs H Q E h => ?_) (fun cdv A_ outer s_ H_0 vs Q E gu hr h => ?_)
  · obtain ⟨a, ns, rfl, _⟩ := h
    rfl
  · obtain ⟨a, ns, rfl, hS, hl, hQ⟩ := h
    refine ⟨_, pss_one (ps_ret (pe_callB (cr_all rfl) (by rfl) T.z_all (by decide +kernel) (pa_cons (pe_lc (own := [("_law_k", 1)]) (g := gName 1) rfl sc_law.nd
      (pi_range1 (by rfl) T.z_range (pa_cons (pe_callB (call_max2 rfl) (by rfl) T.z_max (by decide +kernel) (pa_cons pe_int (pa_cons (pe_callB (call_min2 rfl) (by rfl) T.z_min (by decide +kernel) (pa_cons (pe_callB call_len (by rfl) T.z_len PySem.boot_len (pa_cons (pv 0) pa_nil)) (pa_cons pe_int pa_nil))) pa_nil))) pa_nil))
      (blkOk_by (N := ["_law_script", "_law_k"]) (sc := defScope s_law) (by decide +kernel)) (fun _ _ _ _ _ => pg_name (i := 1) sc_law.nd rfl (by first | exact Or.inl rfl | exact Or.inr rfl)) (fun _ _ _ _ _ => pts_nil)
      (fun _ _ _ _ _ => pe_callG (ok_right T) gu (hr.mono (by decide)) (by rfl) T.g_right T.F_right.kp T.b_right (pa_cons (pe_call (ok_pot T) (hr.mono (by decide)) (by rfl) T.g_pot T.F_pot.kp T.b_pot .nil pass0 (pa_cons (pv 0) (pa_cons (pv 1) pa_nil))) pa_nil))) pa_nil))), ?_⟩
    refine ⟨_, rfl, _, ns.length, rfl, .inl ⟨_, hS, by rw [List.length_map]⟩, _, _, rfl, _, _, rfl, _, rfl, ?_, ?_, fun L nl => ?_⟩
    · split <;> split <;> omega
    · split <;> split <;> omega
    have hsq : ∀ H : Hp, (∀ o, H_0 a = some o → H a = some o) → SqL K H a (ns.map V.int) := fun H k => by
      rcases hS with (h | ⟨o, h⟩) | h
      · exact .inl (.inl (k _ h))
      · exact .inl (.inr ⟨o, k _ h⟩)
      · exact .inr h
    refine lc_range (lo := 0) (fun i H => (∀ o, H_0 a = some o → H a = some o) ∧ ∃ n, n ≤ i ∧ H L = some (.lst (List.replicate n (.bl true)))) ⟨fun o h => (Rx.Ext.new nl).keep h, 0, Nat.le_refl _, upd_same⟩ (fun i H hi ⟨hS1, n, hn, hL⟩ => ?_) (fun H ⟨hS1, n, hn, hL⟩ => ?_)
    · refine ⟨rfl, ?_⟩
      refine tyes_of ?_
      have hi4 : i < 64 := by
        refine Nat.lt_of_lt_of_le hi ?_
        split <;> split <;> omega
      refine ⟨_, rfl, _, rfl, a, ns, 0 + (i : Int), rfl, hsq H hS1, hl, by omega, by omega, fun p H1 i1 j1 np e1 hp hj => ?_⟩
      refine ⟨[p], p, fun r => r = true, rfl, ⟨fun _ _ _ h => h, fun _ h => h, fun m hm => ?_, fun b hb => ?_, fun b hb => hb, fun c hc => absurd hc List.not_mem_nil⟩, right_true, fun r u H2 hr2 e2 hu => ?_⟩
      · rw [List.mem_singleton.mp hm, hp]
        exact fun z => nomatch z
      · rw [List.mem_singleton.mp hb]
        exact (⟨i1, j1, hp, hj⟩ : PotH _ _)
      · obtain rfl := of_v hu
        have e3 : ∀ b o, H b = some o → H2 b = some o := fun b o h => e2.kp b o (fun z => by
          rw [(List.mem_singleton.mp z : b = p), np] at h
          cases h) (e1.keep h)
        refine ⟨_, e3 _ _ hL, ?_, fun o h => ?_, n + 1, Nat.succ_le_succ hn, by rw [upd_same, hr2, List.replicate_succ']⟩
        · rw [List.length_replicate]
          exact Nat.lt_of_le_of_lt (show n ≤ 64 by omega) (by decide)
        · rw [upd_ne (ne_of_none h nl)]
          exact e3 _ _ (hS1 _ h)
    · refine ⟨L, List.replicate n true, rfl, .inl (.inl (by rw [List.map_replicate]; exact hL)), ?_⟩
      have : (List.replicate n true).all id = true := by
        rw [List.all_eq_true]
        intro x hx
        rw [(List.mem_replicate.mp hx).2]
        rfl
      rw [this]
      exact hQ _

theorem all_mk {l : PySem.W.OpenLaw} {w : World} {K : PySem.W.Frag} {h : Heap} {mg : Str → Option Value} {fa Aspots Adraw Apick Asigns Amodel Aleast Ais_marks Acheck_part AWord_init Ais_integer ARule_init Arule Ameetings AWord_least ARule_least_size Ais_size Acheck_size Ais_count Acheck_team Acheck_pair ARule_step Arounds_at Arounds_of Ais_rightP Ais_right Aright Apot Alaw CWord CRule : Addr} (X : K.In h) (G : h.Ns mainGlobals mg) (hfa : mg "law" = some (.ref fa))
    {odspots anspots : Option Addr} {slspots : Array (Option Value)} {ocspots kVspots dcspots pmspots cdspots ctspots : Value}
    {oddraw andraw : Option Addr} {sldraw : Array (Option Value)} {ocdraw kVdraw dcdraw pmdraw cddraw ctdraw : Value}
    {odpick anpick : Option Addr} {slpick : Array (Option Value)} {ocpick kVpick dcpick pmpick cdpick ctpick : Value}
    {odsigns ansigns : Option Addr} {slsigns : Array (Option Value)} {ocsigns kVsigns dcsigns pmsigns cdsigns ctsigns : Value}
    {odmodel anmodel : Option Addr} {slmodel : Array (Option Value)} {ocmodel kVmodel dcmodel pmmodel cdmodel ctmodel : Value}
    {odleast anleast : Option Addr} {slleast : Array (Option Value)} {ocleast kVleast dcleast pmleast cdleast ctleast : Value}
    {odis_marks anis_marks : Option Addr} {slis_marks : Array (Option Value)} {ocis_marks kVis_marks dcis_marks pmis_marks cdis_marks ctis_marks : Value}
    {odcheck_part ancheck_part : Option Addr} {slcheck_part : Array (Option Value)} {occheck_part kVcheck_part dccheck_part pmcheck_part cdcheck_part ctcheck_part : Value}
    {odWord_init anWord_init : Option Addr} {slWord_init : Array (Option Value)} {ocWord_init kVWord_init dcWord_init pmWord_init cdWord_init ctWord_init : Value}
    {odis_integer anis_integer : Option Addr} {slis_integer : Array (Option Value)} {ocis_integer kVis_integer dcis_integer pmis_integer cdis_integer ctis_integer : Value}
    {odRule_init anRule_init : Option Addr} {slRule_init : Array (Option Value)} {ocRule_init kVRule_init dcRule_init pmRule_init cdRule_init ctRule_init : Value}
    {TRule_init : Addr} {toRule_init : Option Addr} {tiRule_init : Nat} {tsRule_init : Array (Option Value)} 
    {odrule anrule : Option Addr} {slrule : Array (Option Value)} {ocrule kVrule dcrule pmrule cdrule ctrule : Value}
    {odmeetings anmeetings : Option Addr} {slmeetings : Array (Option Value)} {ocmeetings kVmeetings dcmeetings pmmeetings cdmeetings ctmeetings : Value}
    {PWord_least : Addr}
    {RWord_least : List Value}
    {odWord_least anWord_least : Option Addr} {slWord_least : Array (Option Value)} {ocWord_least kVWord_least dcWord_least pmWord_least cdWord_least ctWord_least : Value}
    {PRule_least_size : Addr}
    {RRule_least_size : List Value}
    {odRule_least_size anRule_least_size : Option Addr} {slRule_least_size : Array (Option Value)} {ocRule_least_size kVRule_least_size dcRule_least_size pmRule_least_size cdRule_least_size ctRule_least_size : Value}
    {odis_size anis_size : Option Addr} {slis_size : Array (Option Value)} {ocis_size kVis_size dcis_size pmis_size cdis_size ctis_size : Value}
    {odcheck_size ancheck_size : Option Addr} {slcheck_size : Array (Option Value)} {occheck_size kVcheck_size dccheck_size pmcheck_size cdcheck_size ctcheck_size : Value}
    {odis_count anis_count : Option Addr} {slis_count : Array (Option Value)} {ocis_count kVis_count dcis_count pmis_count cdis_count ctis_count : Value}
    {odcheck_team ancheck_team : Option Addr} {slcheck_team : Array (Option Value)} {occheck_team kVcheck_team dccheck_team pmcheck_team cdcheck_team ctcheck_team : Value}
    {odcheck_pair ancheck_pair : Option Addr} {slcheck_pair : Array (Option Value)} {occheck_pair kVcheck_pair dccheck_pair pmcheck_pair cdcheck_pair ctcheck_pair : Value}
    {PRule_step : Addr}
    {RRule_step : List Value}
    {odRule_step anRule_step : Option Addr} {slRule_step : Array (Option Value)} {ocRule_step kVRule_step dcRule_step pmRule_step cdRule_step ctRule_step : Value}
    {odrounds_at anrounds_at : Option Addr} {slrounds_at : Array (Option Value)} {ocrounds_at kVrounds_at dcrounds_at pmrounds_at cdrounds_at ctrounds_at : Value}
    {odrounds_of anrounds_of : Option Addr} {slrounds_of : Array (Option Value)} {ocrounds_of kVrounds_of dcrounds_of pmrounds_of cdrounds_of ctrounds_of : Value}
    {odis_rightP anis_rightP : Option Addr} {slis_rightP : Array (Option Value)} {ocis_rightP kVis_rightP dcis_rightP pmis_rightP cdis_rightP ctis_rightP : Value}
    {odis_right anis_right : Option Addr} {slis_right : Array (Option Value)} {ocis_right kVis_right dcis_right pmis_right cdis_right ctis_right : Value}
    {odright anright : Option Addr} {slright : Array (Option Value)} {ocright kVright dcright pmright cdright ctright : Value}
    {odpot anpot : Option Addr} {slpot : Array (Option Value)} {ocpot kVpot dcpot pmpot cdpot ctpot : Value}
    {odlaw anlaw : Option Addr} {sllaw : Array (Option Value)} {oclaw kVlaw dclaw pmlaw cdlaw ctlaw : Value}
    {DCONTRARY_STANDERS : Addr} {esCONTRARY_STANDERS : Array DictEntry} {enCONTRARY_STANDERS : Nat}
    {tCONTRARY_STANDERS3 : Tok}
    {tCONTRARY_STANDERS2 : Tok}
    {tCONTRARY_STANDERS1 : Tok}
    {tCONTRARY_STANDERS0 : Tok}
    {tMOST_MARKS : Tok}
    {tMOST_STEP : Tok}
    (a_spots : PySem.W.nsIn K mainGlobals "_law_spots" = some (some (.ref Aspots)))
    (l_spots : K.lookup Aspots = some ⟨ocspots, odspots, .func (PySem.W.fnOf "_law_spots" "_law_spots" (defArgs s_spots) (defBody s_spots) (defScope s_spots) .none kVspots dcspots pmspots anspots cdspots ctspots), slspots⟩)
    (o_spots : PySem.W.codeIn K cdspots "_law_spots" = true)
    (k_spots : PySem.W.keepIn K (.ref Aspots) = true)
    (a_draw : PySem.W.nsIn K mainGlobals "_law_draw" = some (some (.ref Adraw)))
    (l_draw : K.lookup Adraw = some ⟨ocdraw, oddraw, .func (PySem.W.fnOf "_law_draw" "_law_draw" (defArgs s_draw) (defBody s_draw) (defScope s_draw) .none kVdraw dcdraw pmdraw andraw cddraw ctdraw), sldraw⟩)
    (o_draw : PySem.W.codeIn K cddraw "_law_draw" = true)
    (k_draw : PySem.W.keepIn K (.ref Adraw) = true)
    (a_pick : PySem.W.nsIn K mainGlobals "_law_pick" = some (some (.ref Apick)))
    (l_pick : K.lookup Apick = some ⟨ocpick, odpick, .func (PySem.W.fnOf "_law_pick" "_law_pick" (defArgs s_pick) (defBody s_pick) (defScope s_pick) .none kVpick dcpick pmpick anpick cdpick ctpick), slpick⟩)
    (o_pick : PySem.W.codeIn K cdpick "_law_pick" = true)
    (k_pick : PySem.W.keepIn K (.ref Apick) = true)
    (a_signs : PySem.W.nsIn K mainGlobals "_law_signs" = some (some (.ref Asigns)))
    (l_signs : K.lookup Asigns = some ⟨ocsigns, odsigns, .func (PySem.W.fnOf "_law_signs" "_law_signs" (defArgs s_signs) (defBody s_signs) (defScope s_signs) .none kVsigns dcsigns pmsigns ansigns cdsigns ctsigns), slsigns⟩)
    (o_signs : PySem.W.codeIn K cdsigns "_law_signs" = true)
    (k_signs : PySem.W.keepIn K (.ref Asigns) = true)
    (a_model : PySem.W.nsIn K mainGlobals "_law_model" = some (some (.ref Amodel)))
    (l_model : K.lookup Amodel = some ⟨ocmodel, odmodel, .func (PySem.W.fnOf "_law_model" "_law_model" (defArgs s_model) (defBody s_model) (defScope s_model) .none kVmodel dcmodel pmmodel anmodel cdmodel ctmodel), slmodel⟩)
    (o_model : PySem.W.codeIn K cdmodel "_law_model" = true)
    (k_model : PySem.W.keepIn K (.ref Amodel) = true)
    (a_least : PySem.W.nsIn K mainGlobals "_law_least" = some (some (.ref Aleast)))
    (l_least : K.lookup Aleast = some ⟨ocleast, odleast, .func (PySem.W.fnOf "_law_least" "_law_least" (defArgs s_least) (defBody s_least) (defScope s_least) .none kVleast dcleast pmleast anleast cdleast ctleast), slleast⟩)
    (o_least : PySem.W.codeIn K cdleast "_law_least" = true)
    (k_least : PySem.W.keepIn K (.ref Aleast) = true)
    (a_is_marks : PySem.W.nsIn K mainGlobals "is_marks" = some (some (.ref Ais_marks)))
    (l_is_marks : K.lookup Ais_marks = some ⟨ocis_marks, odis_marks, .func (PySem.W.fnOf "is_marks" "is_marks" (defArgs s_is_marks) (defBody s_is_marks) (defScope s_is_marks) .none kVis_marks dcis_marks pmis_marks anis_marks cdis_marks ctis_marks), slis_marks⟩)
    (o_is_marks : PySem.W.codeIn K cdis_marks "is_marks" = true)
    (k_is_marks : PySem.W.keepIn K (.ref Ais_marks) = true)
    (a_check_part : PySem.W.nsIn K mainGlobals "_check_part" = some (some (.ref Acheck_part)))
    (l_check_part : K.lookup Acheck_part = some ⟨occheck_part, odcheck_part, .func (PySem.W.fnOf "_check_part" "_check_part" (defArgs s_check_part) (defBody s_check_part) (defScope s_check_part) .none kVcheck_part dccheck_part pmcheck_part ancheck_part cdcheck_part ctcheck_part), slcheck_part⟩)
    (o_check_part : PySem.W.codeIn K cdcheck_part "_check_part" = true)
    (k_check_part : PySem.W.keepIn K (.ref Acheck_part) = true)
    (a_Word_init : PySem.W.findIn K (.ref CWord) "__init__" = some (some (.ref AWord_init)))
    (i_Word_init : PySem.W.isFn K (.ref AWord_init) = true)
    (l_Word_init : K.lookup AWord_init = some ⟨ocWord_init, odWord_init, .func (PySem.W.fnOf "__init__" "Word.__init__" (defArgs s_Word_init) (defBody s_Word_init) (defScope s_Word_init) .none kVWord_init dcWord_init pmWord_init anWord_init cdWord_init ctWord_init), slWord_init⟩)
    (o_Word_init : PySem.W.codeIn K cdWord_init "Word.__init__" = true)
    (k_Word_init : PySem.W.keepIn K (.ref AWord_init) = true)
    (a_is_integer : PySem.W.nsIn K mainGlobals "is_integer" = some (some (.ref Ais_integer)))
    (l_is_integer : K.lookup Ais_integer = some ⟨ocis_integer, odis_integer, .func (PySem.W.fnOf "is_integer" "is_integer" (defArgs s_is_integer) (defBody s_is_integer) (defScope s_is_integer) .none kVis_integer dcis_integer pmis_integer anis_integer cdis_integer ctis_integer), slis_integer⟩)
    (o_is_integer : PySem.W.codeIn K cdis_integer "is_integer" = true)
    (k_is_integer : PySem.W.keepIn K (.ref Ais_integer) = true)
    (a_Rule_init : PySem.W.findIn K (.ref CRule) "__init__" = some (some (.ref ARule_init)))
    (i_Rule_init : PySem.W.isFn K (.ref ARule_init) = true)
    (t_Rule_init : K.lookup TRule_init = some ⟨.type "tuple", toRule_init, .seq #[.bool false] tiRule_init, tsRule_init⟩)
    (l_Rule_init : K.lookup ARule_init = some ⟨ocRule_init, odRule_init, .func (PySem.W.fnOf "__init__" "Rule.__init__" (defArgs s_Rule_init) (defBody s_Rule_init) (defScope s_Rule_init) (.ref TRule_init) kVRule_init dcRule_init pmRule_init anRule_init cdRule_init ctRule_init), slRule_init⟩)
    (o_Rule_init : PySem.W.codeIn K cdRule_init "Rule.__init__" = true)
    (k_Rule_init : PySem.W.keepIn K (.ref ARule_init) = true)
    (a_rule : PySem.W.nsIn K mainGlobals "_law_rule" = some (some (.ref Arule)))
    (l_rule : K.lookup Arule = some ⟨ocrule, odrule, .func (PySem.W.fnOf "_law_rule" "_law_rule" (defArgs s_rule) (defBody s_rule) (defScope s_rule) .none kVrule dcrule pmrule anrule cdrule ctrule), slrule⟩)
    (o_rule : PySem.W.codeIn K cdrule "_law_rule" = true)
    (k_rule : PySem.W.keepIn K (.ref Arule) = true)
    (a_meetings : PySem.W.nsIn K mainGlobals "_law_meetings" = some (some (.ref Ameetings)))
    (l_meetings : K.lookup Ameetings = some ⟨ocmeetings, odmeetings, .func (PySem.W.fnOf "_law_meetings" "_law_meetings" (defArgs s_meetings) (defBody s_meetings) (defScope s_meetings) .none kVmeetings dcmeetings pmmeetings anmeetings cdmeetings ctmeetings), slmeetings⟩)
    (o_meetings : PySem.W.codeIn K cdmeetings "_law_meetings" = true)
    (k_meetings : PySem.W.keepIn K (.ref Ameetings) = true)
    (pa_Word_least : PySem.W.findIn K (.ref CWord) "least" = some (some (.ref PWord_least)))
    (pg_Word_least : PySem.W.specialIn K (.ref PWord_least) "__get__" = some (some (.builtin "property.__get__")))
    (pt_Word_least : PySem.W.takesIn K (.ref PWord_least) = some true)
    (pr_Word_least : PySem.W.recIn K PWord_least "property" = some (.ref AWord_least :: RWord_least))
    (l_Word_least : K.lookup AWord_least = some ⟨ocWord_least, odWord_least, .func (PySem.W.fnOf "least" "Word.least" (defArgs s_Word_least) (defBody s_Word_least) (defScope s_Word_least) .none kVWord_least dcWord_least pmWord_least anWord_least cdWord_least ctWord_least), slWord_least⟩)
    (o_Word_least : PySem.W.codeIn K cdWord_least "Word.least" = true)
    (k_Word_least : PySem.W.keepIn K (.ref AWord_least) = true)
    (pa_Rule_least_size : PySem.W.findIn K (.ref CRule) "least_size" = some (some (.ref PRule_least_size)))
    (pg_Rule_least_size : PySem.W.specialIn K (.ref PRule_least_size) "__get__" = some (some (.builtin "property.__get__")))
    (pt_Rule_least_size : PySem.W.takesIn K (.ref PRule_least_size) = some true)
    (pr_Rule_least_size : PySem.W.recIn K PRule_least_size "property" = some (.ref ARule_least_size :: RRule_least_size))
    (l_Rule_least_size : K.lookup ARule_least_size = some ⟨ocRule_least_size, odRule_least_size, .func (PySem.W.fnOf "least_size" "Rule.least_size" (defArgs s_Rule_least_size) (defBody s_Rule_least_size) (defScope s_Rule_least_size) .none kVRule_least_size dcRule_least_size pmRule_least_size anRule_least_size cdRule_least_size ctRule_least_size), slRule_least_size⟩)
    (o_Rule_least_size : PySem.W.codeIn K cdRule_least_size "Rule.least_size" = true)
    (k_Rule_least_size : PySem.W.keepIn K (.ref ARule_least_size) = true)
    (a_is_size : PySem.W.nsIn K mainGlobals "is_size" = some (some (.ref Ais_size)))
    (l_is_size : K.lookup Ais_size = some ⟨ocis_size, odis_size, .func (PySem.W.fnOf "is_size" "is_size" (defArgs s_is_size) (defBody s_is_size) (defScope s_is_size) .none kVis_size dcis_size pmis_size anis_size cdis_size ctis_size), slis_size⟩)
    (o_is_size : PySem.W.codeIn K cdis_size "is_size" = true)
    (k_is_size : PySem.W.keepIn K (.ref Ais_size) = true)
    (a_check_size : PySem.W.nsIn K mainGlobals "check_size" = some (some (.ref Acheck_size)))
    (l_check_size : K.lookup Acheck_size = some ⟨occheck_size, odcheck_size, .func (PySem.W.fnOf "check_size" "check_size" (defArgs s_check_size) (defBody s_check_size) (defScope s_check_size) .none kVcheck_size dccheck_size pmcheck_size ancheck_size cdcheck_size ctcheck_size), slcheck_size⟩)
    (o_check_size : PySem.W.codeIn K cdcheck_size "check_size" = true)
    (k_check_size : PySem.W.keepIn K (.ref Acheck_size) = true)
    (a_is_count : PySem.W.nsIn K mainGlobals "is_count" = some (some (.ref Ais_count)))
    (l_is_count : K.lookup Ais_count = some ⟨ocis_count, odis_count, .func (PySem.W.fnOf "is_count" "is_count" (defArgs s_is_count) (defBody s_is_count) (defScope s_is_count) .none kVis_count dcis_count pmis_count anis_count cdis_count ctis_count), slis_count⟩)
    (o_is_count : PySem.W.codeIn K cdis_count "is_count" = true)
    (k_is_count : PySem.W.keepIn K (.ref Ais_count) = true)
    (a_check_team : PySem.W.nsIn K mainGlobals "check_team" = some (some (.ref Acheck_team)))
    (l_check_team : K.lookup Acheck_team = some ⟨occheck_team, odcheck_team, .func (PySem.W.fnOf "check_team" "check_team" (defArgs s_check_team) (defBody s_check_team) (defScope s_check_team) .none kVcheck_team dccheck_team pmcheck_team ancheck_team cdcheck_team ctcheck_team), slcheck_team⟩)
    (o_check_team : PySem.W.codeIn K cdcheck_team "check_team" = true)
    (k_check_team : PySem.W.keepIn K (.ref Acheck_team) = true)
    (a_check_pair : PySem.W.nsIn K mainGlobals "check_pair" = some (some (.ref Acheck_pair)))
    (l_check_pair : K.lookup Acheck_pair = some ⟨occheck_pair, odcheck_pair, .func (PySem.W.fnOf "check_pair" "check_pair" (defArgs s_check_pair) (defBody s_check_pair) (defScope s_check_pair) .none kVcheck_pair dccheck_pair pmcheck_pair ancheck_pair cdcheck_pair ctcheck_pair), slcheck_pair⟩)
    (o_check_pair : PySem.W.codeIn K cdcheck_pair "check_pair" = true)
    (k_check_pair : PySem.W.keepIn K (.ref Acheck_pair) = true)
    (pa_Rule_step : PySem.W.findIn K (.ref CRule) "step" = some (some (.ref PRule_step)))
    (pg_Rule_step : PySem.W.specialIn K (.ref PRule_step) "__get__" = some (some (.builtin "property.__get__")))
    (pt_Rule_step : PySem.W.takesIn K (.ref PRule_step) = some true)
    (pr_Rule_step : PySem.W.recIn K PRule_step "property" = some (.ref ARule_step :: RRule_step))
    (l_Rule_step : K.lookup ARule_step = some ⟨ocRule_step, odRule_step, .func (PySem.W.fnOf "step" "Rule.step" (defArgs s_Rule_step) (defBody s_Rule_step) (defScope s_Rule_step) .none kVRule_step dcRule_step pmRule_step anRule_step cdRule_step ctRule_step), slRule_step⟩)
    (o_Rule_step : PySem.W.codeIn K cdRule_step "Rule.step" = true)
    (k_Rule_step : PySem.W.keepIn K (.ref ARule_step) = true)
    (a_rounds_at : PySem.W.nsIn K mainGlobals "_rounds_at" = some (some (.ref Arounds_at)))
    (l_rounds_at : K.lookup Arounds_at = some ⟨ocrounds_at, odrounds_at, .func (PySem.W.fnOf "_rounds_at" "_rounds_at" (defArgs s_rounds_at) (defBody s_rounds_at) (defScope s_rounds_at) .none kVrounds_at dcrounds_at pmrounds_at anrounds_at cdrounds_at ctrounds_at), slrounds_at⟩)
    (o_rounds_at : PySem.W.codeIn K cdrounds_at "_rounds_at" = true)
    (k_rounds_at : PySem.W.keepIn K (.ref Arounds_at) = true)
    (a_rounds_of : PySem.W.nsIn K mainGlobals "rounds_of" = some (some (.ref Arounds_of)))
    (l_rounds_of : K.lookup Arounds_of = some ⟨ocrounds_of, odrounds_of, .func (PySem.W.fnOf "rounds_of" "rounds_of" (defArgs s_rounds_of) (defBody s_rounds_of) (defScope s_rounds_of) .none kVrounds_of dcrounds_of pmrounds_of anrounds_of cdrounds_of ctrounds_of), slrounds_of⟩)
    (o_rounds_of : PySem.W.codeIn K cdrounds_of "rounds_of" = true)
    (k_rounds_of : PySem.W.keepIn K (.ref Arounds_of) = true)
    (a_is_rightP : PySem.W.nsIn K mainGlobals "_is_right" = some (some (.ref Ais_rightP)))
    (l_is_rightP : K.lookup Ais_rightP = some ⟨ocis_rightP, odis_rightP, .func (PySem.W.fnOf "_is_right" "_is_right" (defArgs s_is_rightP) (defBody s_is_rightP) (defScope s_is_rightP) .none kVis_rightP dcis_rightP pmis_rightP anis_rightP cdis_rightP ctis_rightP), slis_rightP⟩)
    (o_is_rightP : PySem.W.codeIn K cdis_rightP "_is_right" = true)
    (k_is_rightP : PySem.W.keepIn K (.ref Ais_rightP) = true)
    (a_is_right : PySem.W.nsIn K mainGlobals "is_right" = some (some (.ref Ais_right)))
    (l_is_right : K.lookup Ais_right = some ⟨ocis_right, odis_right, .func (PySem.W.fnOf "is_right" "is_right" (defArgs s_is_right) (defBody s_is_right) (defScope s_is_right) .none kVis_right dcis_right pmis_right anis_right cdis_right ctis_right), slis_right⟩)
    (o_is_right : PySem.W.codeIn K cdis_right "is_right" = true)
    (k_is_right : PySem.W.keepIn K (.ref Ais_right) = true)
    (a_right : PySem.W.nsIn K mainGlobals "_law_right" = some (some (.ref Aright)))
    (l_right : K.lookup Aright = some ⟨ocright, odright, .func (PySem.W.fnOf "_law_right" "_law_right" (defArgs s_right) (defBody s_right) (defScope s_right) .none kVright dcright pmright anright cdright ctright), slright⟩)
    (o_right : PySem.W.codeIn K cdright "_law_right" = true)
    (k_right : PySem.W.keepIn K (.ref Aright) = true)
    (a_pot : PySem.W.nsIn K mainGlobals "_law_pot" = some (some (.ref Apot)))
    (l_pot : K.lookup Apot = some ⟨ocpot, odpot, .func (PySem.W.fnOf "_law_pot" "_law_pot" (defArgs s_pot) (defBody s_pot) (defScope s_pot) .none kVpot dcpot pmpot anpot cdpot ctpot), slpot⟩)
    (o_pot : PySem.W.codeIn K cdpot "_law_pot" = true)
    (k_pot : PySem.W.keepIn K (.ref Apot) = true)
    (a_law : PySem.W.nsIn K mainGlobals "law" = some (some (.ref Alaw)))
    (l_law : K.lookup Alaw = some ⟨oclaw, odlaw, .func (PySem.W.fnOf "law" "law" (defArgs s_law) (defBody s_law) (defScope s_law) .none kVlaw dclaw pmlaw anlaw cdlaw ctlaw), sllaw⟩)
    (o_law : PySem.W.codeIn K cdlaw "law" = true)
    (k_law : PySem.W.keepIn K (.ref Alaw) = true)
    (aC_Word : PySem.W.nsIn K mainGlobals "Word" = some (some (.ref CWord)))
    (pg_Word : PySem.W.plainGet K CWord Str.empty = true)
    (hd_Word : PySem.W.hasDictIn K CWord = true)
    (po_Word : PySem.W.plainOver K CWord = true)
    (sa_Word : PySem.W.findIn K (.ref CWord) "__setattr__" = some (some (.builtin "object.__setattr__")))
    (mk_Word : PySem.W.makesIn K CWord = true)
    (kc_Word : PySem.W.keepIn K (.ref CWord) = true)
    (na_Word__head : PySem.W.findIn K (.ref CWord) "_head" = some none)
    (na_Word__middle : PySem.W.findIn K (.ref CWord) "_middle" = some none)
    (na_Word__tail : PySem.W.findIn K (.ref CWord) "_tail" = some none)
    (aC_Rule : PySem.W.nsIn K mainGlobals "Rule" = some (some (.ref CRule)))
    (pg_Rule : PySem.W.plainGet K CRule Str.empty = true)
    (hd_Rule : PySem.W.hasDictIn K CRule = true)
    (po_Rule : PySem.W.plainOver K CRule = true)
    (sa_Rule : PySem.W.findIn K (.ref CRule) "__setattr__" = some (some (.builtin "object.__setattr__")))
    (mk_Rule : PySem.W.makesIn K CRule = true)
    (kc_Rule : PySem.W.keepIn K (.ref CRule) = true)
    (na_Rule__step : PySem.W.findIn K (.ref CRule) "_step" = some none)
    (na_Rule__word : PySem.W.findIn K (.ref CRule) "_word" = some none)
    (na_Rule__stander : PySem.W.findIn K (.ref CRule) "_stander" = some none)
    (na_Rule__turned : PySem.W.findIn K (.ref CRule) "_turned" = some none)
    (gd_CONTRARY_STANDERS : PySem.W.nsIn K mainGlobals "CONTRARY_STANDERS" = some (some (.ref DCONTRARY_STANDERS)))
    (ld_CONTRARY_STANDERS : K.lookup DCONTRARY_STANDERS = some ⟨.type "dict", none, .dict esCONTRARY_STANDERS enCONTRARY_STANDERS, #[]⟩)
    (lk_CONTRARY_STANDERS : PySem.W.KeysLit w.params esCONTRARY_STANDERS.toList)
    (lv_CONTRARY_STANDERS_3 : PySem.W.nsIn K DCONTRARY_STANDERS "odd" = some (some (.str "even" tCONTRARY_STANDERS3)))
    (lv_CONTRARY_STANDERS_2 : PySem.W.nsIn K DCONTRARY_STANDERS "even" = some (some (.str "odd" tCONTRARY_STANDERS2)))
    (lv_CONTRARY_STANDERS_1 : PySem.W.nsIn K DCONTRARY_STANDERS "away" = some (some (.str "home" tCONTRARY_STANDERS1)))
    (lv_CONTRARY_STANDERS_0 : PySem.W.nsIn K DCONTRARY_STANDERS "home" = some (some (.str "away" tCONTRARY_STANDERS0)))
    (lo_CONTRARY_STANDERS : (DCONTRARY_STANDERS == sysModules) = false)
    (z_abs : PySem.W.nsIn K mainGlobals "abs" = some none)
    (z_all : PySem.W.nsIn K mainGlobals "all" = some none)
    (z_any : PySem.W.nsIn K mainGlobals "any" = some none)
    (z_bool : PySem.W.nsIn K mainGlobals "bool" = some none)
    (z_dict : PySem.W.nsIn K mainGlobals "dict" = some none)
    (z_divmod : PySem.W.nsIn K mainGlobals "divmod" = some none)
    (z_enumerate : PySem.W.nsIn K mainGlobals "enumerate" = some none)
    (z_int : PySem.W.nsIn K mainGlobals "int" = some none)
    (z_isinstance : PySem.W.nsIn K mainGlobals "isinstance" = some none)
    (z_len : PySem.W.nsIn K mainGlobals "len" = some none)
    (z_list : PySem.W.nsIn K mainGlobals "list" = some none)
    (z_max : PySem.W.nsIn K mainGlobals "max" = some none)
    (z_min : PySem.W.nsIn K mainGlobals "min" = some none)
    (z_range : PySem.W.nsIn K mainGlobals "range" = some none)
    (z_repr : PySem.W.nsIn K mainGlobals "repr" = some none)
    (z_set : PySem.W.nsIn K mainGlobals "set" = some none)
    (z_sorted : PySem.W.nsIn K mainGlobals "sorted" = some none)
    (z_str : PySem.W.nsIn K mainGlobals "str" = some none)
    (z_sum : PySem.W.nsIn K mainGlobals "sum" = some none)
    (z_tuple : PySem.W.nsIn K mainGlobals "tuple" = some none)
    (z_zip : PySem.W.nsIn K mainGlobals "zip" = some none)
    (i_gcd : PySem.W.nsIn K mainGlobals "gcd" = some (some (.builtin "math.gcd")))
    (c_MOST_MARKS : PySem.W.nsIn K mainGlobals "MOST_MARKS" = some (some (.int 4 tMOST_MARKS)))
    (c_MOST_STEP : PySem.W.nsIn K mainGlobals "MOST_STEP" = some (some (.int 7 tMOST_STEP))) :
    ∃ fd : FuncData, (∀ (s : Shared) (v : Value), BindsTo s fd ⟨[v], []⟩ [("_law_script", v)]) ∧ ∀ base : Heap, K.In base → base.Ns mainGlobals mg → FnG l.prog w K mg base 9 fa fd ["_law_script"] (sp_law K) := by
  have e := hfa.symm.trans (PySem.W.mg_of X G a_law)
  cases e
  have T : Txt w K mg ⟨Aspots, (PySem.W.fnOf "_law_spots" "_law_spots" (defArgs s_spots) (defBody s_spots) (defScope s_spots) .none kVspots dcspots pmspots anspots cdspots ctspots), Adraw, (PySem.W.fnOf "_law_draw" "_law_draw" (defArgs s_draw) (defBody s_draw) (defScope s_draw) .none kVdraw dcdraw pmdraw andraw cddraw ctdraw), Apick, (PySem.W.fnOf "_law_pick" "_law_pick" (defArgs s_pick) (defBody s_pick) (defScope s_pick) .none kVpick dcpick pmpick anpick cdpick ctpick), Asigns, (PySem.W.fnOf "_law_signs" "_law_signs" (defArgs s_signs) (defBody s_signs) (defScope s_signs) .none kVsigns dcsigns pmsigns ansigns cdsigns ctsigns), Amodel, (PySem.W.fnOf "_law_model" "_law_model" (defArgs s_model) (defBody s_model) (defScope s_model) .none kVmodel dcmodel pmmodel anmodel cdmodel ctmodel), Aleast, (PySem.W.fnOf "_law_least" "_law_least" (defArgs s_least) (defBody s_least) (defScope s_least) .none kVleast dcleast pmleast anleast cdleast ctleast), Ais_marks, (PySem.W.fnOf "is_marks" "is_marks" (defArgs s_is_marks) (defBody s_is_marks) (defScope s_is_marks) .none kVis_marks dcis_marks pmis_marks anis_marks cdis_marks ctis_marks), Acheck_part, (PySem.W.fnOf "_check_part" "_check_part" (defArgs s_check_part) (defBody s_check_part) (defScope s_check_part) .none kVcheck_part dccheck_part pmcheck_part ancheck_part cdcheck_part ctcheck_part), AWord_init, (PySem.W.fnOf "__init__" "Word.__init__" (defArgs s_Word_init) (defBody s_Word_init) (defScope s_Word_init) .none kVWord_init dcWord_init pmWord_init anWord_init cdWord_init ctWord_init), Ais_integer, (PySem.W.fnOf "is_integer" "is_integer" (defArgs s_is_integer) (defBody s_is_integer) (defScope s_is_integer) .none kVis_integer dcis_integer pmis_integer anis_integer cdis_integer ctis_integer), ARule_init, (PySem.W.fnOf "__init__" "Rule.__init__" (defArgs s_Rule_init) (defBody s_Rule_init) (defScope s_Rule_init) (.ref TRule_init) kVRule_init dcRule_init pmRule_init anRule_init cdRule_init ctRule_init), Arule, (PySem.W.fnOf "_law_rule" "_law_rule" (defArgs s_rule) (defBody s_rule) (defScope s_rule) .none kVrule dcrule pmrule anrule cdrule ctrule), Ameetings, (PySem.W.fnOf "_law_meetings" "_law_meetings" (defArgs s_meetings) (defBody s_meetings) (defScope s_meetings) .none kVmeetings dcmeetings pmmeetings anmeetings cdmeetings ctmeetings), AWord_least, (PySem.W.fnOf "least" "Word.least" (defArgs s_Word_least) (defBody s_Word_least) (defScope s_Word_least) .none kVWord_least dcWord_least pmWord_least anWord_least cdWord_least ctWord_least), ARule_least_size, (PySem.W.fnOf "least_size" "Rule.least_size" (defArgs s_Rule_least_size) (defBody s_Rule_least_size) (defScope s_Rule_least_size) .none kVRule_least_size dcRule_least_size pmRule_least_size anRule_least_size cdRule_least_size ctRule_least_size), Ais_size, (PySem.W.fnOf "is_size" "is_size" (defArgs s_is_size) (defBody s_is_size) (defScope s_is_size) .none kVis_size dcis_size pmis_size anis_size cdis_size ctis_size), Acheck_size, (PySem.W.fnOf "check_size" "check_size" (defArgs s_check_size) (defBody s_check_size) (defScope s_check_size) .none kVcheck_size dccheck_size pmcheck_size ancheck_size cdcheck_size ctcheck_size), Ais_count, (PySem.W.fnOf "is_count" "is_count" (defArgs s_is_count) (defBody s_is_count) (defScope s_is_count) .none kVis_count dcis_count pmis_count anis_count cdis_count ctis_count), Acheck_team, (PySem.W.fnOf "check_team" "check_team" (defArgs s_check_team) (defBody s_check_team) (defScope s_check_team) .none kVcheck_team dccheck_team pmcheck_team ancheck_team cdcheck_team ctcheck_team), Acheck_pair, (PySem.W.fnOf "check_pair" "check_pair" (defArgs s_check_pair) (defBody s_check_pair) (defScope s_check_pair) .none kVcheck_pair dccheck_pair pmcheck_pair ancheck_pair cdcheck_pair ctcheck_pair), ARule_step, (PySem.W.fnOf "step" "Rule.step" (defArgs s_Rule_step) (defBody s_Rule_step) (defScope s_Rule_step) .none kVRule_step dcRule_step pmRule_step anRule_step cdRule_step ctRule_step), Arounds_at, (PySem.W.fnOf "_rounds_at" "_rounds_at" (defArgs s_rounds_at) (defBody s_rounds_at) (defScope s_rounds_at) .none kVrounds_at dcrounds_at pmrounds_at anrounds_at cdrounds_at ctrounds_at), Arounds_of, (PySem.W.fnOf "rounds_of" "rounds_of" (defArgs s_rounds_of) (defBody s_rounds_of) (defScope s_rounds_of) .none kVrounds_of dcrounds_of pmrounds_of anrounds_of cdrounds_of ctrounds_of), Ais_rightP, (PySem.W.fnOf "_is_right" "_is_right" (defArgs s_is_rightP) (defBody s_is_rightP) (defScope s_is_rightP) .none kVis_rightP dcis_rightP pmis_rightP anis_rightP cdis_rightP ctis_rightP), Ais_right, (PySem.W.fnOf "is_right" "is_right" (defArgs s_is_right) (defBody s_is_right) (defScope s_is_right) .none kVis_right dcis_right pmis_right anis_right cdis_right ctis_right), Aright, (PySem.W.fnOf "_law_right" "_law_right" (defArgs s_right) (defBody s_right) (defScope s_right) .none kVright dcright pmright anright cdright ctright), Apot, (PySem.W.fnOf "_law_pot" "_law_pot" (defArgs s_pot) (defBody s_pot) (defScope s_pot) .none kVpot dcpot pmpot anpot cdpot ctpot), fa, (PySem.W.fnOf "law" "law" (defArgs s_law) (defBody s_law) (defScope s_law) .none kVlaw dclaw pmlaw anlaw cdlaw ctlaw), CWord, CRule, PRule_least_size, PRule_step, PWord_least, DCONTRARY_STANDERS⟩ := ⟨fun_mk (st := s_spots) l_spots o_spots k_spots, (fun_mk (st := s_spots) l_spots o_spots k_spots).binds (ps := ["_law_model_here", "_law_half", "_law_when"]) fun _ _ _ _ _ _ us hl => match us, hl with | [_, _, _], _ => rfl, PySem.W.mg_of X G a_spots, fun_mk (st := s_draw) l_draw o_draw k_draw, (fun_mk (st := s_draw) l_draw o_draw k_draw).binds (ps := ["_law_pot_here", "_law_much"]) fun _ _ _ _ _ _ us hl => match us, hl with | [_, _], _ => rfl, PySem.W.mg_of X G a_draw, fun_mk (st := s_pick) l_pick o_pick k_pick, (fun_mk (st := s_pick) l_pick o_pick k_pick).binds (ps := ["_law_pot_here", "_law_some"]) fun _ _ _ _ _ _ us hl => match us, hl with | [_, _], _ => rfl, PySem.W.mg_of X G a_pick, fun_mk (st := s_signs) l_signs o_signs k_signs, (fun_mk (st := s_signs) l_signs o_signs k_signs).binds (ps := ["_law_pot_here", "_law_few", "_law_most"]) fun _ _ _ _ _ _ us hl => match us, hl with | [_, _, _], _ => rfl, PySem.W.mg_of X G a_signs, fun_mk (st := s_model) l_model o_model k_model, (fun_mk (st := s_model) l_model o_model k_model).binds (ps := ["_law_pot_here"]) fun _ _ _ _ _ _ us hl => match us, hl with | [_], _ => rfl, PySem.W.mg_of X G a_model, fun_mk (st := s_least) l_least o_least k_least, (fun_mk (st := s_least) l_least o_least k_least).binds (ps := ["_law_model_here"]) fun _ _ _ _ _ _ us hl => match us, hl with | [_], _ => rfl, PySem.W.mg_of X G a_least, fun_mk (st := s_is_marks) l_is_marks o_is_marks k_is_marks, (fun_mk (st := s_is_marks) l_is_marks o_is_marks k_is_marks).binds (ps := ["value"]) fun _ _ _ _ _ _ us hl => match us, hl with | [_], _ => rfl, PySem.W.mg_of X G a_is_marks, fun_mk (st := s_check_part) l_check_part o_check_part k_check_part, (fun_mk (st := s_check_part) l_check_part o_check_part k_check_part).binds (ps := ["marks"]) fun _ _ _ _ _ _ us hl => match us, hl with | [_], _ => rfl, PySem.W.mg_of X G a_check_part, fun_mk (st := s_Word_init) l_Word_init o_Word_init k_Word_init, (fun_mk (st := s_Word_init) l_Word_init o_Word_init k_Word_init).binds (ps := ["self", "head", "middle", "tail"]) fun _ _ _ _ _ _ us hl => match us, hl with | [_, _, _, _], _ => rfl, fun_mk (st := s_is_integer) l_is_integer o_is_integer k_is_integer, (fun_mk (st := s_is_integer) l_is_integer o_is_integer k_is_integer).binds (ps := ["value"]) fun _ _ _ _ _ _ us hl => match us, hl with | [_], _ => rfl, PySem.W.mg_of X G a_is_integer, ⟨⟨_, _, _, _, _, _, _, _, _, _, rfl, l_Rule_init, o_Rule_init, .inr ⟨by simp, TRule_init, _, _, _, rfl, t_Rule_init, rfl, .cons rfl (.nil)⟩, .inl rfl⟩, k_Rule_init⟩, (fun (F_ : FunD K "__init__" "Rule.__init__" (defArgs s_Rule_init) (defBody s_Rule_init) (defScope s_Rule_init) [V.bl false] [] ARule_init _) => FunD_b0 F_ (by simp) fun T_ kV_ doc_ pm_ an_ cdv_ ct_ us_ its_ h_ hi_ => match us_, its_, h_, hi_ with | [_, _, _, _, _], [_], _, _ => ⟨_, rfl, rfl⟩) ⟨⟨_, _, _, _, _, _, _, _, _, _, rfl, l_Rule_init, o_Rule_init, .inr ⟨by simp, TRule_init, _, _, _, rfl, t_Rule_init, rfl, .cons rfl (.nil)⟩, .inl rfl⟩, k_Rule_init⟩, fun_mk (st := s_rule) l_rule o_rule k_rule, (fun_mk (st := s_rule) l_rule o_rule k_rule).binds (ps := ["_law_model_here"]) fun _ _ _ _ _ _ us hl => match us, hl with | [_], _ => rfl, PySem.W.mg_of X G a_rule, fun_mk (st := s_meetings) l_meetings o_meetings k_meetings, (fun_mk (st := s_meetings) l_meetings o_meetings k_meetings).binds (ps := ["_law_model_here", "_law_half"]) fun _ _ _ _ _ _ us hl => match us, hl with | [_, _], _ => rfl, PySem.W.mg_of X G a_meetings, fun_mk (st := s_Word_least) l_Word_least o_Word_least k_Word_least, (fun_mk (st := s_Word_least) l_Word_least o_Word_least k_Word_least).binds (ps := ["self"]) fun _ _ _ _ _ _ us hl => match us, hl with | [_], _ => rfl, ⟨pa_Word_least, pg_Word_least, pt_Word_least, ⟨_, pr_Word_least⟩⟩, fun_mk (st := s_Rule_least_size) l_Rule_least_size o_Rule_least_size k_Rule_least_size, (fun_mk (st := s_Rule_least_size) l_Rule_least_size o_Rule_least_size k_Rule_least_size).binds (ps := ["self"]) fun _ _ _ _ _ _ us hl => match us, hl with | [_], _ => rfl, ⟨pa_Rule_least_size, pg_Rule_least_size, pt_Rule_least_size, ⟨_, pr_Rule_least_size⟩⟩, fun_mk (st := s_is_size) l_is_size o_is_size k_is_size, (fun_mk (st := s_is_size) l_is_size o_is_size k_is_size).binds (ps := ["rule", "value"]) fun _ _ _ _ _ _ us hl => match us, hl with | [_, _], _ => rfl, PySem.W.mg_of X G a_is_size, fun_mk (st := s_check_size) l_check_size o_check_size k_check_size, (fun_mk (st := s_check_size) l_check_size o_check_size k_check_size).binds (ps := ["rule", "size"]) fun _ _ _ _ _ _ us hl => match us, hl with | [_, _], _ => rfl, PySem.W.mg_of X G a_check_size, fun_mk (st := s_is_count) l_is_count o_is_count k_is_count, (fun_mk (st := s_is_count) l_is_count o_is_count k_is_count).binds (ps := ["value"]) fun _ _ _ _ _ _ us hl => match us, hl with | [_], _ => rfl, PySem.W.mg_of X G a_is_count, fun_mk (st := s_check_team) l_check_team o_check_team k_check_team, (fun_mk (st := s_check_team) l_check_team o_check_team k_check_team).binds (ps := ["team", "teams"]) fun _ _ _ _ _ _ us hl => match us, hl with | [_, _], _ => rfl, PySem.W.mg_of X G a_check_team, fun_mk (st := s_check_pair) l_check_pair o_check_pair k_check_pair, (fun_mk (st := s_check_pair) l_check_pair o_check_pair k_check_pair).binds (ps := ["one", "other", "teams"]) fun _ _ _ _ _ _ us hl => match us, hl with | [_, _, _], _ => rfl, PySem.W.mg_of X G a_check_pair, fun_mk (st := s_Rule_step) l_Rule_step o_Rule_step k_Rule_step, (fun_mk (st := s_Rule_step) l_Rule_step o_Rule_step k_Rule_step).binds (ps := ["self"]) fun _ _ _ _ _ _ us hl => match us, hl with | [_], _ => rfl, ⟨pa_Rule_step, pg_Rule_step, pt_Rule_step, ⟨_, pr_Rule_step⟩⟩, fun_mk (st := s_rounds_at) l_rounds_at o_rounds_at k_rounds_at, (fun_mk (st := s_rounds_at) l_rounds_at o_rounds_at k_rounds_at).binds (ps := ["step", "places", "ring"]) fun _ _ _ _ _ _ us hl => match us, hl with | [_, _, _], _ => rfl, PySem.W.mg_of X G a_rounds_at, fun_mk (st := s_rounds_of) l_rounds_of o_rounds_of k_rounds_of, (fun_mk (st := s_rounds_of) l_rounds_of o_rounds_of k_rounds_of).binds (ps := ["rule", "size", "one", "other"]) fun _ _ _ _ _ _ us hl => match us, hl with | [_, _, _, _], _ => rfl, PySem.W.mg_of X G a_rounds_of, fun_mk (st := s_is_rightP) l_is_rightP o_is_rightP k_is_rightP, (fun_mk (st := s_is_rightP) l_is_rightP o_is_rightP k_is_rightP).binds (ps := ["rule", "size"]) fun _ _ _ _ _ _ us hl => match us, hl with | [_, _], _ => rfl, PySem.W.mg_of X G a_is_rightP, fun_mk (st := s_is_right) l_is_right o_is_right k_is_right, (fun_mk (st := s_is_right) l_is_right o_is_right k_is_right).binds (ps := ["rule", "size"]) fun _ _ _ _ _ _ us hl => match us, hl with | [_, _], _ => rfl, PySem.W.mg_of X G a_is_right, fun_mk (st := s_right) l_right o_right k_right, (fun_mk (st := s_right) l_right o_right k_right).binds (ps := ["_law_pot_here"]) fun _ _ _ _ _ _ us hl => match us, hl with | [_], _ => rfl, PySem.W.mg_of X G a_right, fun_mk (st := s_pot) l_pot o_pot k_pot, (fun_mk (st := s_pot) l_pot o_pot k_pot).binds (ps := ["_law_script", "_law_k"]) fun _ _ _ _ _ _ us hl => match us, hl with | [_, _], _ => rfl, PySem.W.mg_of X G a_pot, fun_mk (st := s_law) l_law o_law k_law, (fun_mk (st := s_law) l_law o_law k_law).binds (ps := ["_law_script"]) fun _ _ _ _ _ _ us hl => match us, hl with | [_], _ => rfl, PySem.W.mg_of X G a_law, ⟨pg_Word, hd_Word, po_Word, sa_Word⟩, PySem.W.mg_of X G aC_Word, ⟨mk_Word, a_Word_init, i_Word_init, kc_Word⟩, na_Word__head, na_Word__middle, na_Word__tail, ⟨pg_Rule, hd_Rule, po_Rule, sa_Rule⟩, PySem.W.mg_of X G aC_Rule, ⟨mk_Rule, a_Rule_init, i_Rule_init, kc_Rule⟩, na_Rule__step, na_Rule__word, na_Rule__stander, na_Rule__turned, PySem.W.mg_of X G gd_CONTRARY_STANDERS, (kd_cons ⟨_, _, _, ld_CONTRARY_STANDERS, lk_CONTRARY_STANDERS, lv_CONTRARY_STANDERS_0, ⟨_, rfl⟩⟩ (kd_cons ⟨_, _, _, ld_CONTRARY_STANDERS, lk_CONTRARY_STANDERS, lv_CONTRARY_STANDERS_1, ⟨_, rfl⟩⟩ (kd_cons ⟨_, _, _, ld_CONTRARY_STANDERS, lk_CONTRARY_STANDERS, lv_CONTRARY_STANDERS_2, ⟨_, rfl⟩⟩ (kd_cons ⟨_, _, _, ld_CONTRARY_STANDERS, lk_CONTRARY_STANDERS, lv_CONTRARY_STANDERS_3, ⟨_, rfl⟩⟩ kd_nil)))), lo_CONTRARY_STANDERS, PySem.W.mg_none_of X G z_abs, PySem.W.mg_none_of X G z_all, PySem.W.mg_none_of X G z_any, PySem.W.mg_none_of X G z_bool, PySem.W.mg_none_of X G z_dict, PySem.W.mg_none_of X G z_divmod, PySem.W.mg_none_of X G z_enumerate, PySem.W.mg_none_of X G z_int, PySem.W.mg_none_of X G z_isinstance, PySem.W.mg_none_of X G z_len, PySem.W.mg_none_of X G z_list, PySem.W.mg_none_of X G z_max, PySem.W.mg_none_of X G z_min, PySem.W.mg_none_of X G z_range, PySem.W.mg_none_of X G z_repr, PySem.W.mg_none_of X G z_set, PySem.W.mg_none_of X G z_sorted, PySem.W.mg_none_of X G z_str, PySem.W.mg_none_of X G z_sum, PySem.W.mg_none_of X G z_tuple, PySem.W.mg_none_of X G z_zip, PySem.W.mg_of X G i_gcd, ⟨_, PySem.W.mg_of X G c_MOST_MARKS, ⟨_, rfl⟩⟩, ⟨_, PySem.W.mg_of X G c_MOST_STEP, ⟨_, rfl⟩⟩, ⟨fun s us ws _ h1 h2 => match us, ws, h1, h2 with | [], [_, _], _, _ => .of_eq rfl, fun r1 r2 => r1.append (.cons (vals_getD r2 1) (.cons (vals_getD r2 0) (.nil)))⟩, ⟨fun s us ws _ h1 h2 => match us, ws, h1, h2 with | [], [_, _, _, _], _, _ => .of_eq rfl, fun r1 r2 => r1.append (.cons (vals_getD r2 3) (.cons (vals_getD r2 2) (.cons (vals_getD r2 1) (.cons (vals_getD r2 0) (.nil)))))⟩⟩
  exact ⟨_, fun s v => .of_eq rfl, fun base _ _ => ok_law T⟩
theorem ob_eq (s : PySem.W.SharedT) : ob s = hk.obs s.abs := obF_eq s
theorem facts {l : PySem.W.OpenLaw} {w : World} {mg : Str → Option Value} {fa : Addr} {h : Heap} (Y : hk.says w h) (G : h.Ns mainGlobals mg) (hfa : mg "law" = some (.ref fa)) :
    ∃ K : PySem.W.Frag, K.In h ∧ ∃ (fd : FuncData) (sp : Sp), (∀ (s : Shared) (u : Value), BindsTo s fd ⟨[u], []⟩ [("_law_script", u)]) ∧
      (∀ (H : Hp) (a : Addr) (ns : List Int), ns.length ≤ 63 → Only H → SqL K H a (ns.map V.int) → sp [.ref a] H (fun v _ => v = .bl true) E0) ∧
      ∀ base : Heap, K.In base → base.Ns mainGlobals mg → FnG l.prog w K mg base 9 fa fd ["_law_script"] sp := by
  obtain ⟨K, KX, c_⟩ := Y
  have cx0_ : (gxa K && gxb K) = true := congrArg (fun z : AlR => z.1) c_
  obtain ⟨cx_, cy_⟩ := He.ba cx0_
  have cf_ : (fnL.map fun a => shR K (a K)) = fnV := congrArg (fun z : AlR => z.2.1) c_
  have ct_ : (tsL.map fun t => He.dicW K (t.1 K)) = tsL.map fun t => some (He.keysIn w.params t.2) := congrArg (fun z : AlR => z.2.2) c_
  obtain ⟨g0_, cx_⟩ := He.ba cx_
  obtain ⟨a_spots, fd_spots, o_spots, k_spots, a_draw, fd_draw, o_draw, k_draw, a_pick, fd_pick⟩ := of_decide_eq_true g0_
  obtain ⟨g1_, cx_⟩ := He.ba cx_
  obtain ⟨o_pick, k_pick, a_signs, fd_signs, o_signs, k_signs, a_model, fd_model, o_model, k_model⟩ := of_decide_eq_true g1_
  obtain ⟨g2_, cx_⟩ := He.ba cx_
  obtain ⟨a_least, fd_least, o_least, k_least, a_is_marks, fd_is_marks, o_is_marks, k_is_marks, a_check_part, fd_check_part⟩ := of_decide_eq_true g2_
  obtain ⟨g3_, cx_⟩ := He.ba cx_
  obtain ⟨o_check_part, k_check_part, a_Word_init, i_Word_init, fd_Word_init, o_Word_init, k_Word_init, a_is_integer, fd_is_integer, o_is_integer⟩ := of_decide_eq_true g3_
  obtain ⟨g4_, cx_⟩ := He.ba cx_
  obtain ⟨k_is_integer, a_Rule_init, i_Rule_init, ft_Rule_init, fd_Rule_init, o_Rule_init, k_Rule_init, a_rule, fd_rule, o_rule⟩ := of_decide_eq_true g4_
  obtain ⟨g5_, cx_⟩ := He.ba cx_
  obtain ⟨k_rule, a_meetings, fd_meetings, o_meetings, k_meetings, pa_Word_least, pg_Word_least, pt_Word_least, fpr_Word_least, fd_Word_least⟩ := of_decide_eq_true g5_
  obtain ⟨g6_, cx_⟩ := He.ba cx_
  obtain ⟨o_Word_least, k_Word_least, pa_Rule_least_size, pg_Rule_least_size, pt_Rule_least_size, fpr_Rule_least_size, fd_Rule_least_size, o_Rule_least_size, k_Rule_least_size, a_is_size⟩ := of_decide_eq_true g6_
  obtain ⟨g7_, cx_⟩ := He.ba cx_
  obtain ⟨fd_is_size, o_is_size, k_is_size, a_check_size, fd_check_size, o_check_size, k_check_size, a_is_count, fd_is_count, o_is_count⟩ := of_decide_eq_true g7_
  have g8_ := cx_
  obtain ⟨k_is_count, a_check_team, fd_check_team, o_check_team, k_check_team, a_check_pair, fd_check_pair, o_check_pair, k_check_pair, pa_Rule_step⟩ := of_decide_eq_true g8_
  obtain ⟨g9_, cy_⟩ := He.ba cy_
  obtain ⟨pg_Rule_step, pt_Rule_step, fpr_Rule_step, fd_Rule_step, o_Rule_step, k_Rule_step, a_rounds_at, fd_rounds_at, o_rounds_at, k_rounds_at⟩ := of_decide_eq_true g9_
  obtain ⟨g10_, cy_⟩ := He.ba cy_
  obtain ⟨a_rounds_of, fd_rounds_of, o_rounds_of, k_rounds_of, a_is_rightP, fd_is_rightP, o_is_rightP, k_is_rightP, a_is_right, fd_is_right⟩ := of_decide_eq_true g10_
  obtain ⟨g11_, cy_⟩ := He.ba cy_
  obtain ⟨o_is_right, k_is_right, a_right, fd_right, o_right, k_right, a_pot, fd_pot, o_pot, k_pot⟩ := of_decide_eq_true g11_
  obtain ⟨g12_, cy_⟩ := He.ba cy_
  obtain ⟨a_law, fd_law, o_law, k_law, aC_Word, pg_Word, hd_Word, po_Word, sa_Word, mk_Word⟩ := of_decide_eq_true g12_
  obtain ⟨g13_, cy_⟩ := He.ba cy_
  obtain ⟨kc_Word, na_Word__head, na_Word__middle, na_Word__tail, aC_Rule, pg_Rule, hd_Rule, po_Rule, sa_Rule, mk_Rule⟩ := of_decide_eq_true g13_
  obtain ⟨g14_, cy_⟩ := He.ba cy_
  obtain ⟨kc_Rule, na_Rule__step, na_Rule__word, na_Rule__stander, na_Rule__turned, gd_CONTRARY_STANDERS, lv_CONTRARY_STANDERS_3, lv_CONTRARY_STANDERS_2, lv_CONTRARY_STANDERS_1, lv_CONTRARY_STANDERS_0⟩ := of_decide_eq_true g14_
  obtain ⟨g15_, cy_⟩ := He.ba cy_
  obtain ⟨z_abs, z_all, z_any, z_bool, z_dict, z_divmod, z_enumerate, z_int, z_isinstance, z_len⟩ := of_decide_eq_true g15_
  obtain ⟨g16_, cy_⟩ := He.ba cy_
  obtain ⟨z_list, z_max, z_min, z_range, z_repr, z_set, z_sorted, z_str, z_sum, z_tuple⟩ := of_decide_eq_true g16_
  have g17_ := cy_
  obtain ⟨z_zip, i_gcd, c_MOST_MARKS, c_MOST_STEP⟩ := of_decide_eq_true g17_
  obtain ⟨_, _, _, _, _, _, _, _, l_spots⟩ := shR_ok (fnAt cf_ 0 (a := xa_Aspots) (v := sv_spots) (by rfl) (by rfl)) fd_spots rfl
  obtain ⟨_, _, _, _, _, _, _, _, l_draw⟩ := shR_ok (fnAt cf_ 1 (a := xa_Adraw) (v := sv_draw) (by rfl) (by rfl)) fd_draw rfl
  obtain ⟨_, _, _, _, _, _, _, _, l_pick⟩ := shR_ok (fnAt cf_ 2 (a := xa_Apick) (v := sv_pick) (by rfl) (by rfl)) fd_pick rfl
  obtain ⟨_, _, _, _, _, _, _, _, l_signs⟩ := shR_ok (fnAt cf_ 3 (a := xa_Asigns) (v := sv_signs) (by rfl) (by rfl)) fd_signs rfl
  obtain ⟨_, _, _, _, _, _, _, _, l_model⟩ := shR_ok (fnAt cf_ 4 (a := xa_Amodel) (v := sv_model) (by rfl) (by rfl)) fd_model rfl
  obtain ⟨_, _, _, _, _, _, _, _, l_least⟩ := shR_ok (fnAt cf_ 5 (a := xa_Aleast) (v := sv_least) (by rfl) (by rfl)) fd_least rfl
  obtain ⟨_, _, _, _, _, _, _, _, l_is_marks⟩ := shR_ok (fnAt cf_ 6 (a := xa_Ais_marks) (v := sv_is_marks) (by rfl) (by rfl)) fd_is_marks rfl
  obtain ⟨_, _, _, _, _, _, _, _, l_check_part⟩ := shR_ok (fnAt cf_ 7 (a := xa_Acheck_part) (v := sv_check_part) (by rfl) (by rfl)) fd_check_part rfl
  obtain ⟨_, _, _, _, _, _, _, _, l_Word_init⟩ := shR_ok (fnAt cf_ 8 (a := xa_AWord_init) (v := sv_Word_init) (by rfl) (by rfl)) fd_Word_init rfl
  obtain ⟨_, _, _, _, _, _, _, _, l_is_integer⟩ := shR_ok (fnAt cf_ 9 (a := xa_Ais_integer) (v := sv_is_integer) (by rfl) (by rfl)) fd_is_integer rfl
  obtain ⟨_, _, _, t_Rule_init⟩ := tuR_ok ft_Rule_init
  obtain ⟨_, _, _, _, _, _, _, _, l_Rule_init⟩ := shR_ok (fnAt cf_ 10 (a := xa_ARule_init) (v := sv_Rule_init) (by rfl) (by rfl)) fd_Rule_init rfl
  obtain ⟨_, _, _, _, _, _, _, _, l_rule⟩ := shR_ok (fnAt cf_ 11 (a := xa_Arule) (v := sv_rule) (by rfl) (by rfl)) fd_rule rfl
  obtain ⟨_, _, _, _, _, _, _, _, l_meetings⟩ := shR_ok (fnAt cf_ 12 (a := xa_Ameetings) (v := sv_meetings) (by rfl) (by rfl)) fd_meetings rfl
  obtain ⟨_, pr_Word_least⟩ := rcB_ok fpr_Word_least
  obtain ⟨_, _, _, _, _, _, _, _, l_Word_least⟩ := shR_ok (fnAt cf_ 13 (a := xa_AWord_least) (v := sv_Word_least) (by rfl) (by rfl)) fd_Word_least rfl
  obtain ⟨_, pr_Rule_least_size⟩ := rcB_ok fpr_Rule_least_size
  obtain ⟨_, _, _, _, _, _, _, _, l_Rule_least_size⟩ := shR_ok (fnAt cf_ 14 (a := xa_ARule_least_size) (v := sv_Rule_least_size) (by rfl) (by rfl)) fd_Rule_least_size rfl
  obtain ⟨_, _, _, _, _, _, _, _, l_is_size⟩ := shR_ok (fnAt cf_ 15 (a := xa_Ais_size) (v := sv_is_size) (by rfl) (by rfl)) fd_is_size rfl
  obtain ⟨_, _, _, _, _, _, _, _, l_check_size⟩ := shR_ok (fnAt cf_ 16 (a := xa_Acheck_size) (v := sv_check_size) (by rfl) (by rfl)) fd_check_size rfl
  obtain ⟨_, _, _, _, _, _, _, _, l_is_count⟩ := shR_ok (fnAt cf_ 17 (a := xa_Ais_count) (v := sv_is_count) (by rfl) (by rfl)) fd_is_count rfl
  obtain ⟨_, _, _, _, _, _, _, _, l_check_team⟩ := shR_ok (fnAt cf_ 18 (a := xa_Acheck_team) (v := sv_check_team) (by rfl) (by rfl)) fd_check_team rfl
  obtain ⟨_, _, _, _, _, _, _, _, l_check_pair⟩ := shR_ok (fnAt cf_ 19 (a := xa_Acheck_pair) (v := sv_check_pair) (by rfl) (by rfl)) fd_check_pair rfl
  obtain ⟨_, pr_Rule_step⟩ := rcB_ok fpr_Rule_step
  obtain ⟨_, _, _, _, _, _, _, _, l_Rule_step⟩ := shR_ok (fnAt cf_ 20 (a := xa_ARule_step) (v := sv_Rule_step) (by rfl) (by rfl)) fd_Rule_step rfl
  obtain ⟨_, _, _, _, _, _, _, _, l_rounds_at⟩ := shR_ok (fnAt cf_ 21 (a := xa_Arounds_at) (v := sv_rounds_at) (by rfl) (by rfl)) fd_rounds_at rfl
  obtain ⟨_, _, _, _, _, _, _, _, l_rounds_of⟩ := shR_ok (fnAt cf_ 22 (a := xa_Arounds_of) (v := sv_rounds_of) (by rfl) (by rfl)) fd_rounds_of rfl
  obtain ⟨_, _, _, _, _, _, _, _, l_is_rightP⟩ := shR_ok (fnAt cf_ 23 (a := xa_Ais_rightP) (v := sv_is_rightP) (by rfl) (by rfl)) fd_is_rightP rfl
  obtain ⟨_, _, _, _, _, _, _, _, l_is_right⟩ := shR_ok (fnAt cf_ 24 (a := xa_Ais_right) (v := sv_is_right) (by rfl) (by rfl)) fd_is_right rfl
  obtain ⟨_, _, _, _, _, _, _, _, l_right⟩ := shR_ok (fnAt cf_ 25 (a := xa_Aright) (v := sv_right) (by rfl) (by rfl)) fd_right rfl
  obtain ⟨_, _, _, _, _, _, _, _, l_pot⟩ := shR_ok (fnAt cf_ 26 (a := xa_Apot) (v := sv_pot) (by rfl) (by rfl)) fd_pot rfl
  obtain ⟨_, _, _, _, _, _, _, _, l_law⟩ := shR_ok (fnAt cf_ 27 (a := xa_Alaw) (v := sv_law) (by rfl) (by rfl)) fd_law rfl
  obtain ⟨_, _, ⟨ld_CONTRARY_STANDERS, lk_CONTRARY_STANDERS, lo_CONTRARY_STANDERS⟩⟩ := tsAt ct_ 0 (t := ts_CONTRARY_STANDERS) (by rfl)
  obtain ⟨fd_, b_, F_⟩ := all_mk (l := l) KX G hfa a_spots l_spots o_spots k_spots a_draw l_draw o_draw k_draw a_pick l_pick o_pick k_pick a_signs l_signs o_signs k_signs a_model l_model o_model k_model a_least l_least o_least k_least a_is_marks l_is_marks o_is_marks k_is_marks a_check_part l_check_part o_check_part k_check_part a_Word_init i_Word_init l_Word_init o_Word_init k_Word_init a_is_integer l_is_integer o_is_integer k_is_integer a_Rule_init i_Rule_init t_Rule_init l_Rule_init o_Rule_init k_Rule_init a_rule l_rule o_rule k_rule a_meetings l_meetings o_meetings k_meetings pa_Word_least pg_Word_least pt_Word_least pr_Word_least l_Word_least o_Word_least k_Word_least pa_Rule_least_size pg_Rule_least_size pt_Rule_least_size pr_Rule_least_size l_Rule_least_size o_Rule_least_size k_Rule_least_size a_is_size l_is_size o_is_size k_is_size a_check_size l_check_size o_check_size k_check_size a_is_count l_is_count o_is_count k_is_count a_check_team l_check_team o_check_team k_check_team a_check_pair l_check_pair o_check_pair k_check_pair pa_Rule_step pg_Rule_step pt_Rule_step pr_Rule_step l_Rule_step o_Rule_step k_Rule_step a_rounds_at l_rounds_at o_rounds_at k_rounds_at a_rounds_of l_rounds_of o_rounds_of k_rounds_of a_is_rightP l_is_rightP o_is_rightP k_is_rightP a_is_right l_is_right o_is_right k_is_right a_right l_right o_right k_right a_pot l_pot o_pot k_pot a_law l_law o_law k_law aC_Word pg_Word hd_Word po_Word sa_Word mk_Word kc_Word na_Word__head na_Word__middle na_Word__tail aC_Rule pg_Rule hd_Rule po_Rule sa_Rule mk_Rule kc_Rule na_Rule__step na_Rule__word na_Rule__stander na_Rule__turned gd_CONTRARY_STANDERS ld_CONTRARY_STANDERS lk_CONTRARY_STANDERS lv_CONTRARY_STANDERS_3 lv_CONTRARY_STANDERS_2 lv_CONTRARY_STANDERS_1 lv_CONTRARY_STANDERS_0 lo_CONTRARY_STANDERS z_abs z_all z_any z_bool z_dict z_divmod z_enumerate z_int z_isinstance z_len z_list z_max z_min z_range z_repr z_set z_sorted z_str z_sum z_tuple z_zip i_gcd c_MOST_MARKS c_MOST_STEP
  exact ⟨K, KX, fd_, _, b_, fun H a ns hl hO hS => law_enter hl hO hS, F_⟩
end Lw
open PySem PySem.W PyProof.Rows in
set_option maxRecDepth 100000 in
set_option maxHeartbeats 0 in
theorem PySem.Challenge.cw_ringrows_k33_whole_pairs_met_by_all_roun_holds : PySem.Challenge.rw_ringrows_k33_whole_pairs_met_by_all_roun.Holds := by
  w_on; o_law
  refine HandSHeadRun.head_imp (r := OpenLaw.row PySem.Challenge.rw_ringrows_k33_whole_pairs_met_by_all_roun) (q := Lw.qV) (H := Lw.hk) (ob := Lw.ob) (M := 60000) (loose := Lw.looseL) (d := HandSHeadRun.topDef (OpenLaw.row PySem.Challenge.rw_ringrows_k33_whole_pairs_met_by_all_roun).prog 48) (kwd := []) Lw.ob_eq Lw.run (by kernel_rfl) (by kernel_rfl) (by kernel_rfl) (by rfl) (by first | assumption | decide +kernel) (by decide +kernel) ⟨rfl, rfl, rfl, rfl, rfl, by decide +kernel⟩ ?hw ?hc
  case hw => w_witness2
  case hc =>
    refine Rx.walk_ofGE (l := PySem.Challenge.rw_ringrows_k33_whole_pairs_met_by_all_roun) (n := 63) (k := 9) (x := "_law_script") rfl (by decide) (by kernel_rfl) ⟨rfl, by decide, by decide⟩ ?F
    intro w mg fa h Y G hmg0
    have hmg : mg ("law" : PySem.Str) = some (.ref fa) := by
      have e : (HandSHeadRun.topDef (OpenLaw.row PySem.Challenge.rw_ringrows_k33_whole_pairs_met_by_all_roun).prog 48).name = ("law" : PySem.Str) := by kernel_rfl
      rw [← e]
      exact hmg0
    exact Lw.facts Y G hmg
