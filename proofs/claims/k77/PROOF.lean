import PyProof.Rows.All
import Wide.All
import OpenK.AllK
import Wide.FinOn
import HandS.DictComp
import HandS.TupSets
import HandS.Head0
import HandS.Head1
import HandS.Head2
import HandS.Head3
import HandS.HeadHook4
import HandS.HeadNt
import KE.GoesEnum
import KE.KExcInit
import PyProof.ExcBaseAll.RuntimeError
import PyProof.ExcBaseAll.ArithmeticError
import HandS.DictEq
import PyProof.ListStr
import KE.GoesMore
import KE.GoesZip
import HandS.ForMost
import HandS.Property
import HandS.IsInst
import HandS.Wide
import HandS.WideBits
import HandS.Defaults
import HandS.StrMore
import HandS.Style
import HandS.Codes
import HandS.OwnEq
import HandS.Conv
import HandS.SetFor
import HandS.WrittenGet
import PyProof.StrBlock2
import PyProof.LongRange
import PyProof.ReprRoads
import HandS.FStr
import HandS.MakeKwOnly
import HandS.ListItems
import HandS.Gcd
import HandS.Small
import HandS.NoneIn
import HandS.Walk
import HandS.Deep
import HandS.SortRule
import HandS.SortInts
import HandS.Star
import KE.KOpsOwn
import KE.KMathGC
import HandS.Flt
import KE.KMathG
import KE.DataMinMax
import HandS.SortKw
import HandS.Zip
import Flt.RightSqrt
import PyProof.ReprNest
import HandS.ClsMeth
import HandS.TupLe
import HandS.Lambda
import HandS.ExcInit
import HandS.ExcIs
import HandS.ExcField
import HandS.ExcOwn
import HandS.TryMany
import HandS.WordsExc
import KE.KExcIs
import HandS.EndTab
import KE.KDictZip
import PyProof.ListNew
import HandS.TupAny
import KE.KDictDisplayH
import HandS.HotCalls
import HandS.ExcInitHot
import PyProof.FString2
import PyProof.FString4
import PyProof.StrHeap
import PyProof.EqKinds
import PyProof.FactsAll.dict
import PySem.Challenge.RW_ringrows_k77_whole_long_stays
set_option Elab.async false
set_option linter.all false
set_option maxRecDepth 100000
set_option maxHeartbeats 4000000
namespace Rx
open PySem PySem.Spec PyProof.Rows L2
def fdR (K : PySem.W.Frag) (a : Addr) : Option FuncData := match K.lookup a with
  | some ⟨_, _, .func fd, _⟩ => some fd
  | _ => none
def shR (K : PySem.W.Frag) (a : Addr) : He.FnW := (fdR K a).map fun fd => (fd.name, fd.qualname, fd.params, fd.body, fd.scope, fd.globals, fd.closure, fd.builtins)
def dfR (K : PySem.W.Frag) (a : Addr) : Option Value := (fdR K a).map fun fd => fd.defaults
def cdR (K : PySem.W.Frag) (a : Addr) : Value := match fdR K a with
  | some fd => fd.code
  | none => .none
def adV : Value → Addr
  | .ref a => a
  | _ => 0
def tuR (K : PySem.W.Frag) (a : Addr) : Option (List Value) := match K.lookup a with
  | some ⟨.type c, _, .seq its _, _⟩ => (match decide (c = "tuple") with
    | true => some its.toList
    | false => none)
  | _ => none
def rcA (K : PySem.W.Frag) (p : Addr) (T : String) : Addr := match PySem.W.recIn K p T with
  | some (v :: _) => adV v
  | _ => 0
def rcB (K : PySem.W.Frag) (p : Addr) (T : String) : Bool := match PySem.W.recIn K p T with
  | some (.ref _ :: _) => true
  | _ => false
def tkI : Option (Option Value) → Tok
  | some (some (.int _ t)) => t
  | some (some (.str _ t)) => t
  | _ => 0
abbrev AlR : Type := Bool × List He.FnW × List (Option (List (Option (Str × Int))))
def obK (ex : PySem.W.Frag → Bool) (fn : List (PySem.W.Frag → Addr)) (ts : List He.Tab) (K : PySem.W.Frag) : AlR := (ex K, fn.map fun a => shR K (a K), ts.map fun t => He.dicW K (t.1 K))
def vaR (vs : List He.FnW) (ts : List He.Tab) (w : World) : AlR := (true, vs, ts.map fun t => some (He.keysIn w.params t.2))
def obR (n : Nat) (ex : PySem.W.Frag → Bool) (fn : List (PySem.W.Frag → Addr)) (ts : List He.Tab) (g : Addr → Option Obj) : AlR := obK ex fn ts (He.frT g (List.range n))
def hkR (n : Nat) (ex : PySem.W.Frag → Bool) (fn : List (PySem.W.Frag → Addr)) (vs : List He.FnW) (ts : List He.Tab) : PySem.W.Hook where
  α := AlR
  obs := fun s => obR n ex fn ts s.heap.get?
  val := fun w => vaR vs ts w
  says := fun w h => ∃ K : PySem.W.Frag, K.In h ∧ obK ex fn ts K = vaR vs ts w
  of := fun _ _ e => ⟨_, He.frT_in, e⟩
  keeps := fun _ _ _ ⟨K, hK, c⟩ k => ⟨K, PySem.W.Frag.In.keeps hK k, c⟩
def frcO {α : Type} (o : Obj) (k : Obj → α) : α := match o with
  | ⟨c, d, dt, sl⟩ => k ⟨c, d, dt, sl⟩
def frcK {α : Type} : PySem.W.Frag → (PySem.W.Frag → α) → α
  | [], k => k []
  | (a, o) :: r, k => frcO o fun o => frcK r fun r => k ((a, o) :: r)
def obA (n : Nat) (ex : PySem.W.Frag → Bool) (s : PySem.W.SharedT) : Bool := frcK (He.frT (HandSHeadRun.getT s) (List.range n)) ex
def obB (n : Nat) (fn : List (PySem.W.Frag → Addr)) (ts : List He.Tab) (s : PySem.W.SharedT) : List He.FnW × List (Option (List (Option (Str × Int)))) :=
  frcK (He.frT (HandSHeadRun.getT s) (List.range n)) fun K => (fn.map fun a => shR K (a K), ts.map fun t => He.dicW K (t.1 K))
def obF (n : Nat) (ea eb : PySem.W.Frag → Bool) (fn : List (PySem.W.Frag → Addr)) (ts : List He.Tab) (s : PySem.W.SharedT) : AlR := (obA n ea s && obA n eb s, obB n fn ts s)
theorem map_four {σ α β δ : Type} {o : Option σ} {f : σ → α} {g : σ → β} {h h2 : σ → Bool} {k : σ → δ} {a : α} {b : β} {d : δ} (x : o.map (fun s => (f s, g s)) = some (a, b)) (y : o.map h = some true) (y2 : o.map h2 = some true) (z : o.map k = some d) :
    o.map (fun s => (f s, g s, (h s && h2 s), k s)) = some (a, b, true, d) := by
  cases o with
  | none => cases x
  | some s =>
    have x1 := Option.some.inj x
    have y1 : h s = true := Option.some.inj y
    have y3 : h2 s = true := Option.some.inj y2
    have z1 : k s = d := Option.some.inj z
    obtain ⟨x2, x3⟩ := Prod.mk.inj x1
    show some (f s, g s, (h s && h2 s), k s) = _
    rw [x2, x3, y1, y3, z1]
    rfl
noncomputable abbrev endW (p : Program) (w : World) (os : OsState) : Option PySem.W.SharedT := HandSHeadRun.endF (HandSHeadRun.stepQ (HandSHeadRun.denQ HandSHeadRun.tabQ) p w) 60000 p w os
theorem runEq_of {R : PySem.W.OpenRow} {q : Program} {ea eb : PySem.W.Frag → Bool} {fn : List (PySem.W.Frag → Addr)} {vs : List He.FnW} {ts : List He.Tab} {loose : List Str} {w : World} {n : Nat}
    (x : ∀ os, (endW R.prog w os).map (fun x => (HandSHeadRun.looksF R.prog (PySem.W.boot_heap w.params) x.abs, HandSHeadRun.seenQ q loose (importedModules R.prog.main.body) (fun s => PySem.W.xlAt q [] s && PySem.W.recOk R.toRowW.records s) x.abs)) = some (true, PySem.W.openGood q loose))
    (y : ∀ os, (endW R.prog w os).map (fun x => obA n ea x) = some true) (y2 : ∀ os, (endW R.prog w os).map (fun x => obA n eb x) = some true)
    (z : ∀ os, (endW R.prog w os).map (fun x => obB n fn ts x) = some (vs, ts.map fun t => some (He.keysIn w.params t.2))) :
    HandSHeadRun.RunEq R q (hkR n (fun K => ea K && eb K) fn vs ts) (obF n ea eb fn ts) 60000 loose w := fun os => map_four (x os) (y os) (y2 os) (z os)
end Rx
namespace Lw
open PySem PySem.Spec PyProof.Rows L2 Rx
def topS (i : Nat) : Stmt := PySem.Challenge.pw_ringrows_k77_whole_long_stays.main.body.getD i (.Pass ⟨0, 0, 0, 0⟩)
abbrev s_draw : Stmt := (topS 66)
abbrev s_pick : Stmt := (topS 67)
abbrev s_marks : Stmt := (topS 68)
abbrev s_model : Stmt := (topS 69)
abbrev s_drawn : Stmt := (topS 80)
abbrev s_is_marks : Stmt := (topS 18)
abbrev s_check_part : Stmt := (topS 62)
abbrev s_Word_init : Stmt := (inClass (topS 61) 0)
abbrev s_is_integer : Stmt := (topS 16)
abbrev s_Rule_init : Stmt := (inClass (topS 56) 0)
abbrev s_made : Stmt := (topS 70)
abbrev s_fewest : Stmt := (topS 71)
abbrev s_great : Stmt := (topS 76)
abbrev s_team : Stmt := (topS 77)
abbrev s_edge : Stmt := (topS 78)
abbrev s_round : Stmt := (topS 79)
abbrev s_Word_least : Stmt := (inClass (topS 61) 4)
abbrev s_Rule_least_size : Stmt := (inClass (topS 56) 5)
abbrev s_is_size : Stmt := (topS 20)
abbrev s_check_size : Stmt := (topS 21)
abbrev s_is_count : Stmt := (topS 17)
abbrev s_check_team : Stmt := (topS 22)
abbrev s_check_along : Stmt := (topS 47)
abbrev s_check_day : Stmt := (topS 23)
abbrev s_Rule_stander : Stmt := (inClass (topS 56) 3)
abbrev s_Rule_step : Stmt := (inClass (topS 56) 1)
abbrev s_Rule_word : Stmt := (inClass (topS 56) 2)
abbrev s_Word_head : Stmt := (inClass (topS 61) 1)
abbrev s_Word_tail : Stmt := (inClass (topS 61) 3)
abbrev s_stretches : Stmt := (topS 51)
abbrev s_check_seats : Stmt := (topS 37)
abbrev s_stander_mark : Stmt := (topS 36)
abbrev s_seat : Stmt := (topS 39)
abbrev s_contrary_marks : Stmt := (topS 19)
abbrev s_check_places : Stmt := (topS 63)
abbrev s_Word_mark : Stmt := (inClass (topS 61) 6)
abbrev s_Rule_turned : Stmt := (inClass (topS 56) 4)
abbrev s_turned_if : Stmt := (topS 41)
abbrev s_mark_at : Stmt := (topS 40)
abbrev s_mark_of : Stmt := (topS 35)
abbrev s_marks_from : Stmt := (topS 52)
abbrev s_row : Stmt := (topS 50)
abbrev s_compared : Stmt := (topS 31)
abbrev s_likeness : Stmt := (topS 29)
abbrev s_times_said : Stmt := (topS 30)
abbrev s_times_until : Stmt := (topS 27)
abbrev s_position_said : Stmt := (topS 32)
abbrev s_position_of : Stmt := (topS 28)
abbrev s_stay_at : Stmt := (topS 46)
abbrev s_stander : Stmt := (topS 74)
abbrev s_contrary : Stmt := (topS 72)
abbrev s_at : Stmt := (topS 73)
abbrev s_sign : Stmt := (topS 75)
abbrev s_ends_right : Stmt := (topS 81)
abbrev s_check_rounds : Stmt := (topS 49)
abbrev s_breaks_until : Stmt := (topS 45)
abbrev s_homes_until : Stmt := (topS 44)
abbrev s_stay_right : Stmt := (topS 82)
abbrev s_right : Stmt := (topS 83)
abbrev s_pot : Stmt := (topS 65)
abbrev s_law : Stmt := (topS 84)
def xa_CWord (K : PySem.W.Frag) : Addr := He.ga K "Word"
def xa_CRule (K : PySem.W.Frag) : Addr := He.ga K "Rule"
def xa_Adraw (K : PySem.W.Frag) : Addr := He.ga K "_law_draw"
def xa_Apick (K : PySem.W.Frag) : Addr := He.ga K "_law_pick"
def xa_Amarks (K : PySem.W.Frag) : Addr := He.ga K "_law_marks"
def xa_Amodel (K : PySem.W.Frag) : Addr := He.ga K "_law_model"
def xa_Adrawn (K : PySem.W.Frag) : Addr := He.ga K "_law_drawn"
def xa_Ais_marks (K : PySem.W.Frag) : Addr := He.ga K "is_marks"
def xa_Acheck_part (K : PySem.W.Frag) : Addr := He.ga K "_check_part"
def xa_AWord_init (K : PySem.W.Frag) : Addr := He.ma K (xa_CWord K) "__init__"
def xa_Ais_integer (K : PySem.W.Frag) : Addr := He.ga K "is_integer"
def xa_ARule_init (K : PySem.W.Frag) : Addr := He.ma K (xa_CRule K) "__init__"
def xa_Amade (K : PySem.W.Frag) : Addr := He.ga K "_law_made"
def xa_Afewest (K : PySem.W.Frag) : Addr := He.ga K "_law_fewest"
def xa_Agreat (K : PySem.W.Frag) : Addr := He.ga K "_law_great"
def xa_Ateam (K : PySem.W.Frag) : Addr := He.ga K "_law_team"
def xa_Aedge (K : PySem.W.Frag) : Addr := He.ga K "_law_edge"
def xa_Around (K : PySem.W.Frag) : Addr := He.ga K "_law_round"
def xa_PWord_least (K : PySem.W.Frag) : Addr := He.ma K (xa_CWord K) "least"
def xa_AWord_least (K : PySem.W.Frag) : Addr := rcA K (xa_PWord_least K) "property"
def xa_PRule_least_size (K : PySem.W.Frag) : Addr := He.ma K (xa_CRule K) "least_size"
def xa_ARule_least_size (K : PySem.W.Frag) : Addr := rcA K (xa_PRule_least_size K) "property"
def xa_Ais_size (K : PySem.W.Frag) : Addr := He.ga K "is_size"
def xa_Acheck_size (K : PySem.W.Frag) : Addr := He.ga K "check_size"
def xa_Ais_count (K : PySem.W.Frag) : Addr := He.ga K "is_count"
def xa_Acheck_team (K : PySem.W.Frag) : Addr := He.ga K "check_team"
def xa_Acheck_along (K : PySem.W.Frag) : Addr := He.ga K "check_along"
def xa_Acheck_day (K : PySem.W.Frag) : Addr := He.ga K "check_day"
def xa_PRule_stander (K : PySem.W.Frag) : Addr := He.ma K (xa_CRule K) "stander"
def xa_ARule_stander (K : PySem.W.Frag) : Addr := rcA K (xa_PRule_stander K) "property"
def xa_PRule_step (K : PySem.W.Frag) : Addr := He.ma K (xa_CRule K) "step"
def xa_ARule_step (K : PySem.W.Frag) : Addr := rcA K (xa_PRule_step K) "property"
def xa_PRule_word (K : PySem.W.Frag) : Addr := He.ma K (xa_CRule K) "word"
def xa_ARule_word (K : PySem.W.Frag) : Addr := rcA K (xa_PRule_word K) "property"
def xa_PWord_head (K : PySem.W.Frag) : Addr := He.ma K (xa_CWord K) "head"
def xa_AWord_head (K : PySem.W.Frag) : Addr := rcA K (xa_PWord_head K) "property"
def xa_PWord_tail (K : PySem.W.Frag) : Addr := He.ma K (xa_CWord K) "tail"
def xa_AWord_tail (K : PySem.W.Frag) : Addr := rcA K (xa_PWord_tail K) "property"
def xa_Astretches (K : PySem.W.Frag) : Addr := He.ga K "_stretches"
def xa_Acheck_seats (K : PySem.W.Frag) : Addr := He.ga K "check_seats"
def xa_Astander_mark (K : PySem.W.Frag) : Addr := He.ga K "stander_mark"
def xa_Aseat (K : PySem.W.Frag) : Addr := He.ga K "_seat"
def xa_Acontrary_marks (K : PySem.W.Frag) : Addr := He.ga K "contrary_marks"
def xa_Acheck_places (K : PySem.W.Frag) : Addr := He.ga K "_check_places"
def xa_AWord_mark (K : PySem.W.Frag) : Addr := He.ma K (xa_CWord K) "mark"
def xa_PRule_turned (K : PySem.W.Frag) : Addr := He.ma K (xa_CRule K) "turned"
def xa_ARule_turned (K : PySem.W.Frag) : Addr := rcA K (xa_PRule_turned K) "property"
def xa_Aturned_if (K : PySem.W.Frag) : Addr := He.ga K "_turned_if"
def xa_Amark_at (K : PySem.W.Frag) : Addr := He.ga K "_mark_at"
def xa_Amark_of (K : PySem.W.Frag) : Addr := He.ga K "mark_of"
def xa_Amarks_from (K : PySem.W.Frag) : Addr := He.ga K "_marks_from"
def xa_Arow (K : PySem.W.Frag) : Addr := He.ga K "_row"
def xa_Acompared (K : PySem.W.Frag) : Addr := He.ga K "_compared"
def xa_Alikeness (K : PySem.W.Frag) : Addr := He.ga K "likeness"
def xa_Atimes_said (K : PySem.W.Frag) : Addr := He.ga K "times_said"
def xa_Atimes_until (K : PySem.W.Frag) : Addr := He.ga K "times_until"
def xa_Aposition_said (K : PySem.W.Frag) : Addr := He.ga K "_position_said"
def xa_Aposition_of (K : PySem.W.Frag) : Addr := He.ga K "position_of"
def xa_Astay_at (K : PySem.W.Frag) : Addr := He.ga K "stay_at"
def xa_Astander (K : PySem.W.Frag) : Addr := He.ga K "_law_stander"
def xa_Acontrary (K : PySem.W.Frag) : Addr := He.ga K "_law_contrary"
def xa_Aat (K : PySem.W.Frag) : Addr := He.ga K "_law_at"
def xa_Asign (K : PySem.W.Frag) : Addr := He.ga K "_law_sign"
def xa_Aends_right (K : PySem.W.Frag) : Addr := He.ga K "_law_ends_right"
def xa_Acheck_rounds (K : PySem.W.Frag) : Addr := He.ga K "_check_rounds"
def xa_Abreaks_until (K : PySem.W.Frag) : Addr := He.ga K "breaks_until"
def xa_Ahomes_until (K : PySem.W.Frag) : Addr := He.ga K "homes_until"
def xa_Astay_right (K : PySem.W.Frag) : Addr := He.ga K "_law_stay_right"
def xa_Aright (K : PySem.W.Frag) : Addr := He.ga K "_law_right"
def xa_Apot (K : PySem.W.Frag) : Addr := He.ga K "_law_pot"
def xa_Alaw (K : PySem.W.Frag) : Addr := He.ga K "law"
def xa_TRule_init (K : PySem.W.Frag) : Addr := adV ((dfR K (xa_ARule_init K)).getD .none)
def xa_DCONTRARIES (K : PySem.W.Frag) : Addr := He.ga K "CONTRARIES"
def xa_DCONTRARY_STANDERS (K : PySem.W.Frag) : Addr := He.ga K "CONTRARY_STANDERS"
def xa_DSTANDER_MARKS (K : PySem.W.Frag) : Addr := He.ga K "STANDER_MARKS"
def sv_draw : He.FnW := some ("_law_draw", "_law_draw", defArgs s_draw, .stmts (defBody s_draw), defScope s_draw, mainGlobals, [], builtinsNs)
def sv_pick : He.FnW := some ("_law_pick", "_law_pick", defArgs s_pick, .stmts (defBody s_pick), defScope s_pick, mainGlobals, [], builtinsNs)
def sv_marks : He.FnW := some ("_law_marks", "_law_marks", defArgs s_marks, .stmts (defBody s_marks), defScope s_marks, mainGlobals, [], builtinsNs)
def sv_model : He.FnW := some ("_law_model", "_law_model", defArgs s_model, .stmts (defBody s_model), defScope s_model, mainGlobals, [], builtinsNs)
def sv_drawn : He.FnW := some ("_law_drawn", "_law_drawn", defArgs s_drawn, .stmts (defBody s_drawn), defScope s_drawn, mainGlobals, [], builtinsNs)
def sv_is_marks : He.FnW := some ("is_marks", "is_marks", defArgs s_is_marks, .stmts (defBody s_is_marks), defScope s_is_marks, mainGlobals, [], builtinsNs)
def sv_check_part : He.FnW := some ("_check_part", "_check_part", defArgs s_check_part, .stmts (defBody s_check_part), defScope s_check_part, mainGlobals, [], builtinsNs)
def sv_Word_init : He.FnW := some ("__init__", "Word.__init__", defArgs s_Word_init, .stmts (defBody s_Word_init), defScope s_Word_init, mainGlobals, [], builtinsNs)
def sv_is_integer : He.FnW := some ("is_integer", "is_integer", defArgs s_is_integer, .stmts (defBody s_is_integer), defScope s_is_integer, mainGlobals, [], builtinsNs)
def sv_Rule_init : He.FnW := some ("__init__", "Rule.__init__", defArgs s_Rule_init, .stmts (defBody s_Rule_init), defScope s_Rule_init, mainGlobals, [], builtinsNs)
def sv_made : He.FnW := some ("_law_made", "_law_made", defArgs s_made, .stmts (defBody s_made), defScope s_made, mainGlobals, [], builtinsNs)
def sv_fewest : He.FnW := some ("_law_fewest", "_law_fewest", defArgs s_fewest, .stmts (defBody s_fewest), defScope s_fewest, mainGlobals, [], builtinsNs)
def sv_great : He.FnW := some ("_law_great", "_law_great", defArgs s_great, .stmts (defBody s_great), defScope s_great, mainGlobals, [], builtinsNs)
def sv_team : He.FnW := some ("_law_team", "_law_team", defArgs s_team, .stmts (defBody s_team), defScope s_team, mainGlobals, [], builtinsNs)
def sv_edge : He.FnW := some ("_law_edge", "_law_edge", defArgs s_edge, .stmts (defBody s_edge), defScope s_edge, mainGlobals, [], builtinsNs)
def sv_round : He.FnW := some ("_law_round", "_law_round", defArgs s_round, .stmts (defBody s_round), defScope s_round, mainGlobals, [], builtinsNs)
def sv_Word_least : He.FnW := some ("least", "Word.least", defArgs s_Word_least, .stmts (defBody s_Word_least), defScope s_Word_least, mainGlobals, [], builtinsNs)
def sv_Rule_least_size : He.FnW := some ("least_size", "Rule.least_size", defArgs s_Rule_least_size, .stmts (defBody s_Rule_least_size), defScope s_Rule_least_size, mainGlobals, [], builtinsNs)
def sv_is_size : He.FnW := some ("is_size", "is_size", defArgs s_is_size, .stmts (defBody s_is_size), defScope s_is_size, mainGlobals, [], builtinsNs)
def sv_check_size : He.FnW := some ("check_size", "check_size", defArgs s_check_size, .stmts (defBody s_check_size), defScope s_check_size, mainGlobals, [], builtinsNs)
def sv_is_count : He.FnW := some ("is_count", "is_count", defArgs s_is_count, .stmts (defBody s_is_count), defScope s_is_count, mainGlobals, [], builtinsNs)
def sv_check_team : He.FnW := some ("check_team", "check_team", defArgs s_check_team, .stmts (defBody s_check_team), defScope s_check_team, mainGlobals, [], builtinsNs)
def sv_check_along : He.FnW := some ("_check", "_check", defArgs s_check_along, .stmts (defBody s_check_along), defScope s_check_along, mainGlobals, [], builtinsNs)
def sv_check_day : He.FnW := some ("check_day", "check_day", defArgs s_check_day, .stmts (defBody s_check_day), defScope s_check_day, mainGlobals, [], builtinsNs)
def sv_Rule_stander : He.FnW := some ("stander", "Rule.stander", defArgs s_Rule_stander, .stmts (defBody s_Rule_stander), defScope s_Rule_stander, mainGlobals, [], builtinsNs)
def sv_Rule_step : He.FnW := some ("step", "Rule.step", defArgs s_Rule_step, .stmts (defBody s_Rule_step), defScope s_Rule_step, mainGlobals, [], builtinsNs)
def sv_Rule_word : He.FnW := some ("word", "Rule.word", defArgs s_Rule_word, .stmts (defBody s_Rule_word), defScope s_Rule_word, mainGlobals, [], builtinsNs)
def sv_Word_head : He.FnW := some ("head", "Word.head", defArgs s_Word_head, .stmts (defBody s_Word_head), defScope s_Word_head, mainGlobals, [], builtinsNs)
def sv_Word_tail : He.FnW := some ("tail", "Word.tail", defArgs s_Word_tail, .stmts (defBody s_Word_tail), defScope s_Word_tail, mainGlobals, [], builtinsNs)
def sv_stretches : He.FnW := some ("_stretches", "_stretches", defArgs s_stretches, .stmts (defBody s_stretches), defScope s_stretches, mainGlobals, [], builtinsNs)
def sv_check_seats : He.FnW := some ("_check", "_check", defArgs s_check_seats, .stmts (defBody s_check_seats), defScope s_check_seats, mainGlobals, [], builtinsNs)
def sv_stander_mark : He.FnW := some ("stander_mark", "stander_mark", defArgs s_stander_mark, .stmts (defBody s_stander_mark), defScope s_stander_mark, mainGlobals, [], builtinsNs)
def sv_seat : He.FnW := some ("_seat", "_seat", defArgs s_seat, .stmts (defBody s_seat), defScope s_seat, mainGlobals, [], builtinsNs)
def sv_contrary_marks : He.FnW := some ("contrary_marks", "contrary_marks", defArgs s_contrary_marks, .stmts (defBody s_contrary_marks), defScope s_contrary_marks, mainGlobals, [], builtinsNs)
def sv_check_places : He.FnW := some ("_check_places", "_check_places", defArgs s_check_places, .stmts (defBody s_check_places), defScope s_check_places, mainGlobals, [], builtinsNs)
def sv_Word_mark : He.FnW := some ("mark", "Word.mark", defArgs s_Word_mark, .stmts (defBody s_Word_mark), defScope s_Word_mark, mainGlobals, [], builtinsNs)
def sv_Rule_turned : He.FnW := some ("turned", "Rule.turned", defArgs s_Rule_turned, .stmts (defBody s_Rule_turned), defScope s_Rule_turned, mainGlobals, [], builtinsNs)
def sv_turned_if : He.FnW := some ("_turned_if", "_turned_if", defArgs s_turned_if, .stmts (defBody s_turned_if), defScope s_turned_if, mainGlobals, [], builtinsNs)
def sv_mark_at : He.FnW := some ("_mark_at", "_mark_at", defArgs s_mark_at, .stmts (defBody s_mark_at), defScope s_mark_at, mainGlobals, [], builtinsNs)
def sv_mark_of : He.FnW := some ("mark_of", "mark_of", defArgs s_mark_of, .stmts (defBody s_mark_of), defScope s_mark_of, mainGlobals, [], builtinsNs)
def sv_marks_from : He.FnW := some ("_marks_from", "_marks_from", defArgs s_marks_from, .stmts (defBody s_marks_from), defScope s_marks_from, mainGlobals, [], builtinsNs)
def sv_row : He.FnW := some ("_row", "_row", defArgs s_row, .stmts (defBody s_row), defScope s_row, mainGlobals, [], builtinsNs)
def sv_compared : He.FnW := some ("_compared", "_compared", defArgs s_compared, .stmts (defBody s_compared), defScope s_compared, mainGlobals, [], builtinsNs)
def sv_likeness : He.FnW := some ("likeness", "likeness", defArgs s_likeness, .stmts (defBody s_likeness), defScope s_likeness, mainGlobals, [], builtinsNs)
def sv_times_said : He.FnW := some ("times_said", "times_said", defArgs s_times_said, .stmts (defBody s_times_said), defScope s_times_said, mainGlobals, [], builtinsNs)
def sv_times_until : He.FnW := some ("times_until", "times_until", defArgs s_times_until, .stmts (defBody s_times_until), defScope s_times_until, mainGlobals, [], builtinsNs)
def sv_position_said : He.FnW := some ("_position_said", "_position_said", defArgs s_position_said, .stmts (defBody s_position_said), defScope s_position_said, mainGlobals, [], builtinsNs)
def sv_position_of : He.FnW := some ("position_of", "position_of", defArgs s_position_of, .stmts (defBody s_position_of), defScope s_position_of, mainGlobals, [], builtinsNs)
def sv_stay_at : He.FnW := some ("stay_at", "stay_at", defArgs s_stay_at, .stmts (defBody s_stay_at), defScope s_stay_at, mainGlobals, [], builtinsNs)
def sv_stander : He.FnW := some ("_law_stander", "_law_stander", defArgs s_stander, .stmts (defBody s_stander), defScope s_stander, mainGlobals, [], builtinsNs)
def sv_contrary : He.FnW := some ("_law_contrary", "_law_contrary", defArgs s_contrary, .stmts (defBody s_contrary), defScope s_contrary, mainGlobals, [], builtinsNs)
def sv_at : He.FnW := some ("_law_at", "_law_at", defArgs s_at, .stmts (defBody s_at), defScope s_at, mainGlobals, [], builtinsNs)
def sv_sign : He.FnW := some ("_law_sign", "_law_sign", defArgs s_sign, .stmts (defBody s_sign), defScope s_sign, mainGlobals, [], builtinsNs)
def sv_ends_right : He.FnW := some ("_law_ends_right", "_law_ends_right", defArgs s_ends_right, .stmts (defBody s_ends_right), defScope s_ends_right, mainGlobals, [], builtinsNs)
def sv_check_rounds : He.FnW := some ("_check_rounds", "_check_rounds", defArgs s_check_rounds, .stmts (defBody s_check_rounds), defScope s_check_rounds, mainGlobals, [], builtinsNs)
def sv_breaks_until : He.FnW := some ("breaks_until", "breaks_until", defArgs s_breaks_until, .stmts (defBody s_breaks_until), defScope s_breaks_until, mainGlobals, [], builtinsNs)
def sv_homes_until : He.FnW := some ("homes_until", "homes_until", defArgs s_homes_until, .stmts (defBody s_homes_until), defScope s_homes_until, mainGlobals, [], builtinsNs)
def sv_stay_right : He.FnW := some ("_law_stay_right", "_law_stay_right", defArgs s_stay_right, .stmts (defBody s_stay_right), defScope s_stay_right, mainGlobals, [], builtinsNs)
def sv_right : He.FnW := some ("_law_right", "_law_right", defArgs s_right, .stmts (defBody s_right), defScope s_right, mainGlobals, [], builtinsNs)
def sv_pot : He.FnW := some ("_law_pot", "_law_pot", defArgs s_pot, .stmts (defBody s_pot), defScope s_pot, mainGlobals, [], builtinsNs)
def sv_law : He.FnW := some ("law", "law", defArgs s_law, .stmts (defBody s_law), defScope s_law, mainGlobals, [], builtinsNs)
def ts_CONTRARIES : He.Tab := (xa_DCONTRARIES, [("h" : Str), ("a" : Str)])
def ts_CONTRARY_STANDERS : He.Tab := (xa_DCONTRARY_STANDERS, [("home" : Str), ("away" : Str), ("even" : Str), ("odd" : Str)])
def ts_STANDER_MARKS : He.Tab := (xa_DSTANDER_MARKS, [("home" : Str), ("away" : Str), ("even" : Str), ("odd" : Str)])
def gx0 (K : PySem.W.Frag) : Bool := decide ((PySem.W.nsIn K mainGlobals "_law_draw" = some (some (.ref (xa_Adraw K)))) ∧ (dfR K (xa_Adraw K) = some .none) ∧ (PySem.W.codeIn K (cdR K (xa_Adraw K)) "_law_draw" = true) ∧ (PySem.W.keepIn K (.ref (xa_Adraw K)) = true) ∧ (PySem.W.nsIn K mainGlobals "_law_pick" = some (some (.ref (xa_Apick K)))) ∧ (dfR K (xa_Apick K) = some .none) ∧ (PySem.W.codeIn K (cdR K (xa_Apick K)) "_law_pick" = true) ∧ (PySem.W.keepIn K (.ref (xa_Apick K)) = true) ∧ (PySem.W.nsIn K mainGlobals "_law_marks" = some (some (.ref (xa_Amarks K)))) ∧ (dfR K (xa_Amarks K) = some .none))
def gx1 (K : PySem.W.Frag) : Bool := decide ((PySem.W.codeIn K (cdR K (xa_Amarks K)) "_law_marks" = true) ∧ (PySem.W.keepIn K (.ref (xa_Amarks K)) = true) ∧ (PySem.W.nsIn K mainGlobals "_law_model" = some (some (.ref (xa_Amodel K)))) ∧ (dfR K (xa_Amodel K) = some .none) ∧ (PySem.W.codeIn K (cdR K (xa_Amodel K)) "_law_model" = true) ∧ (PySem.W.keepIn K (.ref (xa_Amodel K)) = true) ∧ (PySem.W.nsIn K mainGlobals "_law_drawn" = some (some (.ref (xa_Adrawn K)))) ∧ (dfR K (xa_Adrawn K) = some .none) ∧ (PySem.W.codeIn K (cdR K (xa_Adrawn K)) "_law_drawn" = true) ∧ (PySem.W.keepIn K (.ref (xa_Adrawn K)) = true))
def gx2 (K : PySem.W.Frag) : Bool := decide ((PySem.W.nsIn K mainGlobals "is_marks" = some (some (.ref (xa_Ais_marks K)))) ∧ (dfR K (xa_Ais_marks K) = some .none) ∧ (PySem.W.codeIn K (cdR K (xa_Ais_marks K)) "is_marks" = true) ∧ (PySem.W.keepIn K (.ref (xa_Ais_marks K)) = true) ∧ (PySem.W.nsIn K mainGlobals "_check_part" = some (some (.ref (xa_Acheck_part K)))) ∧ (dfR K (xa_Acheck_part K) = some .none) ∧ (PySem.W.codeIn K (cdR K (xa_Acheck_part K)) "_check_part" = true) ∧ (PySem.W.keepIn K (.ref (xa_Acheck_part K)) = true) ∧ (PySem.W.findIn K (.ref (xa_CWord K)) "__init__" = some (some (.ref (xa_AWord_init K)))) ∧ (PySem.W.isFn K (.ref (xa_AWord_init K)) = true))
def gx3 (K : PySem.W.Frag) : Bool := decide ((dfR K (xa_AWord_init K) = some .none) ∧ (PySem.W.codeIn K (cdR K (xa_AWord_init K)) "Word.__init__" = true) ∧ (PySem.W.keepIn K (.ref (xa_AWord_init K)) = true) ∧ (PySem.W.nsIn K mainGlobals "is_integer" = some (some (.ref (xa_Ais_integer K)))) ∧ (dfR K (xa_Ais_integer K) = some .none) ∧ (PySem.W.codeIn K (cdR K (xa_Ais_integer K)) "is_integer" = true) ∧ (PySem.W.keepIn K (.ref (xa_Ais_integer K)) = true) ∧ (PySem.W.findIn K (.ref (xa_CRule K)) "__init__" = some (some (.ref (xa_ARule_init K)))) ∧ (PySem.W.isFn K (.ref (xa_ARule_init K)) = true) ∧ (tuR K (xa_TRule_init K) = some [.bool false]))
def gx4 (K : PySem.W.Frag) : Bool := decide ((dfR K (xa_ARule_init K) = some (.ref (xa_TRule_init K))) ∧ (PySem.W.codeIn K (cdR K (xa_ARule_init K)) "Rule.__init__" = true) ∧ (PySem.W.keepIn K (.ref (xa_ARule_init K)) = true) ∧ (PySem.W.nsIn K mainGlobals "_law_made" = some (some (.ref (xa_Amade K)))) ∧ (dfR K (xa_Amade K) = some .none) ∧ (PySem.W.codeIn K (cdR K (xa_Amade K)) "_law_made" = true) ∧ (PySem.W.keepIn K (.ref (xa_Amade K)) = true) ∧ (PySem.W.nsIn K mainGlobals "_law_fewest" = some (some (.ref (xa_Afewest K)))) ∧ (dfR K (xa_Afewest K) = some .none) ∧ (PySem.W.codeIn K (cdR K (xa_Afewest K)) "_law_fewest" = true))
def gx5 (K : PySem.W.Frag) : Bool := decide ((PySem.W.keepIn K (.ref (xa_Afewest K)) = true) ∧ (PySem.W.nsIn K mainGlobals "_law_great" = some (some (.ref (xa_Agreat K)))) ∧ (dfR K (xa_Agreat K) = some .none) ∧ (PySem.W.codeIn K (cdR K (xa_Agreat K)) "_law_great" = true) ∧ (PySem.W.keepIn K (.ref (xa_Agreat K)) = true) ∧ (PySem.W.nsIn K mainGlobals "_law_team" = some (some (.ref (xa_Ateam K)))) ∧ (dfR K (xa_Ateam K) = some .none) ∧ (PySem.W.codeIn K (cdR K (xa_Ateam K)) "_law_team" = true) ∧ (PySem.W.keepIn K (.ref (xa_Ateam K)) = true) ∧ (PySem.W.nsIn K mainGlobals "_law_edge" = some (some (.ref (xa_Aedge K)))))
def gx6 (K : PySem.W.Frag) : Bool := decide ((dfR K (xa_Aedge K) = some .none) ∧ (PySem.W.codeIn K (cdR K (xa_Aedge K)) "_law_edge" = true) ∧ (PySem.W.keepIn K (.ref (xa_Aedge K)) = true) ∧ (PySem.W.nsIn K mainGlobals "_law_round" = some (some (.ref (xa_Around K)))) ∧ (dfR K (xa_Around K) = some .none) ∧ (PySem.W.codeIn K (cdR K (xa_Around K)) "_law_round" = true) ∧ (PySem.W.keepIn K (.ref (xa_Around K)) = true) ∧ (PySem.W.findIn K (.ref (xa_CWord K)) "least" = some (some (.ref (xa_PWord_least K)))) ∧ (PySem.W.specialIn K (.ref (xa_PWord_least K)) "__get__" = some (some (.builtin "property.__get__"))) ∧ (PySem.W.takesIn K (.ref (xa_PWord_least K)) = some true))
def gx7 (K : PySem.W.Frag) : Bool := decide ((rcB K (xa_PWord_least K) "property" = true) ∧ (dfR K (xa_AWord_least K) = some .none) ∧ (PySem.W.codeIn K (cdR K (xa_AWord_least K)) "Word.least" = true) ∧ (PySem.W.keepIn K (.ref (xa_AWord_least K)) = true) ∧ (PySem.W.findIn K (.ref (xa_CRule K)) "least_size" = some (some (.ref (xa_PRule_least_size K)))) ∧ (PySem.W.specialIn K (.ref (xa_PRule_least_size K)) "__get__" = some (some (.builtin "property.__get__"))) ∧ (PySem.W.takesIn K (.ref (xa_PRule_least_size K)) = some true) ∧ (rcB K (xa_PRule_least_size K) "property" = true) ∧ (dfR K (xa_ARule_least_size K) = some .none) ∧ (PySem.W.codeIn K (cdR K (xa_ARule_least_size K)) "Rule.least_size" = true))
def gx8 (K : PySem.W.Frag) : Bool := decide ((PySem.W.keepIn K (.ref (xa_ARule_least_size K)) = true) ∧ (PySem.W.nsIn K mainGlobals "is_size" = some (some (.ref (xa_Ais_size K)))) ∧ (dfR K (xa_Ais_size K) = some .none) ∧ (PySem.W.codeIn K (cdR K (xa_Ais_size K)) "is_size" = true) ∧ (PySem.W.keepIn K (.ref (xa_Ais_size K)) = true) ∧ (PySem.W.nsIn K mainGlobals "check_size" = some (some (.ref (xa_Acheck_size K)))) ∧ (dfR K (xa_Acheck_size K) = some .none) ∧ (PySem.W.codeIn K (cdR K (xa_Acheck_size K)) "check_size" = true) ∧ (PySem.W.keepIn K (.ref (xa_Acheck_size K)) = true) ∧ (PySem.W.nsIn K mainGlobals "is_count" = some (some (.ref (xa_Ais_count K)))))
def gx9 (K : PySem.W.Frag) : Bool := decide ((dfR K (xa_Ais_count K) = some .none) ∧ (PySem.W.codeIn K (cdR K (xa_Ais_count K)) "is_count" = true) ∧ (PySem.W.keepIn K (.ref (xa_Ais_count K)) = true) ∧ (PySem.W.nsIn K mainGlobals "check_team" = some (some (.ref (xa_Acheck_team K)))) ∧ (dfR K (xa_Acheck_team K) = some .none) ∧ (PySem.W.codeIn K (cdR K (xa_Acheck_team K)) "check_team" = true) ∧ (PySem.W.keepIn K (.ref (xa_Acheck_team K)) = true) ∧ (PySem.W.nsIn K mainGlobals "check_along" = some (some (.ref (xa_Acheck_along K)))) ∧ (dfR K (xa_Acheck_along K) = some .none) ∧ (PySem.W.codeIn K (cdR K (xa_Acheck_along K)) "_check" = true))
def gx10 (K : PySem.W.Frag) : Bool := decide ((PySem.W.keepIn K (.ref (xa_Acheck_along K)) = true) ∧ (PySem.W.nsIn K mainGlobals "check_day" = some (some (.ref (xa_Acheck_day K)))) ∧ (dfR K (xa_Acheck_day K) = some .none) ∧ (PySem.W.codeIn K (cdR K (xa_Acheck_day K)) "check_day" = true) ∧ (PySem.W.keepIn K (.ref (xa_Acheck_day K)) = true) ∧ (PySem.W.findIn K (.ref (xa_CRule K)) "stander" = some (some (.ref (xa_PRule_stander K)))) ∧ (PySem.W.specialIn K (.ref (xa_PRule_stander K)) "__get__" = some (some (.builtin "property.__get__"))) ∧ (PySem.W.takesIn K (.ref (xa_PRule_stander K)) = some true) ∧ (rcB K (xa_PRule_stander K) "property" = true) ∧ (dfR K (xa_ARule_stander K) = some .none))
def gx11 (K : PySem.W.Frag) : Bool := decide ((PySem.W.codeIn K (cdR K (xa_ARule_stander K)) "Rule.stander" = true) ∧ (PySem.W.keepIn K (.ref (xa_ARule_stander K)) = true) ∧ (PySem.W.findIn K (.ref (xa_CRule K)) "step" = some (some (.ref (xa_PRule_step K)))) ∧ (PySem.W.specialIn K (.ref (xa_PRule_step K)) "__get__" = some (some (.builtin "property.__get__"))) ∧ (PySem.W.takesIn K (.ref (xa_PRule_step K)) = some true) ∧ (rcB K (xa_PRule_step K) "property" = true) ∧ (dfR K (xa_ARule_step K) = some .none) ∧ (PySem.W.codeIn K (cdR K (xa_ARule_step K)) "Rule.step" = true) ∧ (PySem.W.keepIn K (.ref (xa_ARule_step K)) = true) ∧ (PySem.W.findIn K (.ref (xa_CRule K)) "word" = some (some (.ref (xa_PRule_word K)))))
def gx12 (K : PySem.W.Frag) : Bool := decide ((PySem.W.specialIn K (.ref (xa_PRule_word K)) "__get__" = some (some (.builtin "property.__get__"))) ∧ (PySem.W.takesIn K (.ref (xa_PRule_word K)) = some true) ∧ (rcB K (xa_PRule_word K) "property" = true) ∧ (dfR K (xa_ARule_word K) = some .none) ∧ (PySem.W.codeIn K (cdR K (xa_ARule_word K)) "Rule.word" = true) ∧ (PySem.W.keepIn K (.ref (xa_ARule_word K)) = true) ∧ (PySem.W.findIn K (.ref (xa_CWord K)) "head" = some (some (.ref (xa_PWord_head K)))) ∧ (PySem.W.specialIn K (.ref (xa_PWord_head K)) "__get__" = some (some (.builtin "property.__get__"))) ∧ (PySem.W.takesIn K (.ref (xa_PWord_head K)) = some true) ∧ (rcB K (xa_PWord_head K) "property" = true))
def gx13 (K : PySem.W.Frag) : Bool := decide ((dfR K (xa_AWord_head K) = some .none) ∧ (PySem.W.codeIn K (cdR K (xa_AWord_head K)) "Word.head" = true) ∧ (PySem.W.keepIn K (.ref (xa_AWord_head K)) = true) ∧ (PySem.W.findIn K (.ref (xa_CWord K)) "tail" = some (some (.ref (xa_PWord_tail K)))) ∧ (PySem.W.specialIn K (.ref (xa_PWord_tail K)) "__get__" = some (some (.builtin "property.__get__"))) ∧ (PySem.W.takesIn K (.ref (xa_PWord_tail K)) = some true) ∧ (rcB K (xa_PWord_tail K) "property" = true) ∧ (dfR K (xa_AWord_tail K) = some .none) ∧ (PySem.W.codeIn K (cdR K (xa_AWord_tail K)) "Word.tail" = true) ∧ (PySem.W.keepIn K (.ref (xa_AWord_tail K)) = true))
def gx14 (K : PySem.W.Frag) : Bool := decide ((PySem.W.nsIn K mainGlobals "_stretches" = some (some (.ref (xa_Astretches K)))) ∧ (dfR K (xa_Astretches K) = some .none) ∧ (PySem.W.codeIn K (cdR K (xa_Astretches K)) "_stretches" = true) ∧ (PySem.W.keepIn K (.ref (xa_Astretches K)) = true) ∧ (PySem.W.nsIn K mainGlobals "check_seats" = some (some (.ref (xa_Acheck_seats K)))) ∧ (dfR K (xa_Acheck_seats K) = some .none) ∧ (PySem.W.codeIn K (cdR K (xa_Acheck_seats K)) "_check" = true) ∧ (PySem.W.keepIn K (.ref (xa_Acheck_seats K)) = true) ∧ (PySem.W.nsIn K mainGlobals "stander_mark" = some (some (.ref (xa_Astander_mark K)))) ∧ (dfR K (xa_Astander_mark K) = some .none))
def gx15 (K : PySem.W.Frag) : Bool := decide ((PySem.W.codeIn K (cdR K (xa_Astander_mark K)) "stander_mark" = true) ∧ (PySem.W.keepIn K (.ref (xa_Astander_mark K)) = true) ∧ (PySem.W.nsIn K mainGlobals "_seat" = some (some (.ref (xa_Aseat K)))) ∧ (dfR K (xa_Aseat K) = some .none) ∧ (PySem.W.codeIn K (cdR K (xa_Aseat K)) "_seat" = true) ∧ (PySem.W.keepIn K (.ref (xa_Aseat K)) = true) ∧ (PySem.W.nsIn K mainGlobals "contrary_marks" = some (some (.ref (xa_Acontrary_marks K)))) ∧ (dfR K (xa_Acontrary_marks K) = some .none) ∧ (PySem.W.codeIn K (cdR K (xa_Acontrary_marks K)) "contrary_marks" = true) ∧ (PySem.W.keepIn K (.ref (xa_Acontrary_marks K)) = true))
def gx16 (K : PySem.W.Frag) : Bool := decide ((PySem.W.nsIn K mainGlobals "_check_places" = some (some (.ref (xa_Acheck_places K)))) ∧ (dfR K (xa_Acheck_places K) = some .none) ∧ (PySem.W.codeIn K (cdR K (xa_Acheck_places K)) "_check_places" = true) ∧ (PySem.W.keepIn K (.ref (xa_Acheck_places K)) = true) ∧ (PySem.W.findIn K (.ref (xa_CWord K)) "mark" = some (some (.ref (xa_AWord_mark K)))) ∧ (PySem.W.isFn K (.ref (xa_AWord_mark K)) = true) ∧ (dfR K (xa_AWord_mark K) = some .none) ∧ (PySem.W.codeIn K (cdR K (xa_AWord_mark K)) "Word.mark" = true) ∧ (PySem.W.keepIn K (.ref (xa_AWord_mark K)) = true) ∧ (PySem.W.findIn K (.ref (xa_CRule K)) "turned" = some (some (.ref (xa_PRule_turned K)))))
def gx17 (K : PySem.W.Frag) : Bool := decide ((PySem.W.specialIn K (.ref (xa_PRule_turned K)) "__get__" = some (some (.builtin "property.__get__"))) ∧ (PySem.W.takesIn K (.ref (xa_PRule_turned K)) = some true) ∧ (rcB K (xa_PRule_turned K) "property" = true) ∧ (dfR K (xa_ARule_turned K) = some .none) ∧ (PySem.W.codeIn K (cdR K (xa_ARule_turned K)) "Rule.turned" = true) ∧ (PySem.W.keepIn K (.ref (xa_ARule_turned K)) = true) ∧ (PySem.W.nsIn K mainGlobals "_turned_if" = some (some (.ref (xa_Aturned_if K)))) ∧ (dfR K (xa_Aturned_if K) = some .none) ∧ (PySem.W.codeIn K (cdR K (xa_Aturned_if K)) "_turned_if" = true) ∧ (PySem.W.keepIn K (.ref (xa_Aturned_if K)) = true))
def gx18 (K : PySem.W.Frag) : Bool := decide ((PySem.W.nsIn K mainGlobals "_mark_at" = some (some (.ref (xa_Amark_at K)))) ∧ (dfR K (xa_Amark_at K) = some .none) ∧ (PySem.W.codeIn K (cdR K (xa_Amark_at K)) "_mark_at" = true) ∧ (PySem.W.keepIn K (.ref (xa_Amark_at K)) = true) ∧ (PySem.W.nsIn K mainGlobals "mark_of" = some (some (.ref (xa_Amark_of K)))) ∧ (dfR K (xa_Amark_of K) = some .none) ∧ (PySem.W.codeIn K (cdR K (xa_Amark_of K)) "mark_of" = true) ∧ (PySem.W.keepIn K (.ref (xa_Amark_of K)) = true) ∧ (PySem.W.nsIn K mainGlobals "_marks_from" = some (some (.ref (xa_Amarks_from K)))) ∧ (dfR K (xa_Amarks_from K) = some .none))
def gx19 (K : PySem.W.Frag) : Bool := decide ((PySem.W.codeIn K (cdR K (xa_Amarks_from K)) "_marks_from" = true) ∧ (PySem.W.keepIn K (.ref (xa_Amarks_from K)) = true) ∧ (PySem.W.nsIn K mainGlobals "_row" = some (some (.ref (xa_Arow K)))) ∧ (dfR K (xa_Arow K) = some .none) ∧ (PySem.W.codeIn K (cdR K (xa_Arow K)) "_row" = true) ∧ (PySem.W.keepIn K (.ref (xa_Arow K)) = true) ∧ (PySem.W.nsIn K mainGlobals "_compared" = some (some (.ref (xa_Acompared K)))) ∧ (dfR K (xa_Acompared K) = some .none) ∧ (PySem.W.codeIn K (cdR K (xa_Acompared K)) "_compared" = true) ∧ (PySem.W.keepIn K (.ref (xa_Acompared K)) = true))
def gx20 (K : PySem.W.Frag) : Bool := decide ((PySem.W.nsIn K mainGlobals "likeness" = some (some (.ref (xa_Alikeness K)))) ∧ (dfR K (xa_Alikeness K) = some .none) ∧ (PySem.W.codeIn K (cdR K (xa_Alikeness K)) "likeness" = true) ∧ (PySem.W.keepIn K (.ref (xa_Alikeness K)) = true) ∧ (PySem.W.nsIn K mainGlobals "times_said" = some (some (.ref (xa_Atimes_said K)))) ∧ (dfR K (xa_Atimes_said K) = some .none) ∧ (PySem.W.codeIn K (cdR K (xa_Atimes_said K)) "times_said" = true) ∧ (PySem.W.keepIn K (.ref (xa_Atimes_said K)) = true) ∧ (PySem.W.nsIn K mainGlobals "times_until" = some (some (.ref (xa_Atimes_until K)))) ∧ (dfR K (xa_Atimes_until K) = some .none))
def gx21 (K : PySem.W.Frag) : Bool := decide ((PySem.W.codeIn K (cdR K (xa_Atimes_until K)) "times_until" = true) ∧ (PySem.W.keepIn K (.ref (xa_Atimes_until K)) = true) ∧ (PySem.W.nsIn K mainGlobals "_position_said" = some (some (.ref (xa_Aposition_said K)))) ∧ (dfR K (xa_Aposition_said K) = some .none) ∧ (PySem.W.codeIn K (cdR K (xa_Aposition_said K)) "_position_said" = true) ∧ (PySem.W.keepIn K (.ref (xa_Aposition_said K)) = true) ∧ (PySem.W.nsIn K mainGlobals "position_of" = some (some (.ref (xa_Aposition_of K)))) ∧ (dfR K (xa_Aposition_of K) = some .none) ∧ (PySem.W.codeIn K (cdR K (xa_Aposition_of K)) "position_of" = true) ∧ (PySem.W.keepIn K (.ref (xa_Aposition_of K)) = true))
def gx22 (K : PySem.W.Frag) : Bool := decide ((PySem.W.nsIn K mainGlobals "stay_at" = some (some (.ref (xa_Astay_at K)))) ∧ (dfR K (xa_Astay_at K) = some .none) ∧ (PySem.W.codeIn K (cdR K (xa_Astay_at K)) "stay_at" = true) ∧ (PySem.W.keepIn K (.ref (xa_Astay_at K)) = true) ∧ (PySem.W.nsIn K mainGlobals "_law_stander" = some (some (.ref (xa_Astander K)))) ∧ (dfR K (xa_Astander K) = some .none) ∧ (PySem.W.codeIn K (cdR K (xa_Astander K)) "_law_stander" = true) ∧ (PySem.W.keepIn K (.ref (xa_Astander K)) = true) ∧ (PySem.W.nsIn K mainGlobals "_law_contrary" = some (some (.ref (xa_Acontrary K)))) ∧ (dfR K (xa_Acontrary K) = some .none))
def gx23 (K : PySem.W.Frag) : Bool := decide ((PySem.W.codeIn K (cdR K (xa_Acontrary K)) "_law_contrary" = true) ∧ (PySem.W.keepIn K (.ref (xa_Acontrary K)) = true) ∧ (PySem.W.nsIn K mainGlobals "_law_at" = some (some (.ref (xa_Aat K)))) ∧ (dfR K (xa_Aat K) = some .none) ∧ (PySem.W.codeIn K (cdR K (xa_Aat K)) "_law_at" = true) ∧ (PySem.W.keepIn K (.ref (xa_Aat K)) = true) ∧ (PySem.W.nsIn K mainGlobals "_law_sign" = some (some (.ref (xa_Asign K)))) ∧ (dfR K (xa_Asign K) = some .none) ∧ (PySem.W.codeIn K (cdR K (xa_Asign K)) "_law_sign" = true) ∧ (PySem.W.keepIn K (.ref (xa_Asign K)) = true))
def gx24 (K : PySem.W.Frag) : Bool := decide ((PySem.W.nsIn K mainGlobals "_law_ends_right" = some (some (.ref (xa_Aends_right K)))) ∧ (dfR K (xa_Aends_right K) = some .none) ∧ (PySem.W.codeIn K (cdR K (xa_Aends_right K)) "_law_ends_right" = true) ∧ (PySem.W.keepIn K (.ref (xa_Aends_right K)) = true) ∧ (PySem.W.nsIn K mainGlobals "_check_rounds" = some (some (.ref (xa_Acheck_rounds K)))) ∧ (dfR K (xa_Acheck_rounds K) = some .none) ∧ (PySem.W.codeIn K (cdR K (xa_Acheck_rounds K)) "_check_rounds" = true) ∧ (PySem.W.keepIn K (.ref (xa_Acheck_rounds K)) = true) ∧ (PySem.W.nsIn K mainGlobals "breaks_until" = some (some (.ref (xa_Abreaks_until K)))) ∧ (dfR K (xa_Abreaks_until K) = some .none))
def gx25 (K : PySem.W.Frag) : Bool := decide ((PySem.W.codeIn K (cdR K (xa_Abreaks_until K)) "breaks_until" = true) ∧ (PySem.W.keepIn K (.ref (xa_Abreaks_until K)) = true) ∧ (PySem.W.nsIn K mainGlobals "homes_until" = some (some (.ref (xa_Ahomes_until K)))) ∧ (dfR K (xa_Ahomes_until K) = some .none) ∧ (PySem.W.codeIn K (cdR K (xa_Ahomes_until K)) "homes_until" = true) ∧ (PySem.W.keepIn K (.ref (xa_Ahomes_until K)) = true) ∧ (PySem.W.nsIn K mainGlobals "_law_stay_right" = some (some (.ref (xa_Astay_right K)))) ∧ (dfR K (xa_Astay_right K) = some .none) ∧ (PySem.W.codeIn K (cdR K (xa_Astay_right K)) "_law_stay_right" = true) ∧ (PySem.W.keepIn K (.ref (xa_Astay_right K)) = true))
def gx26 (K : PySem.W.Frag) : Bool := decide ((PySem.W.nsIn K mainGlobals "_law_right" = some (some (.ref (xa_Aright K)))) ∧ (dfR K (xa_Aright K) = some .none) ∧ (PySem.W.codeIn K (cdR K (xa_Aright K)) "_law_right" = true) ∧ (PySem.W.keepIn K (.ref (xa_Aright K)) = true) ∧ (PySem.W.nsIn K mainGlobals "_law_pot" = some (some (.ref (xa_Apot K)))) ∧ (dfR K (xa_Apot K) = some .none) ∧ (PySem.W.codeIn K (cdR K (xa_Apot K)) "_law_pot" = true) ∧ (PySem.W.keepIn K (.ref (xa_Apot K)) = true) ∧ (PySem.W.nsIn K mainGlobals "law" = some (some (.ref (xa_Alaw K)))) ∧ (dfR K (xa_Alaw K) = some .none))
def gx27 (K : PySem.W.Frag) : Bool := decide ((PySem.W.codeIn K (cdR K (xa_Alaw K)) "law" = true) ∧ (PySem.W.keepIn K (.ref (xa_Alaw K)) = true) ∧ (([] : List Addr).Nodup) ∧ (PySem.W.nsIn K mainGlobals "Word" = some (some (.ref (xa_CWord K)))) ∧ (PySem.W.plainGet K (xa_CWord K) Str.empty = true) ∧ (PySem.W.hasDictIn K (xa_CWord K) = true) ∧ (PySem.W.plainOver K (xa_CWord K) = true) ∧ (PySem.W.findIn K (.ref (xa_CWord K)) "__setattr__" = some (some (.builtin "object.__setattr__"))) ∧ (PySem.W.makesIn K (xa_CWord K) = true) ∧ (PySem.W.keepIn K (.ref (xa_CWord K)) = true))
def gx28 (K : PySem.W.Frag) : Bool := decide ((PySem.W.findIn K (.ref (xa_CWord K)) "_head" = some none) ∧ (PySem.W.findIn K (.ref (xa_CWord K)) "_middle" = some none) ∧ (PySem.W.findIn K (.ref (xa_CWord K)) "_tail" = some none) ∧ (PySem.W.nsIn K mainGlobals "Rule" = some (some (.ref (xa_CRule K)))) ∧ (PySem.W.plainGet K (xa_CRule K) Str.empty = true) ∧ (PySem.W.hasDictIn K (xa_CRule K) = true) ∧ (PySem.W.plainOver K (xa_CRule K) = true) ∧ (PySem.W.findIn K (.ref (xa_CRule K)) "__setattr__" = some (some (.builtin "object.__setattr__"))) ∧ (PySem.W.makesIn K (xa_CRule K) = true) ∧ (PySem.W.keepIn K (.ref (xa_CRule K)) = true))
def gx29 (K : PySem.W.Frag) : Bool := decide ((PySem.W.findIn K (.ref (xa_CRule K)) "_step" = some none) ∧ (PySem.W.findIn K (.ref (xa_CRule K)) "_word" = some none) ∧ (PySem.W.findIn K (.ref (xa_CRule K)) "_stander" = some none) ∧ (PySem.W.findIn K (.ref (xa_CRule K)) "_turned" = some none) ∧ (PySem.W.nsIn K mainGlobals "CONTRARIES" = some (some (.ref (xa_DCONTRARIES K)))) ∧ (PySem.W.nsIn K (xa_DCONTRARIES K) "a" = some (some (.str "h" (tkI (PySem.W.nsIn K (xa_DCONTRARIES K) "a"))))) ∧ (PySem.W.nsIn K (xa_DCONTRARIES K) "h" = some (some (.str "a" (tkI (PySem.W.nsIn K (xa_DCONTRARIES K) "h"))))) ∧ (PySem.W.nsIn K mainGlobals "CONTRARY_STANDERS" = some (some (.ref (xa_DCONTRARY_STANDERS K)))) ∧ (PySem.W.nsIn K (xa_DCONTRARY_STANDERS K) "odd" = some (some (.str "even" (tkI (PySem.W.nsIn K (xa_DCONTRARY_STANDERS K) "odd"))))) ∧ (PySem.W.nsIn K (xa_DCONTRARY_STANDERS K) "even" = some (some (.str "odd" (tkI (PySem.W.nsIn K (xa_DCONTRARY_STANDERS K) "even"))))))
def gx30 (K : PySem.W.Frag) : Bool := decide ((PySem.W.nsIn K (xa_DCONTRARY_STANDERS K) "away" = some (some (.str "home" (tkI (PySem.W.nsIn K (xa_DCONTRARY_STANDERS K) "away"))))) ∧ (PySem.W.nsIn K (xa_DCONTRARY_STANDERS K) "home" = some (some (.str "away" (tkI (PySem.W.nsIn K (xa_DCONTRARY_STANDERS K) "home"))))) ∧ (PySem.W.nsIn K mainGlobals "STANDER_MARKS" = some (some (.ref (xa_DSTANDER_MARKS K)))) ∧ (PySem.W.nsIn K (xa_DSTANDER_MARKS K) "odd" = some (some (.str "ah" (tkI (PySem.W.nsIn K (xa_DSTANDER_MARKS K) "odd"))))) ∧ (PySem.W.nsIn K (xa_DSTANDER_MARKS K) "even" = some (some (.str "ha" (tkI (PySem.W.nsIn K (xa_DSTANDER_MARKS K) "even"))))) ∧ (PySem.W.nsIn K (xa_DSTANDER_MARKS K) "away" = some (some (.str "aa" (tkI (PySem.W.nsIn K (xa_DSTANDER_MARKS K) "away"))))) ∧ (PySem.W.nsIn K (xa_DSTANDER_MARKS K) "home" = some (some (.str "hh" (tkI (PySem.W.nsIn K (xa_DSTANDER_MARKS K) "home"))))) ∧ (PySem.W.nsIn K mainGlobals "abs" = some none) ∧ (PySem.W.nsIn K mainGlobals "all" = some none) ∧ (PySem.W.nsIn K mainGlobals "any" = some none))
def gx31 (K : PySem.W.Frag) : Bool := decide ((PySem.W.nsIn K mainGlobals "bool" = some none) ∧ (PySem.W.nsIn K mainGlobals "dict" = some none) ∧ (PySem.W.nsIn K mainGlobals "divmod" = some none) ∧ (PySem.W.nsIn K mainGlobals "enumerate" = some none) ∧ (PySem.W.nsIn K mainGlobals "int" = some none) ∧ (PySem.W.nsIn K mainGlobals "isinstance" = some none) ∧ (PySem.W.nsIn K mainGlobals "len" = some none) ∧ (PySem.W.nsIn K mainGlobals "list" = some none) ∧ (PySem.W.nsIn K mainGlobals "max" = some none) ∧ (PySem.W.nsIn K mainGlobals "min" = some none))
def gx32 (K : PySem.W.Frag) : Bool := decide ((PySem.W.nsIn K mainGlobals "range" = some none) ∧ (PySem.W.nsIn K mainGlobals "repr" = some none) ∧ (PySem.W.nsIn K mainGlobals "set" = some none) ∧ (PySem.W.nsIn K mainGlobals "sorted" = some none) ∧ (PySem.W.nsIn K mainGlobals "str" = some none) ∧ (PySem.W.nsIn K mainGlobals "sum" = some none) ∧ (PySem.W.nsIn K mainGlobals "tuple" = some none) ∧ (PySem.W.nsIn K mainGlobals "zip" = some none) ∧ (PySem.W.nsIn K mainGlobals "MARKS_TOLD" = some (some (.int 12 (tkI (PySem.W.nsIn K mainGlobals "MARKS_TOLD"))))) ∧ (PySem.W.nsIn K mainGlobals "MOST_MARKS" = some (some (.int 4 (tkI (PySem.W.nsIn K mainGlobals "MOST_MARKS"))))))
def gx33 (K : PySem.W.Frag) : Bool := decide ((PySem.W.nsIn K mainGlobals "MOST_STEP" = some (some (.int 7 (tkI (PySem.W.nsIn K mainGlobals "MOST_STEP"))))) ∧ (PySem.W.nsIn K mainGlobals "OTHER" = some (some (.str "o" (tkI (PySem.W.nsIn K mainGlobals "OTHER"))))) ∧ (PySem.W.nsIn K mainGlobals "SAME" = some (some (.str "s" (tkI (PySem.W.nsIn K mainGlobals "SAME"))))))
def gxa (K : PySem.W.Frag) : Bool := gx0 K && (gx1 K && (gx2 K && (gx3 K && (gx4 K && (gx5 K && (gx6 K && (gx7 K && (gx8 K && (gx9 K && (gx10 K && (gx11 K && (gx12 K && (gx13 K && (gx14 K && (gx15 K && (gx16 K))))))))))))))))
def gxb (K : PySem.W.Frag) : Bool := gx17 K && (gx18 K && (gx19 K && (gx20 K && (gx21 K && (gx22 K && (gx23 K && (gx24 K && (gx25 K && (gx26 K && (gx27 K && (gx28 K && (gx29 K && (gx30 K && (gx31 K && (gx32 K && (gx33 K))))))))))))))))
def fnL0 : List (PySem.W.Frag → Addr) := [xa_Adraw, xa_Apick, xa_Amarks, xa_Amodel, xa_Adrawn, xa_Ais_marks, xa_Acheck_part, xa_AWord_init, xa_Ais_integer, xa_ARule_init, xa_Amade, xa_Afewest, xa_Agreat, xa_Ateam, xa_Aedge, xa_Around, xa_AWord_least, xa_ARule_least_size, xa_Ais_size, xa_Acheck_size]
def fnL1 : List (PySem.W.Frag → Addr) := [xa_Ais_count, xa_Acheck_team, xa_Acheck_along, xa_Acheck_day, xa_ARule_stander, xa_ARule_step, xa_ARule_word, xa_AWord_head, xa_AWord_tail, xa_Astretches, xa_Acheck_seats, xa_Astander_mark, xa_Aseat, xa_Acontrary_marks, xa_Acheck_places, xa_AWord_mark, xa_ARule_turned, xa_Aturned_if, xa_Amark_at, xa_Amark_of]
def fnL2 : List (PySem.W.Frag → Addr) := [xa_Amarks_from, xa_Arow, xa_Acompared, xa_Alikeness, xa_Atimes_said, xa_Atimes_until, xa_Aposition_said, xa_Aposition_of, xa_Astay_at, xa_Astander, xa_Acontrary, xa_Aat, xa_Asign, xa_Aends_right, xa_Acheck_rounds, xa_Abreaks_until, xa_Ahomes_until, xa_Astay_right, xa_Aright, xa_Apot]
def fnL3 : List (PySem.W.Frag → Addr) := [xa_Alaw]
def fnL : List (PySem.W.Frag → Addr) := fnL0 ++ (fnL1 ++ (fnL2 ++ (fnL3)))
def fnV0 : List He.FnW := [sv_draw, sv_pick, sv_marks, sv_model, sv_drawn, sv_is_marks, sv_check_part, sv_Word_init, sv_is_integer, sv_Rule_init, sv_made, sv_fewest, sv_great, sv_team, sv_edge, sv_round, sv_Word_least, sv_Rule_least_size, sv_is_size, sv_check_size]
def fnV1 : List He.FnW := [sv_is_count, sv_check_team, sv_check_along, sv_check_day, sv_Rule_stander, sv_Rule_step, sv_Rule_word, sv_Word_head, sv_Word_tail, sv_stretches, sv_check_seats, sv_stander_mark, sv_seat, sv_contrary_marks, sv_check_places, sv_Word_mark, sv_Rule_turned, sv_turned_if, sv_mark_at, sv_mark_of]
def fnV2 : List He.FnW := [sv_marks_from, sv_row, sv_compared, sv_likeness, sv_times_said, sv_times_until, sv_position_said, sv_position_of, sv_stay_at, sv_stander, sv_contrary, sv_at, sv_sign, sv_ends_right, sv_check_rounds, sv_breaks_until, sv_homes_until, sv_stay_right, sv_right, sv_pot]
def fnV3 : List He.FnW := [sv_law]
def fnV : List He.FnW := fnV0 ++ (fnV1 ++ (fnV2 ++ (fnV3)))
def tsL0 : List He.Tab := [ts_CONTRARIES, ts_CONTRARY_STANDERS, ts_STANDER_MARKS]
def tsL : List He.Tab := tsL0
def looseL0 : List PySem.Str := ["_wall", "__name__", "LeagueError", "InvalidPlace", "InvalidMarks", "InvalidStep", "InvalidStander", "InvalidTurned", "InvalidSize", "InvalidTeam", "InvalidRound", "InvalidCount", "LimitError", "TooMany", "CONTRARIES", "is_integer", "is_count", "is_marks", "contrary_marks", "is_size"]
def looseL1 : List PySem.Str := ["check_size", "check_team", "check_day", "SAME", "OTHER", "times_until", "position_of", "likeness", "times_said", "_compared", "_position_said", "STANDER_MARKS", "mark_of", "stander_mark", "_check", "check_seats", "_seat", "_mark_at", "_turned_if", "MARKS_TOLD"]
def looseL2 : List PySem.Str := ["homes_until", "breaks_until", "stay_at", "check_along", "_check_rounds", "_row", "_stretches", "_marks_from", "MOST_STEP", "CONTRARY_STANDERS", "Rule", "_turned_text", "MOST_MARKS", "MOST_PLACES", "Word", "_check_part", "_check_places", "_law_pot", "_law_draw", "_law_pick"]
def looseL3 : List PySem.Str := ["_law_marks", "_law_model", "_law_made", "_law_fewest", "_law_contrary", "_law_at", "_law_stander", "_law_sign", "_law_great", "_law_team", "_law_edge", "_law_round", "_law_drawn", "_law_ends_right", "_law_stay_right", "_law_right"]
def looseL : List PySem.Str := looseL0 ++ (looseL1 ++ (looseL2 ++ (looseL3)))
abbrev RR : PySem.W.OpenRow := PySem.W.OpenLaw.row PySem.Challenge.rw_ringrows_k77_whole_long_stays
abbrev qV : Program := PySem.W.view RR.prog [84]
abbrev hk : PySem.W.Hook := hkR 4000 (fun K => gxa K && gxb K) fnL fnV tsL
abbrev ob : PySem.W.SharedT → hk.α := obF 4000 gxa gxb fnL tsL
set_option maxHeartbeats 0 in
theorem runA_false (w : World) (os : OsState) : (endW RR.prog (w.withFollow "special-get-raises" false) os).map (fun x => (HandSHeadRun.looksF RR.prog (PySem.W.boot_heap (w.withFollow "special-get-raises" false).params) x.abs, HandSHeadRun.seenQ qV looseL (importedModules RR.prog.main.body) (fun s => PySem.W.xlAt qV [] s && PySem.W.recOk RR.toRowW.records s) x.abs)) = some (true, PySem.W.openGood qV looseL) := by
  kernel_rfl
set_option maxHeartbeats 0 in
theorem runBa_false (w : World) (os : OsState) : (endW RR.prog (w.withFollow "special-get-raises" false) os).map (fun x => obA 4000 gxa x) = some true := by
  kernel_rfl
set_option maxHeartbeats 0 in
theorem runBb_false (w : World) (os : OsState) : (endW RR.prog (w.withFollow "special-get-raises" false) os).map (fun x => obA 4000 gxb x) = some true := by
  kernel_rfl
set_option maxHeartbeats 0 in
theorem runC_false (w : World) (os : OsState) : (endW RR.prog (w.withFollow "special-get-raises" false) os).map (fun x => obB 4000 fnL tsL x) = some (fnV, tsL.map fun t => some (He.keysIn (w.withFollow "special-get-raises" false).params t.2)) := by
  kernel_rfl
theorem run_false (w : World) : HandSHeadRun.RunEq RR qV hk ob 60000 looseL (w.withFollow "special-get-raises" false) := runEq_of (runA_false w) (runBa_false w) (runBb_false w) (runC_false w)
set_option maxHeartbeats 0 in
theorem runA_true (w : World) (os : OsState) : (endW RR.prog (w.withFollow "special-get-raises" true) os).map (fun x => (HandSHeadRun.looksF RR.prog (PySem.W.boot_heap (w.withFollow "special-get-raises" true).params) x.abs, HandSHeadRun.seenQ qV looseL (importedModules RR.prog.main.body) (fun s => PySem.W.xlAt qV [] s && PySem.W.recOk RR.toRowW.records s) x.abs)) = some (true, PySem.W.openGood qV looseL) := by
  kernel_rfl
set_option maxHeartbeats 0 in
theorem runBa_true (w : World) (os : OsState) : (endW RR.prog (w.withFollow "special-get-raises" true) os).map (fun x => obA 4000 gxa x) = some true := by
  kernel_rfl
set_option maxHeartbeats 0 in
theorem runBb_true (w : World) (os : OsState) : (endW RR.prog (w.withFollow "special-get-raises" true) os).map (fun x => obA 4000 gxb x) = some true := by
  kernel_rfl
set_option maxHeartbeats 0 in
theorem runC_true (w : World) (os : OsState) : (endW RR.prog (w.withFollow "special-get-raises" true) os).map (fun x => obB 4000 fnL tsL x) = some (fnV, tsL.map fun t => some (He.keysIn (w.withFollow "special-get-raises" true).params t.2)) := by
  kernel_rfl
theorem run_true (w : World) : HandSHeadRun.RunEq RR qV hk ob 60000 looseL (w.withFollow "special-get-raises" true) := runEq_of (runA_true w) (runBa_true w) (runBb_true w) (runC_true w)
theorem run (w : World) : HandSHeadRun.RunEq RR qV hk ob 60000 looseL w := PySem.W.byRow2 "special-get-raises" (P := fun w => HandSHeadRun.RunEq RR qV hk ob 60000 looseL w) run_false run_true w
end Lw
namespace Rx
open PySem PySem.Spec PyProof.Rows L2

inductive D where
  | v (x : V)
  | lst (xs : List D)
  | tup (xs : List D)
  | ins (C : Addr) (ns : List Str) (xs : List D)
  | dct (ks : List Key) (xs : List D)
  | dcT (ks : List (List Key)) (xs : List D)

mutual
def rep (ms : List Addr) (H : Hp) : D → V → Prop
  | .v x, u => u = x
  | .lst ds, u => ∃ p vs, u = .ref p ∧ p ∉ ms ∧ H p = some (.lst vs) ∧ repL ms H ds vs
  | .tup ds, u => ∃ p vs, u = .ref p ∧ p ∉ ms ∧ H p = some (.tup vs) ∧ repL ms H ds vs
  | .ins C ns ds, u => ∃ p dx vs, u = .ref p ∧ p ∉ ms ∧ H p = some (.ins C dx (ns.zip vs)) ∧ ns.length = vs.length ∧ repL ms H ds vs
  | .dct ks ds, u => ∃ p vs, u = .ref p ∧ p ∉ ms ∧ H p = some (.dK (ks.zip vs)) ∧ ks.length = vs.length ∧ repL ms H ds vs
  | .dcT ks ds, u => ∃ p vs, u = .ref p ∧ p ∉ ms ∧ H p = some (.dT (ks.zip vs)) ∧ ks.length = vs.length ∧ repL ms H ds vs
def repL (ms : List Addr) (H : Hp) : List D → List V → Prop
  | [], vs => vs = []
  | d :: ds, vs => ∃ u us, vs = u :: us ∧ rep ms H d u ∧ repL ms H ds us
end

mutual
theorem rep_map {ms ms' : List Addr} {H H' : Hp} (f : ∀ p o, p ∉ ms → H p = some o → p ∉ ms' ∧ H' p = some o) : ∀ (d : D) (u : V), rep ms H d u → rep ms' H' d u
  | .v x, u, h => by
    simp only [rep] at h ⊢
    exact h
  | .lst ds, u, h => by
    simp only [rep] at h ⊢
    obtain ⟨p, vs, e, n, hp, hl⟩ := h
    exact ⟨p, vs, e, (f p _ n hp).1, (f p _ n hp).2, repL_map f ds vs hl⟩
  | .tup ds, u, h => by
    simp only [rep] at h ⊢
    obtain ⟨p, vs, e, n, hp, hl⟩ := h
    exact ⟨p, vs, e, (f p _ n hp).1, (f p _ n hp).2, repL_map f ds vs hl⟩
  | .ins C ns ds, u, h => by
    simp only [rep] at h ⊢
    obtain ⟨p, dx, vs, e, n, hp, hn, hl⟩ := h
    exact ⟨p, dx, vs, e, (f p _ n hp).1, (f p _ n hp).2, hn, repL_map f ds vs hl⟩
  | .dct ks ds, u, h => by
    simp only [rep] at h ⊢
    obtain ⟨p, vs, e, n, hp, hn, hl⟩ := h
    exact ⟨p, vs, e, (f p _ n hp).1, (f p _ n hp).2, hn, repL_map f ds vs hl⟩
  | .dcT ks ds, u, h => by
    simp only [rep] at h ⊢
    obtain ⟨p, vs, e, n, hp, hn, hl⟩ := h
    exact ⟨p, vs, e, (f p _ n hp).1, (f p _ n hp).2, hn, repL_map f ds vs hl⟩
theorem repL_map {ms ms' : List Addr} {H H' : Hp} (f : ∀ p o, p ∉ ms → H p = some o → p ∉ ms' ∧ H' p = some o) : ∀ (ds : List D) (us : List V), repL ms H ds us → repL ms' H' ds us
  | [], us, h => by
    simp only [repL] at h ⊢
    exact h
  | d :: ds, us, h => by
    simp only [repL] at h ⊢
    obtain ⟨u, vs, e, h1, h2⟩ := h
    exact ⟨u, vs, e, rep_map f d u h1, repL_map f ds vs h2⟩
end

theorem repL_len {ms : List Addr} {H : Hp} : ∀ {ds : List D} {vs : List V}, repL ms H ds vs → ds.length = vs.length
  | [], vs, h => by
    simp only [repL] at h
    rw [h]
    rfl
  | d :: ds, vs, h => by
    simp only [repL] at h
    obtain ⟨u, us, e, _, h2⟩ := h
    rw [e]
    show ds.length + 1 = us.length + 1
    rw [repL_len h2]
theorem repL_get {ms : List Addr} {H : Hp} : ∀ {ds : List D} {vs : List V} {j : Nat} {d : D}, repL ms H ds vs → ds[j]? = some d → ∃ v, vs[j]? = some v ∧ rep ms H d v
  | [], vs, j, d, h, e => by simp at e
  | d0 :: ds, vs, 0, d, h, e => by
    simp only [repL] at h
    obtain ⟨u, us, rfl, h1, _⟩ := h
    have e' : d0 = d := Option.some.inj e
    subst e'
    exact ⟨u, rfl, h1⟩
  | d0 :: ds, vs, j + 1, d, h, e => by
    simp only [repL] at h
    obtain ⟨u, us, rfl, _, h2⟩ := h
    exact repL_get (j := j) h2 (by simpa using e)
theorem repL_app {ms : List Addr} {H : Hp} : ∀ {ds es : List D} {vs us : List V}, repL ms H ds vs → repL ms H es us → repL ms H (ds ++ es) (vs ++ us)
  | [], es, vs, us, h, h' => by
    simp only [repL] at h
    rw [h]
    exact h'
  | d :: ds, es, vs, us, h, h' => by
    simp only [repL] at h
    obtain ⟨u, ws, rfl, h1, h2⟩ := h
    show repL ms H (d :: (ds ++ es)) (u :: (ws ++ us))
    simp only [repL]
    exact ⟨u, ws ++ us, rfl, h1, repL_app h2 h'⟩
theorem repL_one {ms : List Addr} {H : Hp} {d : D} {u : V} (h : rep ms H d u) : repL ms H [d] [u] := by
  simp only [repL]
  exact ⟨u, [], rfl, h, rfl⟩
theorem repL_nil {ms : List Addr} {H : Hp} : repL ms H [] [] := by simp only [repL]
theorem repL_cons {ms : List Addr} {H : Hp} {d : D} {u : V} {ds : List D} {us : List V} (h : rep ms H d u) (t : repL ms H ds us) : repL ms H (d :: ds) (u :: us) := by
  simp only [repL]
  exact ⟨u, us, rfl, h, t⟩
theorem rep_v {ms : List Addr} {H : Hp} {x : V} : rep ms H (.v x) x := by simp only [rep]
theorem of_v {ms : List Addr} {H : Hp} {x u : V} (h : rep ms H (.v x) u) : u = x := by
  simp only [rep] at h
  exact h
theorem repL_flat {ms : List Addr} {H : Hp} : ∀ {xs vs : List V}, repL ms H (xs.map D.v) vs ↔ vs = xs
  | [], vs => by simp only [List.map_nil, repL]
  | x :: xs, vs => by
    simp only [List.map_cons, repL]
    constructor
    · rintro ⟨u, us, rfl, h1, h2⟩
      rw [of_v h1, repL_flat.mp h2]
    · rintro rfl
      exact ⟨x, xs, rfl, rep_v, repL_flat.mpr rfl⟩

def PotH (H : Hp) (a : Addr) : Prop := ∃ i j : Int, H a = some (.lst [.int i, .int j]) ∧ j.natAbs < 4294967296
abbrev PEn := Addr × Option Str
abbrev ad (ps : List PEn) : List Addr := ps.map Prod.fst
def EntH (H : Hp) (p : PEn) : Prop := match p.2 with
  | none => PotH H p.1
  | some q => LamX.TabS H p.1 q
theorem ent_ne {H : Hp} {p : PEn} {o : HO} (h : EntH H p) (e : H p.1 = some o) : (∃ xs, o = .lst xs) ∨ ∃ xs, o = .tbl xs := by
  obtain ⟨a, k⟩ := p
  cases k with
  | none =>
    obtain ⟨i, j, h1, _⟩ := h
    rw [h1] at e
    cases e
    exact .inl ⟨_, rfl⟩
  | some q =>
    obtain ⟨xs, h1, _⟩ := h
    rw [h1] at e
    cases e
    exact .inr ⟨_, rfl⟩
theorem ent_some {H : Hp} {p : PEn} (h : EntH H p) : H p.1 ≠ none := fun z => by
  obtain ⟨a, k⟩ := p
  cases k with
  | none =>
    obtain ⟨i, j, h1, _⟩ := h
    rw [z] at h1
    cases h1
  | some q =>
    obtain ⟨xs, h1, _⟩ := h
    rw [z] at h1
    cases h1
theorem ent_stay {H H' : Hp} {p : PEn} (h : EntH H p) (f : ∀ o, H p.1 = some o → H' p.1 = some o) (g : ∀ c q, H c = some (LamX.CodeO c q) → H' c = some (LamX.CodeO c q)) : EntH H' p := by
  obtain ⟨a, k⟩ := p
  cases k with
  | none =>
    obtain ⟨i, j, h1, h2⟩ := h
    exact ⟨i, j, f _ h1, h2⟩
  | some q =>
    obtain ⟨xs, h1, h2, h3⟩ := h
    exact ⟨xs, f _ h1, h2, fun pos cv hc => by
      obtain ⟨c, e1, e2⟩ := h3 pos cv hc
      exact ⟨c, e1, g c q e2⟩⟩
structure Ret (ps : List PEn) (H H' : Hp) : Prop where
  kp : ∀ a o, a ∉ ad ps → H a = some o → H' a = some o
  pot : ∀ a ∈ ps, EntH H' a
  grow : ∀ a, H a ≠ none → H' a ≠ none
abbrev Ext (H H' : Hp) : Prop := Ret [] H H'
theorem Ext.keep {H H' : Hp} (e : Ext H H') {a : Addr} {o : HO} (h : H a = some o) : H' a = some o := e.kp a o (by simp) h
theorem Ext.new {H : Hp} {p : Addr} {o : HO} (np : H p = none) : Ext H (upd H p o) := by
  refine ⟨fun a u _ h => ?_, fun _ h => absurd h List.not_mem_nil, fun a h => ?_⟩
  · rw [upd_ne (ne_of_none h np)]
    exact h
  · by_cases e : a = p
    · rw [e, upd_same]
      exact fun z => nomatch z
    · rw [upd_ne e]
      exact h
structure Wd (ms : List Addr) (ps : List PEn) (cs : List (Addr × List V)) (H0 H : Hp) : Prop where
  kp : ∀ a o, a ∉ ad ps → H0 a = some o → H a = some o
  grow : ∀ a, H0 a ≠ none → H a ≠ none
  tr : ∀ m ∈ ms, H m ≠ none
  pot : ∀ a ∈ ps, EntH H a
  pm : ∀ a ∈ ad ps, a ∈ ms
  cel : ∀ c ∈ cs, H c.1 = some (.lst c.2) ∧ c.1 ∈ ms ∧ c.1 ∉ ad ps ∧ H0 c.1 = none

section
variable {ms : List Addr} {ps ps' : List PEn} {cs : List (Addr × List V)} {H0 H H' : Hp} {d : D} {u : V}
theorem ad_mem {ps ps' : List PEn} (hs : ∀ a ∈ ps', a ∈ ps) {a : Addr} (h : a ∈ ad ps') : a ∈ ad ps := by
  obtain ⟨p, hp, rfl⟩ := List.mem_map.mp h
  exact List.mem_map.mpr ⟨p, hs p hp, rfl⟩
theorem mem_ad {ps : List PEn} {p : PEn} (h : p ∈ ps) : p.1 ∈ ad ps := List.mem_map.mpr ⟨p, h, rfl⟩
theorem Wd.ret (hs : ∀ a ∈ ps', a ∈ ps) (hu : ∀ p ∈ ps, p.1 ∈ ad ps' → p ∈ ps') (w : Wd ms ps cs H0 H) (e : Ret ps' H H') : Wd ms ps cs H0 H' where
  kp := fun a o n h => e.kp a o (fun z => n (ad_mem hs z)) (w.kp a o n h)
  grow := fun a h => e.grow a (w.grow a h)
  tr := fun m h => e.grow m (w.tr m h)
  pot := fun p h => by
    by_cases z : p ∈ ps'
    · exact e.pot p z
    · refine ent_stay (w.pot p h) (fun o ho => e.kp _ o (fun y => z (hu p h y)) ho) fun c q hc => e.kp _ _ (fun y => ?_) hc
      obtain ⟨p2, h2, e2⟩ := List.mem_map.mp y
      have := w.pot p2 (hs p2 h2)
      rw [← e2] at hc
      rcases ent_ne this hc with ⟨xs, hx⟩ | ⟨xs, hx⟩ <;> cases hx
  pm := w.pm
  cel := fun c h => by
    obtain ⟨h1, h2, h3, h4⟩ := w.cel c h
    exact ⟨e.kp _ _ (fun z => h3 (ad_mem hs z)) h1, h2, h3, h4⟩
theorem Wd.ret0 (w : Wd ms ps cs H0 H) (e : Ret [] H H') : Wd ms ps cs H0 H' := w.ret (fun _ h => absurd h List.not_mem_nil) (fun _ _ h => absurd h List.not_mem_nil) e
theorem Wd.retP (w : Wd ms ps cs H0 H) (e : Ret ps H H') : Wd ms ps cs H0 H' := w.ret (fun _ h => h) (fun _ h _ => h) e
theorem Wd.enter0 (w : Wd ms ps cs H0 H) : Wd ms [] [] H H := ⟨fun _ _ _ h => h, fun _ h => h, w.tr, fun _ h => absurd h List.not_mem_nil, fun _ h => absurd h List.not_mem_nil, fun _ h => absurd h List.not_mem_nil⟩
theorem Wd.enterP (w : Wd ms ps cs H0 H) : Wd ms ps [] H H := ⟨fun _ _ _ h => h, fun _ h => h, w.tr, w.pot, w.pm, fun _ h => absurd h List.not_mem_nil⟩
theorem Wd.out (w : Wd ms ps cs H0 H) : Ret ps H0 H := ⟨w.kp, w.pot, w.grow⟩
theorem rep_ret (w : Wd ms ps cs H0 H) (e : Ret ps H H') (h : rep ms H d u) : rep ms H' d u := rep_map (fun p o n hp => ⟨n, e.kp p o (fun z => n (w.pm p z)) hp⟩) d u h
theorem rep_ext (e : Ret [] H H') (h : rep ms H d u) : rep ms H' d u := rep_map (fun p o n hp => ⟨n, e.kp p o (by simp) hp⟩) d u h
theorem repL_ext {ds : List D} {us : List V} (e : Ret [] H H') (h : repL ms H ds us) : repL ms H' ds us := repL_map (fun p o n hp => ⟨n, e.kp p o (by simp) hp⟩) ds us h
theorem Wd.cell {l : Addr} {xs : List V} (w : Wd ms ps cs H0 H) (nl : H l = none) : Wd (l :: ms) ps ((l, xs) :: cs) H0 (upd H l (.lst xs)) := by
  have e : Ext H (upd H l (.lst xs)) := Ext.new nl
  have w1 := w.ret0 e
  refine ⟨w1.kp, w1.grow, fun m h => ?_, w1.pot, fun a h => List.mem_cons_of_mem _ (w.pm a h), fun c h => ?_⟩
  · rcases List.mem_cons.mp h with rfl | h
    · rw [upd_same]
      exact fun z => nomatch z
    · exact w1.tr m h
  · rcases List.mem_cons.mp h with rfl | h
    · refine ⟨upd_same, List.mem_cons_self, fun z => ?_, ?_⟩
      · obtain ⟨p, hp, e2⟩ := List.mem_map.mp z
        exact ent_some (w.pot p hp) (by rw [e2]; exact nl)
      · show H0 l = none
        cases q : H0 l with
        | none => rfl
        | some o => exact absurd nl (w.grow l (by rw [q]; exact fun z => nomatch z))
    · obtain ⟨h1, h2, h3, h4⟩ := w1.cel c h
      exact ⟨h1, List.mem_cons_of_mem _ h2, h3, h4⟩
theorem rep_cell {l : Addr} {o : HO} (nl : H l = none) (h : rep ms H d u) : rep (l :: ms) (upd H l o) d u := by
  refine rep_map (fun p o n hp => ?_) d u h
  have ne : p ≠ l := ne_of_none hp nl
  refine ⟨fun z => ?_, by rw [upd_ne ne]; exact hp⟩
  rcases List.mem_cons.mp z with z | z
  · exact ne z
  · exact n z
theorem rep_put {l : Addr} {o : HO} (lm : l ∈ ms) (h : rep ms H d u) : rep ms (upd H l o) d u :=
  rep_map (fun p o n hp => ⟨n, by rw [upd_ne (fun z => n (by rw [z]; exact lm))]; exact hp⟩) d u h
theorem repL_put {ds : List D} {us : List V} {l : Addr} {o : HO} (lm : l ∈ ms) (h : repL ms H ds us) : repL ms (upd H l o) ds us :=
  repL_map (fun p o n hp => ⟨n, by rw [upd_ne (fun z => n (by rw [z]; exact lm))]; exact hp⟩) ds us h
theorem Wd.froze {l : Addr} {xs : List V} (w : Wd (l :: ms) ps ((l, xs) :: cs) H0 H) (hp : ∀ a ∈ ad ps, a ∈ ms) (hc : ∀ c ∈ cs, c.1 ∈ ms) : Wd ms ps cs H0 H :=
  ⟨w.kp, w.grow, fun m h => w.tr m (List.mem_cons_of_mem _ h), w.pot, hp, fun c h => by
    obtain ⟨h1, _, h3, h4⟩ := w.cel c (List.mem_cons_of_mem _ h)
    exact ⟨h1, hc c h, h3, h4⟩⟩
theorem repL_weak {ds : List D} {us : List V} {l : Addr} (h : repL (l :: ms) H ds us) : repL ms H ds us := repL_map (fun p o n hp => ⟨fun z => n (List.mem_cons_of_mem _ z), hp⟩) ds us h
end

def upE (t : TE) : TE := fun σ H Q => ∃ Q' : VK, t σ H Q' ∧ ∀ v H', Q' v H' → Q v H'
section
variable {X : Cx}
theorem pe_up {e : Expr} {t : TE} (h : PE X e t) : PE X e (upE t) := ⟨fun pins s σ H Q I ⟨Q', hq, m⟩ => thn (h.run pins s σ H Q' I hq) fun u s' ⟨v, H', I', r, q⟩ => ⟨v, H', I', r, m v H' q⟩⟩
end

def mapC {α β : Type} (body : α → (β → Prop) → Prop) : List α → List β → (List β → Prop) → Prop
  | [], acc, k => k acc
  | x :: xs, acc, k => body x fun y => mapC body xs (acc ++ [y]) k
def filC {α β : Type} (body : α → (Option β → Prop) → Prop) : List α → List β → (List β → Prop) → Prop
  | [], acc, k => k acc
  | x :: xs, acc, k => body x fun o => match o with
    | some y => filC body xs (acc ++ [y]) k
    | none => filC body xs acc k
def forC {α S : Type} (body : α → S → (S → Prop) → Prop) : List α → S → (S → Prop) → Prop
  | [], s, k => k s
  | x :: xs, s, k => body x s fun s' => forC body xs s' k
def rangeI (lo hi : Int) : List Int := (List.range (hi - lo).toNat).map fun i => lo + ((i : Nat) : Int)
theorem rangeI_len {lo hi : Int} : (rangeI lo hi).length = (hi - lo).toNat := by simp [rangeI]
theorem rangeI_get {lo hi : Int} {i : Nat} (h : i < (hi - lo).toNat) : (rangeI lo hi)[i]? = some (lo + (i : Int)) := by
  simp [rangeI, List.getElem?_map, List.getElem?_range h]
theorem drop_cons' {α : Type} {xs : List α} {i : Nat} {x : α} (h : xs[i]? = some x) : xs.drop i = x :: xs.drop (i + 1) := by
  obtain ⟨h1, h2⟩ := List.getElem?_eq_some_iff.mp h
  rw [List.drop_eq_getElem_cons h1, h2]

def Keep (ms : List Addr) (H H' : Hp) : Prop := ∀ a o, a ∉ ms → H a = some o → H' a = some o
section
variable {ms : List Addr} {ps : List PEn} {cs : List (Addr × List V)} {H0 H H1 H' : Hp} {d : D} {u : V}
theorem Keep.refl : Keep ms H H := fun _ _ _ h => h
theorem keep_ret (w : Wd ms ps cs H0 H) (e : Ret ps H H') (k : Keep ms H1 H) : Keep ms H1 H' := fun a o n h => e.kp a o (fun z => n (w.pm a z)) (k a o n h)
theorem keep_ext (e : Ret [] H H') (k : Keep ms H1 H) : Keep ms H1 H' := fun a o n h => e.kp a o (by simp) (k a o n h)
theorem keep_cell {l : Addr} {o : HO} (nl : H l = none) (k : Keep ms H1 H) : Keep (l :: ms) H1 (upd H l o) := fun a u n h => by
  rw [upd_ne (fun z => n (by rw [z]; exact List.mem_cons_self))]
  exact k a u (fun z => n (List.mem_cons_of_mem _ z)) h
theorem keep_put {l : Addr} {o : HO} (lm : l ∈ ms) (k : Keep ms H1 H) : Keep ms H1 (upd H l o) := fun a u n h => by
  rw [upd_ne (fun z => n (by rw [z]; exact lm))]
  exact k a u n h
theorem rep_keep (k : Keep ms H H') (h : rep ms H d u) : rep ms H' d u := rep_map (fun p o n hp => ⟨n, k p o n hp⟩) d u h
theorem repL_keep {ds : List D} {us : List V} (k : Keep ms H H') (h : repL ms H ds us) : repL ms H' ds us := repL_map (fun p o n hp => ⟨n, k p o n hp⟩) ds us h
end

theorem ite3 {c : Prop} [Decidable c] {A B P R : Prop} (h : if c then A else B) (h1 : A → P) (h2 : B → R) : if c then P else R := by
  by_cases q : c
  · rw [if_pos q] at h ⊢
    exact h1 h
  · rw [if_neg q] at h ⊢
    exact h2 h

section
variable {K : PySem.W.Frag} {ms : List Addr} {ps : List PEn} {cs : List (Addr × List V)} {H0 H : Hp} {d : D} {u x : V}
theorem rep_fld {C : Addr} {ns : List Str} {ds : List D} {f : Str} {Q : VK} {j : Nat} (h : rep ms H (.ins C ns ds) x) (c : Cls K C) (n : NoAttr K C f) (nd : ns.Nodup) (hn : ns[j]? = some f) (hd : ds[j]? = some d) (k : ∀ v, rep ms H d v → Q v H) :
    ∃ a C dx fs v, x = .ref a ∧ H a = some (.ins C dx fs) ∧ Cls K C ∧ NoAttr K C f ∧ fs.lookup f = some v ∧ Q v H := by
  simp only [rep] at h
  obtain ⟨p, dx, vs, e, _, hp, hl, hr⟩ := h
  obtain ⟨v, hv, rv⟩ := repL_get hr hd
  refine ⟨p, C, dx, _, v, e, hp, c, n, ?_, k v rv⟩
  clear hr hd hp e k rv
  induction ns generalizing vs j with
  | nil => simp at hn
  | cons n0 ns ih =>
    cases vs with
    | nil => simp at hv
    | cons v0 vs =>
      cases j with
      | zero =>
        have e1 : n0 = f := Option.some.inj hn
        have e2 : v0 = v := Option.some.inj hv
        subst e1 e2
        simp [List.lookup]
      | succ j =>
        have hn' : ns[j]? = some f := by simpa using hn
        have hv' : vs[j]? = some v := by simpa using hv
        have ne : f ≠ n0 := fun z => by
          subst z
          exact (List.nodup_cons.mp nd).1 (List.mem_of_getElem? hn')
        show ((n0, v0) :: ns.zip vs).lookup f = some v
        rw [List.lookup_cons, show (f == n0) = false from beq_eq_false_iff_ne.mpr ne]
        exact ih (List.nodup_cons.mp nd).2 hn' vs (by simpa using hl) hv'
theorem lookup_zip_none {m : Str} : ∀ {ns : List Str} {vs : List V}, m ∉ ns → (ns.zip vs).lookup m = none
  | [], vs, _ => by simp
  | n :: ns, [], _ => by simp
  | n :: ns, v :: vs, h => by
    show ((n, v) :: ns.zip vs).lookup m = none
    rw [List.lookup_cons, show (m == n) = false from beq_eq_false_iff_ne.mpr fun z => h (by rw [z]; exact List.mem_cons_self)]
    exact lookup_zip_none fun z => h (List.mem_cons_of_mem _ z)
theorem rep_meth {C : Addr} {ns : List Str} {ds : List D} {m : Str} {P : Hp → Prop} (h : rep ms H (.ins C ns ds) x) (hm : m ∉ ns) (k : P H) : ∃ a dx fs, x = .ref a ∧ H a = some (.ins C dx fs) ∧ fs.lookup m = none ∧ P H := by
  simp only [rep] at h
  obtain ⟨p, dx, vs, e, _, hp, hl, hr⟩ := h
  exact ⟨p, dx, _, e, hp, lookup_zip_none hm, k⟩
theorem rep_prop {C : Addr} {ns : List Str} {ds : List D} {P : Addr → Prop} (h : rep ms H (.ins C ns ds) x) (k : ∀ a, rep ms H (.ins C ns ds) (.ref a) → P a) : ∃ a dx fs, x = .ref a ∧ H a = some (.ins C dx fs) ∧ P a := by
  have h' := h
  simp only [rep] at h
  obtain ⟨p, dx, vs, e, _, hp, hl, hr⟩ := h
  subst e
  exact ⟨p, dx, _, rfl, hp, k p h'⟩
theorem rep_ixT {ds : List D} {i : Int} (j : Nat) {σ : L2.St} {Q : VK} (h : rep ms H (.tup ds) x) (hi : i = (j : Int)) (hd : ds[j]? = some d) (k : ∀ v, rep ms H d v → Q v H) : tC (V.int i) σ H fun y H2 => rIxT K x y H2 Q := by
  subst hi
  simp only [rep] at h
  obtain ⟨p, vs, e, _, hp, hr⟩ := h
  obtain ⟨v, hv, rv⟩ := repL_get hr hd
  exact ⟨p, vs, _, v, e, rfl, .inl (.inl hp), atI_nat hv, k v rv⟩
theorem rep_ixL {α : Type} {e : α → D} {xs : List α} {i : Int} {Q : VK} (h : rep ms H (.lst (xs.map e)) x) (h0 : 0 ≤ i) (hi : i.toNat < xs.length) (k : ∀ v, rep ms H (e (xs[i.toNat]'hi)) v → Q v H) : rIxL K x (.int i) H Q := by
  simp only [rep] at h
  obtain ⟨p, vs, e', _, hp, hr⟩ := h
  obtain ⟨v, hv, rv⟩ := repL_get (d := e (xs[i.toNat]'hi)) hr (by rw [List.getElem?_map, List.getElem?_eq_getElem hi]; rfl)
  refine ⟨p, vs, i, v, e', rfl, .inl (.inl hp), at_of (j := i.toNat) (by omega) hv, k v rv⟩
theorem rep_lenL {α : Type} {e : α → D} {xs : List α} {P : Nat → Prop} (h : rep ms H (.lst (xs.map e)) x) (k : P xs.length) : ∃ y n, [x] = [y] ∧ LenV K y H n ∧ P n := by
  simp only [rep] at h
  obtain ⟨p, vs, e', _, hp, hr⟩ := h
  subst e'
  have hl := repL_len hr
  rw [List.length_map] at hl
  exact ⟨_, xs.length, rfl, .inl ⟨vs, .inl (.inl hp), hl⟩, k⟩
theorem rep_iter {ds : List D} {P : Addr → Prop} (h : rep ms H (.lst ds) x) (k : ∀ a xs, x = .ref a → a ∉ ms → H a = some (.lst xs) → repL ms H ds xs → P a) : ∃ a, x = .ref a ∧ (∃ xs, SqL K H a xs) ∧ P a := by
  simp only [rep] at h
  obtain ⟨p, vs, e, n, hp, hr⟩ := h
  exact ⟨p, e, ⟨vs, .inl (.inl hp)⟩, k p vs e n hp hr⟩
theorem rep_gtup {ds : List D} {n : Nat} {Q : L2.St → Hp → Prop} {t : TGs} {σ : L2.St} (h : rep ms H (.tup ds) x) (hn : ds.length = n) (k : ∀ vs, repL ms H ds vs → t vs σ H Q) : ∃ a xs, x = .ref a ∧ SqT K H a xs ∧ xs.length = n ∧ t xs σ H Q := by
  simp only [rep] at h
  obtain ⟨p, vs, e, _, hp, hr⟩ := h
  exact ⟨p, vs, e, .inl (.inl hp), by rw [← repL_len hr]; exact hn, k vs hr⟩
theorem rep_tup_mk {p : Addr} {ds : List D} {vs : List V} (w : Wd ms ps cs H0 H) (np : H p = none) (e : Ext H H') (hp : H' p = some (.tup vs)) (hr : repL ms H ds vs) : rep ms H' (.tup ds) (.ref p) := by
  simp only [rep]
  exact ⟨p, vs, rfl, fun z => w.tr p z np, hp, repL_ext e hr⟩
theorem rep_lst_mk {p : Addr} {ds : List D} {vs : List V} (w : Wd ms ps cs H0 H) (np : H p = none) (e : Ext H H') (hp : H' p = some (.lst vs)) (hr : repL ms H ds vs) : rep ms H' (.lst ds) (.ref p) := by
  simp only [rep]
  exact ⟨p, vs, rfl, fun z => w.tr p z np, hp, repL_ext e hr⟩
end

section
variable {α β : Type} {K : PySem.W.Frag} {ms : List Addr} {ps : List PEn} {cs : List (Addr × List V)} {H0 H1 : Hp} {g : TG} {tt : TT} {te : TE} {vl : List Nat} {σ : L2.St} {Qd : Hp → Prop}
structure Trn (ms : List Addr) (ps : List PEn) (cs : List (Addr × List V)) (H0 H1 : Hp) (L : Addr) (eb : β → D) (n : Nat) (ys : List β) (vs : List V) (H : Hp) : Prop where
  w : Wd (L :: ms) ps ((L, vs) :: cs) H0 H
  k : Keep (L :: ms) H1 H
  r : repL (L :: ms) H (ys.map eb) vs
  n : ys.length ≤ n
theorem Trn.start {L : Addr} {eb : β → D} (w : Wd ms ps cs H0 H1) (nl : H1 L = none) : Trn ms ps cs H0 H1 L eb 0 [] [] (upd H1 L (.lst [])) :=
  ⟨w.cell nl, fun a o n h => by rw [upd_ne (ne_of_none h nl)]; exact h, repL_nil, Nat.le_refl _⟩
theorem Trn.done {L : Addr} {eb : β → D} {n : Nat} {ys : List β} {vs : List V} {H : Hp} (w : Wd ms ps cs H0 H1) (nl : H1 L = none) (t : Trn ms ps cs H0 H1 L eb n ys vs H) : Wd ms ps cs H0 H ∧ Keep ms H1 H ∧ rep ms H (.lst (ys.map eb)) (.ref L) := by
  refine ⟨t.w.froze w.pm fun c h => (w.cel c h).2.1, fun a o n h => t.k a o (fun z => ?_) h, ?_⟩
  · rcases List.mem_cons.mp z with z | z
    · rw [z, nl] at h
      cases h
    · exact n z
  · simp only [rep]
    exact ⟨L, vs, rfl, fun z => w.tr L z nl, (t.w.cel _ List.mem_cons_self).1, repL_weak t.r⟩

end

section
variable {α β : Type} {K : PySem.W.Frag} {ms : List Addr} {ps : List PEn} {cs : List (Addr × List V)} {H0 H1 : Hp} {g : TG} {tt : TT} {te : TE} {vl : List Nat} {σ : L2.St} {Qd : Hp → Prop}
theorem Trn.skip {L : Addr} {eb : β → D} {n : Nat} {ys : List β} {vs : List V} {H : Hp} (t : Trn ms ps cs H0 H1 L eb n ys vs H) : Trn ms ps cs H0 H1 L eb (n + 1) ys vs H := ⟨t.w, t.k, t.r, Nat.le_succ_of_le t.n⟩
end

section
variable {α S : Type} {K : PySem.W.Frag} {ms : List Addr} {ps : List PEn} {H0 H1 : Hp} {g : TG} {tb : TS} {D' : Ends} {σ : L2.St} {cs : S → List (Addr × List V)}
end

section
variable {K : PySem.W.Frag} {ms : List Addr} {H : Hp} {d : D} {u x y : V}
theorem repL_uncons {ds : List D} {vs : List V} (h : repL ms H (d :: ds) vs) : ∃ u us, vs = u :: us ∧ rep ms H d u ∧ repL ms H ds us := by
  simp only [repL] at h
  exact h
theorem repL_empty {vs : List V} (h : repL ms H [] vs) : vs = [] := by
  simp only [repL] at h
  exact h
theorem repL_strs {ns : List Str} {vs : List V} (h : repL ms H (ns.map fun n => D.v (.str n)) vs) : vs = ns.map V.str := by
  have e : (ns.map fun n => D.v (.str n)) = (ns.map V.str).map D.v := by rw [List.map_map]; rfl
  rw [e] at h
  exact repL_flat.mp h
theorem rep_join {a : Str} {ys : List Str} {P : Str → List Str → Prop} (h : rep ms H (.lst (ys.map fun n => D.v (.str n))) x) (hz : (ys.map (·.length)).sum + ys.length * a.length ≤ 16777216) (k : P a ys) :
    ∃ a' p, ∃ ys : List Str, V.str a = .str a' ∧ [x] = [.ref p] ∧ (SqL K H p (ys.map V.str) ∨ SqT K H p (ys.map V.str)) ∧ (ys.map (·.length)).sum + ys.length * a'.length ≤ 16777216 ∧ P a' ys := by
  simp only [rep] at h
  obtain ⟨p, vs, e, _, hp, hr⟩ := h
  have ev := repL_strs hr
  subst ev e
  exact ⟨a, p, ys, rfl, rfl, .inl (.inl (.inl hp)), hz, k⟩
mutual
def pyOf : D → PyData
  | .v .non => .none
  | .v (.bl b) => .bool b
  | .v (.int i) => .int i
  | .v (.str z) => .str z
  | .v _ => .none
  | .lst ds => .list (pyL ds)
  | .tup ds => .tuple (pyL ds)
  | .ins _ _ _ => .none
  | .dct _ _ => .none
  | .dcT _ _ => .none
def pyL : List D → List PyData
  | [] => []
  | d :: ds => pyOf d :: pyL ds
def plainD : D → Bool
  | .v .non => true
  | .v (.bl _) => true
  | .v (.int _) => true
  | .v (.str _) => true
  | .v _ => false
  | .lst ds => plainL ds
  | .tup ds => plainL ds
  | .ins _ _ _ => false
  | .dct _ _ => false
  | .dcT _ _ => false
def plainL : List D → Bool
  | [] => true
  | d :: ds => plainD d && plainL ds
end
mutual
theorem dp_of : ∀ (d : D) (u : V), plainD d = true → rep ms H d u → Dp K H u (pyOf d)
  | .v x, u, p, h => by
    have e := of_v h
    subst e
    cases u <;> simp only [pyOf, plainD] at p ⊢ <;> first | exact .non | exact .bl _ | exact .int _ | exact .str _ | cases p
  | .lst ds, u, p, h => by
    simp only [rep] at h
    obtain ⟨a, vs, e, _, hp, hr⟩ := h
    subst e
    simp only [pyOf, plainD] at p ⊢
    exact .lst (.inl (.inl hp)) (dpL_of ds vs p hr)
  | .tup ds, u, p, h => by
    simp only [rep] at h
    obtain ⟨a, vs, e, _, hp, hr⟩ := h
    subst e
    simp only [pyOf, plainD] at p ⊢
    exact .tup (.inl (.inl hp)) (dpL_of ds vs p hr)
  | .ins _ _ _, u, p, h => by
    simp only [plainD] at p
    cases p
  | .dct _ _, u, p, h => by
    simp only [plainD] at p
    cases p
  | .dcT _ _, u, p, h => by
    simp only [plainD] at p
    cases p
theorem dpL_of : ∀ (ds : List D) (vs : List V), plainL ds = true → repL ms H ds vs → DpAll K H vs (pyL ds)
  | [], vs, p, h => by
    have e := repL_empty h
    subst e
    simp only [pyL]
    exact .nil
  | d :: ds, vs, p, h => by
    obtain ⟨u, us, e, h1, h2⟩ := repL_uncons h
    subst e
    simp only [plainL, Bool.and_eq_true] at p
    simp only [pyL]
    exact .cons (dp_of d u p.1 h1) (dpL_of ds us p.2 h2)
end
theorem rep_neD {d e : D} {Q : VK} (h1 : rep ms H d x) (h2 : rep ms H e y) (p1 : plainD d = true) (p2 : plainD e = true) (s1 : SeqAt.shaped (pyOf d) = true) (s2 : SeqAt.shaped (pyOf e) = true) (k : Q (.bl (!PyData.eqv (pyOf d) (pyOf e))) H) : rNeD K x y H Q :=
  ⟨_, _, dp_of d x p1 h1, dp_of e y p2 h2, s1, s2, k⟩
end

section
variable {ms : List Addr} {H H' H1 : Hp} {d : D} {u : V} {l : Addr}
theorem Keep.trans (a : Keep ms H1 H) (b : Keep ms H H') : Keep ms H1 H' := fun x o n h => b x o n (a x o n h)
theorem Keep.new (k : Keep ms H1 H) : Keep (l :: ms) H1 H := fun x o n h => k x o (fun z => n (List.mem_cons_of_mem _ z)) h
theorem rep_new (nl : H l = none) (h : rep ms H d u) : rep (l :: ms) H d u := rep_map (fun p o n hp => ⟨fun z => by
  rcases List.mem_cons.mp z with z | z
  · exact ne_of_none hp nl z
  · exact n z, hp⟩) d u h
theorem repL_new {ds : List D} {us : List V} (nl : H l = none) (h : repL ms H ds us) : repL (l :: ms) H ds us := repL_map (fun p o n hp => ⟨fun z => by
  rcases List.mem_cons.mp z with z | z
  · exact ne_of_none hp nl z
  · exact n z, hp⟩) ds us h
end

section
variable {X : Cx} {CX : CXT} {k : Nat} {f C : Addr} {fd : FuncData} {ps ks : List Str} {sp : Sp} {E : XK} {m : Str} {apos pos : Pos} {o : Expr} {kws : List Keyword} {ta : TE} {tk : TA} {g : List Value → List Value → List Value} {gV : List V → List V → List V}
end
end Rx
namespace Rx
open PySem PySem.Spec PyProof.Rows L2
theorem tyes_of {σ : L2.St} {H : Hp} {A B : Hp → Prop} (h : A H) : tYes σ H fun b H3 => if b = true then A H3 else B H3 := by
  show (if true = true then A H else B H)
  rw [if_pos rfl]
  exact h
theorem Ret.keep {H H' : Hp} (e : Ret [] H H') {a : Addr} {o : HO} (h : H a = some o) : H' a = some o := e.kp a o (by simp) h
end Rx
namespace Rx
open PySem PySem.Spec PyProof.Rows L2
section
variable {X : Cx}
end

structure OwnEq (K : PySem.W.Frag) (C f : Addr) : Prop where
  hs : PySem.W.findIn K (.ref C) "__eq__" = some (some (.ref f))
  hf : PySem.W.isFn K (.ref f) = true
section
variable {K : PySem.W.Frag} {ms : List Addr} {ps : List PEn} {cs : List (Addr × List V)} {H H0 H1 : Hp} {d : D} {u x y : V}
theorem rep_cat {α : Type} {xs ys : List α} {e : α → D} {Q : VK} (w : Wd ms ps cs H0 H) (h1 : rep ms H (.lst (xs.map e)) x) (h2 : rep ms H (.lst (ys.map e)) y) (hz : xs.length + ys.length ≤ sizeLine)
    (k : ∀ p H', Ret [] H H' → rep ms H' (.lst ((xs ++ ys).map e)) (.ref p) → Q (.ref p) H') : rCat x y H Q := by
  simp only [rep] at h1 h2
  obtain ⟨p, vs, rfl, np, hp, r1⟩ := h1
  obtain ⟨q, us, rfl, nq, hq, r2⟩ := h2
  have l1 := repL_len r1
  have l2 := repL_len r2
  rw [List.length_map] at l1 l2
  refine ⟨p, q, vs, us, rfl, rfl, hp, hq, by rw [← l1, ← l2]; exact hz, fun a na => ?_⟩
  have ee : Ret [] H (upd H a (.lst (vs ++ us))) := Ext.new na
  refine k a _ ee ?_
  simp only [rep]
  refine ⟨a, vs ++ us, rfl, fun z => w.tr a z na, upd_same, ?_⟩
  rw [List.map_append]
  exact repL_app (repL_ext ee r1) (repL_ext ee r2)
structure IsC (K : PySem.W.Frag) (C : Addr) : Prop where
  cl : Cls K C
  ha : PySem.W.findIn K (.ref C) "__class__" = some (some (.builtin "object.__class__"))
  hn : PySem.W.specialIn K (.builtin "object.__class__") "__get__" = some (some (.builtin "getset_descriptor.__get__"))
  tk : PySem.W.takesIn K (.builtin "object.__class__") = some true
  hm : PySem.W.mroIn K C (.type "object") = some true
theorem kd_nil {w : World} {a : Addr} : ∀ z c : Str, ([] : List (Str × Str)).lookup z = some c → KDct K w a z (.str c) := fun _ _ h => by cases h
theorem kd_cons {w : World} {a : Addr} {k v : Str} {l : List (Str × Str)} (h : KDct K w a k (.str v)) (t : ∀ z c : Str, l.lookup z = some c → KDct K w a z (.str c)) : ∀ z c : Str, ((k, v) :: l).lookup z = some c → KDct K w a z (.str c) := by
  intro z c e
  rw [List.lookup_cons] at e
  by_cases q : (z == k) = true
  · rw [q] at e
    have e1 : v = c := Option.some.inj e
    subst e1
    rw [eq_of_beq q]
    exact h
  · have q' : (z == k) = false := by simpa using q
    rw [q'] at e
    exact t z c e
theorem rep_ixD {w : World} {a : Addr} {l : List (Str × Str)} {z c : Str} {Q : VK} (t : ∀ z c : Str, l.lookup z = some c → KDct K w a z (.str c)) (h : l.lookup z = some c) (q : Q (.str c) H) : rIxD K w (.ref a) (.str z) H Q :=
  ⟨a, z, .str c, rfl, rfl, t z c h, q⟩
theorem ix_kdictW {X : Cx} {w : World} (hK : X.K = K) (hw : X.w = w) : IxR X (rIxD K w) := by
  subst hK hw
  exact ix_kdict
end
def signs (x : Str) : List Str := x.cps.toList.map fun c => ⟨#[c]⟩
theorem signs_len {x : Str} : (signs x).length = x.cps.size := by simp [signs]
theorem signs_get {x : Str} {i : Nat} {c : Nat} (h : x.cps[i]? = some c) : (signs x)[i]? = some ⟨#[c]⟩ := by
  simp only [signs, List.getElem?_map, Array.getElem?_toList, h]
  rfl
section
variable {β : Type} {K : PySem.W.Frag} {ms : List Addr} {ps : List PEn} {cs : List (Addr × List V)} {H0 H1 : Hp} {g : TG} {tt : TT} {te : TE} {vl : List Nat} {σ : L2.St} {Qd : Hp → Prop}
end
section
variable {M : Model} {prog : Program} {w : World} {A : Around} {E : Value → Shared → Prop} {s : Shared} {K : PySem.W.Frag} {x y C : Addr} {ox : Obj} {od : Option Obj}
end
structure OwnNe (K : PySem.W.Frag) (C : Addr) : Prop where
  hne : PySem.W.findIn K (.ref C) "__ne__" = some (some (.builtin "object.__ne__"))
  hm : PySem.W.mroIn K C (.type "object") = some true
mutual
def noL : D → Bool
  | .v _ => true
  | .lst _ => false
  | .tup ds => noLs ds
  | .ins _ _ ds => noLs ds
  | .dct _ ds => noLs ds
  | .dcT _ ds => noLs ds
def noLs : List D → Bool
  | [] => true
  | d :: ds => noL d && noLs ds
end
section
variable {ms : List Addr} {ps : List PEn} {cs : List (Addr × List V)} {H0 H H' : Hp} {L : Addr} {vs : List V}
mutual
theorem rep_lift0 (hL : H L = some (.lst vs)) : ∀ (d : D) (u : V), noL d = true → rep ms H d u → rep (L :: ms) H d u
  | .v x, u, _, h => by
    simp only [rep] at h ⊢
    exact h
  | .lst ds, u, n, h => by
    simp only [noL] at n
    cases n
  | .tup ds, u, n, h => by
    simp only [noL] at n
    simp only [rep] at h ⊢
    obtain ⟨p, us, e, np, hp, hl⟩ := h
    refine ⟨p, us, e, fun z => ?_, hp, repL_lift0 hL ds us n hl⟩
    rcases List.mem_cons.mp z with z | z
    · rw [z, hL] at hp
      cases hp
    · exact np z
  | .ins C ns ds, u, n, h => by
    simp only [noL] at n
    simp only [rep] at h ⊢
    obtain ⟨p, dx, us, e, np, hp, hn, hl⟩ := h
    refine ⟨p, dx, us, e, fun z => ?_, hp, hn, repL_lift0 hL ds us n hl⟩
    rcases List.mem_cons.mp z with z | z
    · rw [z, hL] at hp
      cases hp
    · exact np z
  | .dct ks ds, u, n, h => by
    simp only [noL] at n
    simp only [rep] at h ⊢
    obtain ⟨p, us, e, np, hp, hn, hl⟩ := h
    refine ⟨p, us, e, fun z => ?_, hp, hn, repL_lift0 hL ds us n hl⟩
    rcases List.mem_cons.mp z with z | z
    · rw [z, hL] at hp
      cases hp
    · exact np z
  | .dcT ks ds, u, n, h => by
    simp only [noL] at n
    simp only [rep] at h ⊢
    obtain ⟨p, us, e, np, hp, hn, hl⟩ := h
    refine ⟨p, us, e, fun z => ?_, hp, hn, repL_lift0 hL ds us n hl⟩
    rcases List.mem_cons.mp z with z | z
    · rw [z, hL] at hp
      cases hp
    · exact np z
theorem repL_lift0 (hL : H L = some (.lst vs)) : ∀ (ds : List D) (us : List V), noLs ds = true → repL ms H ds us → repL (L :: ms) H ds us
  | [], us, _, h => by
    simp only [repL] at h ⊢
    exact h
  | d :: ds, us, n, h => by
    simp only [noLs, Bool.and_eq_true] at n
    simp only [repL] at h ⊢
    obtain ⟨u, ws, e, h1, h2⟩ := h
    exact ⟨u, ws, e, rep_lift0 hL d u n.1 h1, repL_lift0 hL ds ws n.2 h2⟩
end
structure Mut (ms : List Addr) (ps : List PEn) (cs : List (Addr × List V)) (H0 H : Hp) (L : Addr) (ds : List D) : Prop where
  hp : L ∉ ad ps
  h0 : H0 L = none
  hc : ∀ c ∈ cs, c.1 ≠ L
  nm : L ∉ ms
  val : ∃ vs, H L = some (.lst vs) ∧ repL (L :: ms) H ds vs
variable {ds : List D} {d : D} {u : V}
end
section
variable {ms : List Addr} {ps : List PEn} {cs : List (Addr × List V)} {H0 H H1 H' : Hp} {L : Addr} {K : PySem.W.Frag} {x : V}
end
theorem turn_long {P : Program} {w : World} {K : PySem.W.Frag} {tg : Expr} (it : Addr) (lo : Int) (n : Nat) : Turn P w K tg (Itr lo n) [it] it (fun i h => IsLongIter h it (lo + (i : Nat) * 1) ((n : Int) - (i : Nat)) 1) where
  mem := by simp
  obj := fun i h st b hb => by
    have e : b = it := by simpa using hb
    subst e
    exact ⟨_, st, fun v z => by
      have z' : Data.fields _ = Data.cell v := z
      cases z'⟩
  keep := fun i h h' st k => k it (by simp) _ st
  item := by
    intro X hP hw hK hc i pins s σ H E I hf st hg
    subst hP hw hK
    obtain ⟨f0, f1, f2, f3, f4, f5⟩ := hf it (by simp)
    have W := Walks.longrange (prog := X.prog) (w := X.w) (I.ok.hd hc) it lo 1 n
    refine W.item i s _ _ hg st fun v h' tk hv st' kk => ?_
    obtain ⟨t, rfl⟩ := hv
    have I1 : Inv X pins σ H { s with heap := h', toks := tk } := I.turned (fun b o hb e => kk b o (by simpa using hb) e) f0 f1 f3 f4 f5
    refine ⟨_, rfl, go_of (s := { s with heap := h', toks := tk }) (n := "longrange_iterator") st' rfl rfl (by decide) ⟨.int (lo + i), H, I1, ⟨t, ?_⟩, ⟨rfl, rfl⟩, st', fun b hb => (hf b hb).1⟩⟩
    rw [Int.mul_one]
  done := by
    intro X hP hw hK hc i pins s σ H E I hf st hg
    subst hP hw hK
    obtain ⟨f0, f1, f2, f3, f4, f5⟩ := hf it (by simp)
    exact wpAny_pyNext_long_end (I.ok.hd hc) st (by have : n ≤ i := hg; omega) fun h' eb => ⟨rfl, I.turned (t' := s.toks) (fun b o hb e => eb b o hb e) f0 f1 f3 f4 f5⟩
  self := fun _ _ _ _ _ st h => wpAny_pyIter_longiter st h
section
variable {X : Cx} {tg : Expr}
theorem range_itW {pins : List (Addr × Obj)} {σ : L2.St} {H : Hp} {s : Shared} {R : It → Hp → Prop} {E : Value → Shared → Prop} {lo hi : Int} {t u v : Tok} {tk : Nat} (I : Inv X pins σ H s)
    (q : R (Itr lo (hi - lo).toNat) H) : wpAny (model X.prog X.w) X.A (pyIter (.ref s.heap.objs.size)) (PIE X pins σ tg R) E { s with heap := s.heap.push { cls := .type "range", data := .fields #[.int lo t, .int hi u, .int 1 v] }, toks := tk } := by
  have I1 : Inv X pins σ H { s with heap := s.heap.push { cls := .type "range", data := .fields #[.int lo t, .int hi u, .int 1 v] }, toks := tk } := I.kept fun b o e => Heap.get?_push_of_some _ e
  have e1 : lo + ((0 : Nat) : Int) * 1 = lo := by simp
  have e2 : (((hi - lo).toNat : Nat) : Int) - ((0 : Nat) : Int) = Builtin.Range.rangeSize lo hi 1 := by rw [rangeSize_one]; split <;> omega
  cases hs : Builtin.Range.small lo hi 1 with
  | true =>
    refine wpAny_pyIter_range (IsRange.new ..) hs ?_
    refine ⟨(s.heap.push { cls := .type "range", data := .fields #[.int lo t, .int hi u, .int 1 v] }).objs.size, [(s.heap.push { cls := .type "range", data := .fields #[.int lo t, .int hi u, .int 1 v] }).objs.size], _, _, H, rfl,
      I1.kept (t' := tk) fun b o e => Heap.get?_push_of_some _ e, turn_range _ lo (hi - lo).toNat, ?_, fun b hb => ?_, q⟩
    · show IsRangeIter _ _ (lo + ((0 : Nat) : Int) * 1) ((((hi - lo).toNat : Nat) : Int) - ((0 : Nat) : Int)) 1
      rw [e1, e2]
      exact Heap.get?_push_size _ rfl
    · have e : b = (s.heap.push { cls := .type "range", data := .fields #[.int lo t, .int hi u, .int 1 v] }).objs.size := by simpa using hb
      subst e
      exact I1.fpOk (Nat.le_refl _) (I1.hok.fresh (Nat.le_refl _))
  | false =>
    refine wpAny_pyIter_longrange (IsRange.new ..) hs ?_
    refine ⟨(s.heap.push { cls := .type "range", data := .fields #[.int lo t, .int hi u, .int 1 v] }).objs.size, [(s.heap.push { cls := .type "range", data := .fields #[.int lo t, .int hi u, .int 1 v] }).objs.size], _, _, H, rfl,
      I1.kept (t' := tk) fun b o e => Heap.get?_push_of_some _ e, turn_long _ lo (hi - lo).toNat, ?_, fun b hb => ?_, q⟩
    · show IsLongIter _ _ (lo + ((0 : Nat) : Int) * 1) ((((hi - lo).toNat : Nat) : Int) - ((0 : Nat) : Int)) 1
      rw [e1, e2]
      exact Heap.get?_push_size _ rfl
    · have e : b = (s.heap.push { cls := .type "range", data := .fields #[.int lo t, .int hi u, .int 1 v] }).objs.size := by simpa using hb
      subst e
      exact I1.fpOk (Nat.le_refl _) (I1.hok.fresh (Nat.le_refl _))
def iRngW1 (ta : TA) : TI := fun σ H R => ta σ H fun vs H1 => ∃ j : Int, vs = [.int j] ∧ R (Itr 0 j.toNat) H1
def iRngW2 (ta : TA) : TI := fun σ H R => ta σ H fun vs H1 => ∃ i j : Int, vs = [.int i, .int j] ∧ R (Itr i (j - i).toNat) H1
theorem pi_rangeW1 {a : Expr} {ta : TA} {p pos : Pos} (hg : Gl X "range") (hm : X.mg "range" = none) (ha : PA X [a] ta) (hs : starEach [a] X.env = [(false, eval a X.env)] := by rfl) : PI X tg (.Call (.Name "range" p) [a] [] pos) (iRngW1 ta) := by
  refine ⟨fun pins s σ H R I h => ?_⟩
  refine Call_ (ld_blt I hg hm boot_range (PyProof.Rows.callWith_type1 (thn (ha.run pos pins s σ H _ I h) fun us s1 ⟨vs, H1, I1, r1, q1⟩ => ?_) hs rfl))
  obtain ⟨j, e, q⟩ := q1
  subst e
  cases r1 with
  | cons r rr =>
    cases rr
    obtain ⟨t, rfl⟩ := r
    exact call_range_1 (range_itW I1 (by simpa using q))
theorem pi_rangeW2 {a b : Expr} {ta : TA} {p pos : Pos} (hg : Gl X "range") (hm : X.mg "range" = none) (ha : PA X [a, b] ta) (hs : starEach [a, b] X.env = [(false, eval a X.env), (false, eval b X.env)] := by rfl) (hs2 : starEach [b] X.env = [(false, eval b X.env)] := by rfl) :
    PI X tg (.Call (.Name "range" p) [a, b] [] pos) (iRngW2 ta) := by
  refine ⟨fun pins s σ H R I h => ?_⟩
  refine Call_ (ld_blt I hg hm boot_range (PyProof.Rows.callWith_type1 (thn (ha.run pos pins s σ H _ I h) fun us s1 ⟨vs, H1, I1, r1, q1⟩ => ?_) (by rw [hs, hs2]) (by rw [hs2]; rfl)))
  obtain ⟨i, j, e, q⟩ := q1
  subst e
  cases r1 with
  | cons r rr =>
    cases rr with
    | cons r' rr =>
      cases rr
      obtain ⟨t, rfl⟩ := r
      obtain ⟨t', rfl⟩ := r'
      exact call_range_2 (range_itW I1 q)
end
end Rx
namespace Rx
open PySem PySem.Spec PyProof.Rows L2
structure FnG (P : Program) (w : World) (K : PySem.W.Frag) (mg : Str → Option Value) (base : Heap) (k : Nat) (f : Addr) (fd : FuncData) (ps : List Str) (sp : Sp) : Prop where
  len : ∀ vs H Q E, sp vs H Q E → vs.length = ps.length
  run : ∀ (A : Around), A.guards = some [] → Room k A → ∀ (outer : List Env) (s : Shared) (H : Hp) (args : Args) (us : List Value) (vs : List V) (Q : VK) (E : XK), Env0 P w K mg base A outer s H → BindsTo s fd args (ps.zip us) → Vals vs us → sp vs H Q E →
    codeAny (model P w) A (.call (.ref f) args) (CR CX0 outer P w H s Q E) s
theorem FnG.of {P : Program} {w : World} {K : PySem.W.Frag} {mg : Str → Option Value} {base : Heap} {k : Nat} {f : Addr} {fd : FuncData} {ps : List Str} {sp : Sp} (F : FnOk P w K mg base CX0 k f fd ps sp) : FnG P w K mg base k f fd ps sp :=
  ⟨F.len, fun A _ hr outer s H args us vs Q E => F.run A outer s H args us vs Q E hr⟩
section
variable {X : Cx} {k : Nat} {f : Addr} {fd : FuncData} {ps : List Str} {sp : Sp} {x : Str} {e : Expr} {es : List Expr} {p pos : Pos} {t : TA}
theorem runG {pins : List (Addr × Obj)} {σ : L2.St} {H : Hp} {s : Shared} {Q : VK} {us : List Value} {vs : List V} (F : FnG X.prog X.w X.K X.mg X.base k f fd ps sp) (hg : X.A.guards = some []) (hr : Room k X.A) (hb : Binds X.K fd ps [])
    (I : Inv X pins σ H s) (r : Vals vs us) (h : sp vs H Q E0) : wpAny (model X.prog X.w) X.A (call (.ref f) us) (EP X pins σ Q) X.xe s := by
  have hl : us.length = ps.length := r.length.symm.trans (F.len _ _ _ _ h)
  have bt := hb s us I.kIn (by rw [List.append_nil]; exact hl)
  rw [List.append_nil] at bt
  refine wpAny_call (codeAny_mono (F.run X.A hg hr X.stack s H ⟨us, []⟩ us vs Q E0 I.env0 bt r h) fun out s' hq => ?_)
  rcases out with err | fl
  · exact pass0 pins σ H s err s' I hq
  · rcases fl with _ | _ | _ | u
    all_goals first | exact I.after hq | exact hq.elim
theorem pe_callG (F : FnG X.prog X.w X.K X.mg X.base k f fd ps sp) (gu : X.A.guards = some []) (hr : Room k X.A) (hg : Gl X x) (hm : X.mg x = some (.ref f)) (hk : PySem.W.keepIn X.K (.ref f) = true) (hb : Binds X.K fd ps []) (ha : PA X (e :: es) t)
    (hdb : (x == ("__debug__" : Str)) = false := by decide) (he : starEach (e :: es) X.env = (false, eval e X.env) :: starEach es X.env := by rfl) (hpl : (backTo pos (starEach es X.env)).any (·.1) = false := by rfl) :
    PE X (.Call (.Name x p) (e :: es) [] pos) (tCall sp [] E0 t) :=
  ⟨fun pins s σ H Q I h => wpAny_Call_Name_kw (ld_glob I hg hm (PySem.W.callWith_K (h₀ := X.base) I.ok.mod.kin hk (thn (ha.run pos pins s σ H _ I h) fun us s1 ⟨vs, H1, I1, r, q⟩ => ⟨I1.kIn, runG F gu hr hb I1 r (by have q' : sp (vs ++ []) H1 Q E0 := q; rwa [List.append_nil] at q')⟩) he hpl) hdb)⟩
end
section
variable {P : Program} {w : World} {K : PySem.W.Frag} {mg : Str → Option Value} {base : Heap}
theorem okG {x qual : Str} {st : Stmt} {f : Addr} {fd : FuncData} {N ps : List Str} {k : Nat} {sp : Sp} (F : Fun K x qual st f fd) (S : FnScope N ps (defScope st)) (len : ∀ vs H Q E, sp vs H Q E → vs.length = ps.length)
    (hbody : ∀ (cdv : Value) (A : Around) (outer : List Env) (s : Shared) (H : Hp) (vs : List V) (Q : VK) (E : XK), A.guards = some [] → Room k (A.deeper (envOfC qual (defScope st) s.heap.objs.size f cdv)) → sp vs H Q E →
      ∃ t, PSs (cxOf CX0 P w K mg base N qual (defScope st) f cdv A outer s H E).nox (defBody st) t ∧ t { nx := fun _ H' => Q .non H', rt := Q } (start N vs) H) : FnG P w K mg base (k + 1) f fd ps sp := by
  obtain ⟨oc, od, kV, doc, pm, an, cdv, ct, osl, rfl, lk, hcd⟩ := F.ex
  refine ⟨len, fun A gu hr outer s H args us vs Q E en bt rv hs => ?_⟩
  have inK : K.In s.heap := en.mod.kin.keeps fun b o h => (en.bs b o h).1
  have names : ∀ y ∈ ps.zip us, (defScope st).names.lookup y.1 = some .local ∨ ((defScope st).names.lookup y.1 = some .cell ∧ ((cellsFrom (s.heap.objs.size + 1) (defScope st).names []).lookup y.1).isSome = true) := by
    rintro ⟨n, v⟩ hy
    exact (S.par n (List.of_mem_zip hy).1).imp id fun q => ⟨q, PySem.W.cellsFrom_some _ _ _ (.inl q)⟩
  refine codeAny_call_function hr.depth (inK _ _ lk) rfl S.co S.gen rfl (PySem.W.codeRec_of inK hcd) (bt _ _ _ _ (wpAny_newFunctionEnv_cells S.kind names fun env he s1 inner => ?_))
  subst he
  refine ⟨(en.mod.nolimit.keeps fun b o h => (en.bs b o h).1).keeps inner.toInCall.keep, codeAny_func ?_⟩
  obtain ⟨t, ht, hq⟩ := hbody cdv A outer s H vs Q E gu (hr.deeper _) hs
  have start0 : Inv (cxOf CX0 P w K mg base N qual (defScope st) f cdv A outer s H E) [] (start N vs) H s1 := inv_start S hr.hd en (len _ _ _ _ hs) rv inner
  have leave : ∀ {σ' : L2.St} {H' : Hp} {v : V} {u : Value} {s' : Shared}, Inv (cxOf CX0 P w K mg base N qual (defScope st) f cdv A outer s H E) [] σ' H' s' → RelV v u → Q v H' → CE outer P w H s Q u s' :=
    fun {σ' H' v u s'} J r q => ⟨v, H', J.os, J.bare, J.base, J.hok, r, q⟩
  refine wpAny_mono (ht.nox.run [] s1 (start N vs) H _ start0 hq) (fun fl s' hs' => ?_) fun _ _ h => h
  rcases fl with _ | _ | _ | u
  · obtain ⟨σ', H', J, q⟩ := hs'
    exact leave (v := V.non) (u := Value.none) J rfl q
  · obtain ⟨_, _, _, q⟩ := hs'
    exact q.elim
  · obtain ⟨_, _, _, q⟩ := hs'
    exact q.elim
  · obtain ⟨v, σ', H', J, r, q⟩ := hs'
    exact leave J r q
end
section
variable {P : Program} {w : World} {K : PySem.W.Frag} {mg mb : Str → Option Value} {k : Nat} {fa a : Addr} {fd : FuncData} {x : Str} {sp : Sp} {s1 : Shared} {vs : List Value} {ns : List Int}
abbrev EndG (h : Heap) (os : OsState) (r : Result) (s' : Shared) : Prop := r = .ok (.ret (.bool true)) ∧ OldK h s'.heap ∧ s'.os = os ∧ AllBare s'.gens
theorem callG_at (inK : K.In s1.heap) (top : s1.heap.Ns mainGlobals mg) (bl : s1.heap.Ns builtinsNs mb) (blb : ∀ x : Str, x ≠ "__name__" → mb x = bootBuiltins x) (nl : s1.heap.NoLimit) (ng : s1.gens = #[])
    (obj : s1.heap.get? a = some { cls := .type "list", data := .seq vs.toArray }) (hr : Room k callerA) (F : ∀ base : Heap, K.In base → base.Ns mainGlobals mg → FnG P w K mg base k fa fd [x] sp) (bind : ∀ (s : Shared) (u : Value), BindsTo s fd ⟨[u], []⟩ [(x, u)])
    {H : Hp} (only : Only H) (ok : HOk P w H s1.heap) (at_a : ∀ b, H b ≠ none → b = a) (own : H a ≠ none → K.lookup a = none) (q : sp [.ref a] H (fun v _ => v = .bl true) E0) :
    codeAny (model P w) callerA (.call (.ref fa) ⟨[.ref a], []⟩) (EndG s1.heap s1.os) s1 := by
  have told : ∀ b, H b = none ∨ b = a := fun b => (Classical.em (H b = none)).imp id (at_a b)
  have keepN : ∀ {b : Addr} {m : Str → Option Value}, s1.heap.Ns b m → (hidT s1.heap H).Ns b m := fun {b m} ⟨o, es, ep, e, d, r⟩ => ⟨o, es, ep, hidT_get e ((told b).elim id fun z => by
    subst z
    rw [obj] at e
    cases e
    cases (show Data.seq vs.toArray _ = Data.dict es ep from d)), d, r⟩
  have keepK : K.In (hidT s1.heap H) := fun b o e => hidT_get (inK b o e) ((told b).elim id fun z => by
    subst z
    exact Classical.byContradiction fun n => by
      rw [own n] at e
      cases e)
  have md : Mod K mg (hidT s1.heap H) := ⟨keepK, keepN top, ⟨mb, keepN bl, blb⟩, nl.imp fun _ h => ⟨keepN h.1, h.2⟩⟩
  have en : Env0 P w K mg (hidT s1.heap H) callerA [] s1 H := ⟨rfl, md, fun b o e => of_hidT e, Nat.le_of_eq (hidT_size _ _), trivial, fun b hb => (List.not_mem_nil hb).elim, ok, .of_eq ng⟩
  refine codeAny_mono ((F _ keepK (keepN top)).run callerA rfl hr [] s1 H ⟨[.ref a], []⟩ [.ref a] [.ref a] _ _ en (bind s1 (.ref a)) (.cons rfl .nil) q) fun r s' h => ?_
  rcases r with e | fl
  · exact (show False from h).elim
  · rcases fl with _ | _ | _ | u
    · exact (show False from h).elim
    · exact (show False from h).elim
    · exact (show False from h).elim
    · obtain ⟨v, H', os, bare, un, ok', rv, qv⟩ := h
      cases (show v = .bl true from qv)
      cases (show u = Value.bool true from rv)
      refine ⟨rfl, OldK.of_keep fun b o e => ?_, os, bare⟩
      rcases only b with z | ⟨ob, xs, z⟩
      · exact un.keep b o e z (List.not_mem_nil) (List.not_mem_nil)
      · have e1 := (ok b _ z).1
        have e2 := (ok' b _ (un.frzs b ob _ z)).1
        exact (Option.some.inj (e.symm.trans e1)) ▸ e2
theorem callG (inK : K.In s1.heap) (top : s1.heap.Ns mainGlobals mg) (bl : s1.heap.Ns builtinsNs mb) (blb : ∀ x : Str, x ≠ "__name__" → mb x = bootBuiltins x) (nl : s1.heap.NoLimit) (ng : s1.gens = #[])
    (obj : s1.heap.get? a = some { cls := .type "list", data := .seq vs.toArray }) (its0 : IntsAre vs ns) (small : ns.length ≤ sizeLine) (hr : Room k callerA) (F : ∀ base : Heap, K.In base → base.Ns mainGlobals mg → FnG P w K mg base k fa fd [x] sp)
    (bind : ∀ (s : Shared) (u : Value), BindsTo s fd ⟨[u], []⟩ [(x, u)]) (q : ∀ H : Hp, Only H → SqL K H a (ns.map V.int) → sp [.ref a] H (fun v _ => v = .bl true) E0) :
    codeAny (model P w) callerA (.call (.ref fa) ⟨[.ref a], []⟩) (EndG s1.heap s1.os) s1 := by
  have rv := vals_ints its0
  have lv := its0.length
  cases hk : K.lookup a with
  | some o =>
    have e := inK a o hk
    rw [obj] at e
    cases e
    have sq : SqL K (fun _ => none) a (ns.map V.int) := .inr ⟨_, vs.toArray, _, hk, rfl, rfl, rfl, by rw [List.size_toArray, lv]; exact small, by simpa using rv⟩
    exact callG_at inK top bl blb nl ng obj hr F bind (H := fun _ => none) (fun _ => .inl rfl) (fun b u z => nomatch (show (none : Option HO) = some u from z)) (fun b z => absurd rfl z) (fun z => absurd rfl z) (q _ (fun _ => .inl rfl) sq)
  | none =>
    generalize hH : (fun b => if b = a then some (HO.frz { cls := .type "list", data := .seq vs.toArray } (.lst (ns.map V.int))) else none : Hp) = H
    have here : H a = some (.frz { cls := .type "list", data := .seq vs.toArray } (.lst (ns.map V.int))) := by rw [← hH]; exact if_pos rfl
    have else_ : ∀ b, b ≠ a → H b = none := fun b n => by rw [← hH]; exact if_neg n
    have only : Only H := fun b => (Classical.em (b = a)).elim (fun e => .inr ⟨{ cls := .type "list", data := .seq vs.toArray }, ns.map V.int, by rw [e]; exact here⟩) fun n => .inl (else_ b n)
    refine callG_at inK top bl blb nl ng obj hr F bind only (fun b u z => ?_) (fun b z => Classical.byContradiction fun n => z (else_ b n)) (fun _ => hk) (q _ only (.inl (.inr ⟨_, here⟩)))
    by_cases e : b = a
    · subst e
      rw [here] at z
      cases z
      exact ⟨obj, by rw [List.length_map]; exact small, vs, _, rv, obj⟩
    · rw [else_ b e] at z
      cases z
end
section
variable {K : PySem.W.Frag} {ms : List Addr} {H : Hp} {d : D} {x : V}
end
section
variable {β : Type} {K : PySem.W.Frag} {ms : List Addr} {ps : List PEn} {cs : List (Addr × List V)} {H0 H1 : Hp} {g : TG} {tt : TT} {te : TE} {vl : List Nat} {σ : L2.St} {Qd : Hp → Prop}
variable {x : V} {H : Hp}
end
structure OwnText (K : PySem.W.Frag) (C : Addr) (name : Str) (f : Addr) : Prop where
  hs : PySem.W.findIn K (.ref C) name = some (some (.ref f))
  hf : PySem.W.isFn K (.ref f) = true
section
variable {X : Cx} {n : Nat} {CX : CXT} {C f : Addr} {fd : FuncData} {ps : List Str} {sp : Sp} {E : XK}
end
def encO {α : Type} (e : α → D) : Option α → D
  | none => .v .non
  | some y => e y
end Rx
namespace Rx
open PySem PySem.Spec PyProof.Rows L2
section
variable {K : PySem.W.Frag} {ms : List Addr} {ps : List PEn} {cs : List (Addr × List V)} {H0 H H1 H' : Hp} {x : V} {ds : List D}
theorem wd_none {p : Addr} (w : Wd ms ps cs H0 H) (np : H p = none) : H0 p = none := by
  cases q : H0 p with
  | none => rfl
  | some o => exact absurd np (w.grow p (by rw [q]; exact fun z => nomatch z))
mutual
theorem rep_noL {L : Addr} {vs vs' : List V} (hL : H L = some (.lst vs)) : ∀ (d : D) (u : V), noL d = true → rep ms H d u → rep ms (upd H L (.lst vs')) d u
  | .v x, u, _, h => by
    simp only [rep] at h ⊢
    exact h
  | .lst ds, u, n, h => by
    simp only [noL] at n
    cases n
  | .tup ds, u, n, h => by
    simp only [noL] at n
    simp only [rep] at h ⊢
    obtain ⟨p, us, e, np, hp, hl⟩ := h
    refine ⟨p, us, e, np, ?_, repL_noL hL ds us n hl⟩
    rw [upd_ne (fun z => by rw [z, hL] at hp; cases hp)]
    exact hp
  | .ins C ns ds, u, n, h => by
    simp only [noL] at n
    simp only [rep] at h ⊢
    obtain ⟨p, dx, us, e, np, hp, hn, hl⟩ := h
    refine ⟨p, dx, us, e, np, ?_, hn, repL_noL hL ds us n hl⟩
    rw [upd_ne (fun z => by rw [z, hL] at hp; cases hp)]
    exact hp
  | .dct ks ds, u, n, h => by
    simp only [noL] at n
    simp only [rep] at h ⊢
    obtain ⟨p, us, e, np, hp, hn, hl⟩ := h
    refine ⟨p, us, e, np, ?_, hn, repL_noL hL ds us n hl⟩
    rw [upd_ne (fun z => by rw [z, hL] at hp; cases hp)]
    exact hp
  | .dcT ks ds, u, n, h => by
    simp only [noL] at n
    simp only [rep] at h ⊢
    obtain ⟨p, us, e, np, hp, hn, hl⟩ := h
    refine ⟨p, us, e, np, ?_, hn, repL_noL hL ds us n hl⟩
    rw [upd_ne (fun z => by rw [z, hL] at hp; cases hp)]
    exact hp
theorem repL_noL {L : Addr} {vs vs' : List V} (hL : H L = some (.lst vs)) : ∀ (ds : List D) (us : List V), noLs ds = true → repL ms H ds us → repL ms (upd H L (.lst vs')) ds us
  | [], us, _, h => by
    simp only [repL] at h ⊢
    exact h
  | d :: ds, us, n, h => by
    simp only [noLs, Bool.and_eq_true] at n
    simp only [repL] at h ⊢
    obtain ⟨u, ws, e, h1, h2⟩ := h
    exact ⟨u, ws, e, rep_noL hL d u n.1 h1, repL_noL hL ds ws n.2 h2⟩
end
end

section
variable {X : Cx} {K : PySem.W.Frag}
theorem ix_listK (hK : X.K = K) : IxR X (rIxL K) := by
  subst hK
  exact ix_list
theorem ix_tupK (hK : X.K = K) : IxR X (rIxT K) := by
  subst hK
  exact ix_tup
end
end Rx
namespace Rx
open PySem PySem.Spec PyProof.Rows L2
section
variable {K : PySem.W.Frag} {ms ms' : List Addr} {ps : List PEn} {H0 H H' H1 : Hp} {L L' : Addr} {d d' : D} {ds : List D} {u x : V} {vs : List V}
def valO (ms : List Addr) (H : Hp) (L : Addr) : D → Prop
  | .lst ds => ∃ vs, H L = some (.lst vs) ∧ repL ms H ds vs
  | .dct ks ds => ∃ vs, H L = some (.dK (ks.zip vs)) ∧ ks.length = vs.length ∧ repL ms H ds vs
  | .dcT ks ds => ∃ vs, H L = some (.dT (ks.zip vs)) ∧ ks.length = vs.length ∧ repL ms H ds vs
  | _ => False
theorem valO_map (f : ∀ p o, p ∉ ms → H p = some o → p ∉ ms' ∧ H' p = some o) (g : ∀ o, H L = some o → H' L = some o) : ∀ d : D, valO ms H L d → valO ms' H' L d
  | .lst ds, ⟨vs, h1, h2⟩ => ⟨vs, g _ h1, repL_map f ds vs h2⟩
  | .dct ks ds, ⟨vs, h1, h2, h3⟩ => ⟨vs, g _ h1, h2, repL_map f ds vs h3⟩
  | .dcT ks ds, ⟨vs, h1, h2, h3⟩ => ⟨vs, g _ h1, h2, repL_map f ds vs h3⟩
  | .v _, h => h
  | .tup _, h => h
  | .ins _ _ _, h => h
structure MutO (ms : List Addr) (ps : List PEn) (H0 H : Hp) (L : Addr) (d : D) : Prop where
  im : L ∈ ms
  hp : L ∉ ad ps
  h0 : H0 L = none
  val : valO ms H L d
theorem MutO.some (m : MutO ms ps H0 H L d) : ∃ o, H L = some o := by
  have h := m.val
  cases d with
  | lst ds => exact ⟨_, h.choose_spec.1⟩
  | dct ks ds => exact ⟨_, h.choose_spec.1⟩
  | dcT ks ds => exact ⟨_, h.choose_spec.1⟩
  | v _ => exact h.elim
  | tup _ => exact h.elim
  | ins _ _ _ => exact h.elim
theorem mo_ret (w : Wd ms ps [] H0 H) (e : Ret ps H H') (m : MutO ms ps H0 H L d) : MutO ms ps H0 H' L d :=
  ⟨m.im, m.hp, m.h0, valO_map (fun p o n hp => ⟨n, e.kp p o (fun z => n (w.pm p z)) hp⟩) (fun o h => e.kp L o m.hp h) d m.val⟩
theorem mo_ext (e : Ret [] H H') (m : MutO ms ps H0 H L d) : MutO ms ps H0 H' L d :=
  ⟨m.im, m.hp, m.h0, valO_map (fun p o n hp => ⟨n, e.kp p o (by simp) hp⟩) (fun o h => e.kp L o (by simp) h) d m.val⟩
theorem mo_ne (nl : H L = none) (m : MutO ms ps H0 H L' d) : L' ≠ L := fun z => by
  obtain ⟨o, h⟩ := m.some
  rw [z, nl] at h
  cases h
theorem mo_cell {o : HO} (nl : H L = none) (m : MutO ms ps H0 H L' d) : MutO (L :: ms) ps H0 (upd H L o) L' d :=
  ⟨List.mem_cons_of_mem _ m.im, m.hp, m.h0, valO_map (fun p o n hp => ⟨fun z => by
    rcases List.mem_cons.mp z with z | z
    · exact ne_of_none hp nl z
    · exact n z, by rw [upd_ne (ne_of_none hp nl)]; exact hp⟩) (fun o h => by rw [upd_ne (mo_ne nl m)]; exact h) d m.val⟩
theorem mo_put {o : HO} (lm : L ∈ ms) (ne : L' ≠ L) (m : MutO ms ps H0 H L' d) : MutO ms ps H0 (upd H L o) L' d :=
  ⟨m.im, m.hp, m.h0, valO_map (fun p o n hp => ⟨n, by rw [upd_ne (fun z => n (by rw [z]; exact lm))]; exact hp⟩) (fun o h => by rw [upd_ne ne]; exact h) d m.val⟩
theorem mo_sub (s : ∀ a ∈ ms', a ∈ ms) (i : L ∈ ms') (m : MutO ms ps H0 H L d) : MutO ms' ps H0 H L d :=
  ⟨i, m.hp, m.h0, valO_map (fun p o n hp => ⟨fun z => n (s p z), hp⟩) (fun o h => h) d m.val⟩
theorem rep_sub (s : ∀ a ∈ ms', a ∈ ms) (h : rep ms H d u) : rep ms' H d u := rep_map (fun p o n hp => ⟨fun z => n (s p z), hp⟩) d u h
theorem wd_sub (s : ∀ a ∈ ms', a ∈ ms) (hp : ∀ a ∈ ad ps, a ∈ ms') (w : Wd ms ps [] H0 H) : Wd ms' ps [] H0 H :=
  ⟨w.kp, w.grow, fun m h => w.tr m (s m h), w.pot, hp, fun _ h => absurd h List.not_mem_nil⟩
theorem mo_rep (n : L ∉ ms') (s : ∀ a ∈ ms', a ∈ ms) (m : MutO ms ps H0 H L d) : rep ms' H d (.ref L) := by
  have h := m.val
  cases d with
  | lst ds =>
    obtain ⟨vs, h1, h2⟩ := h
    simp only [rep]
    exact ⟨L, vs, rfl, n, h1, repL_map (fun p o n hp => ⟨fun z => n (s p z), hp⟩) ds vs h2⟩
  | dct ks ds =>
    obtain ⟨vs, h1, h2, h3⟩ := h
    simp only [rep]
    exact ⟨L, vs, rfl, n, h1, h2, repL_map (fun p o n hp => ⟨fun z => n (s p z), hp⟩) ds vs h3⟩
  | dcT ks ds =>
    obtain ⟨vs, h1, h2, h3⟩ := h
    simp only [rep]
    exact ⟨L, vs, rfl, n, h1, h2, repL_map (fun p o n hp => ⟨fun z => n (s p z), hp⟩) ds vs h3⟩
  | v _ => exact h.elim
  | tup _ => exact h.elim
  | ins _ _ _ => exact h.elim
theorem wd_cell {o : HO} (w : Wd ms ps [] H0 H) (nl : H L = none) : Wd (L :: ms) ps [] H0 (upd H L o) := by
  have w1 := w.ret0 (Ext.new (o := o) nl)
  refine ⟨w1.kp, w1.grow, fun m h => ?_, w1.pot, fun a h => List.mem_cons_of_mem _ (w.pm a h), fun _ h => absurd h List.not_mem_nil⟩
  rcases List.mem_cons.mp h with rfl | h
  · rw [upd_same]
    exact fun z => nomatch z
  · exact w1.tr m h
theorem pot_new (w : Wd ms ps [] H0 H) (nl : H L = none) : L ∉ ad ps := fun z => by
  obtain ⟨p, hp, e2⟩ := List.mem_map.mp z
  exact ent_some (w.pot p hp) (by rw [e2]; exact nl)
theorem nm_new (w : Wd ms ps [] H0 H) (nl : H L = none) : L ∉ ms := fun z => w.tr L z nl
theorem mo_newL (w : Wd ms ps [] H0 H) (nl : H L = none) (r : repL ms H ds vs) : MutO (L :: ms) ps H0 (upd H L (.lst vs)) L (.lst ds) :=
  ⟨List.mem_cons_self, pot_new w nl, wd_none w nl, vs, upd_same, repL_map (fun p o n hp => ⟨fun z => by
    rcases List.mem_cons.mp z with z | z
    · exact ne_of_none hp nl z
    · exact n z, by rw [upd_ne (ne_of_none hp nl)]; exact hp⟩) _ _ r⟩
theorem mo_newD {ks : List Key} (w : Wd ms ps [] H0 H) (nl : H L = none) (hl : ks.length = vs.length) (r : repL ms H ds vs) : MutO (L :: ms) ps H0 (upd H L (.dK (ks.zip vs))) L (.dct ks ds) :=
  ⟨List.mem_cons_self, pot_new w nl, wd_none w nl, vs, upd_same, hl, repL_map (fun p o n hp => ⟨fun z => by
    rcases List.mem_cons.mp z with z | z
    · exact ne_of_none hp nl z
    · exact n z, by rw [upd_ne (ne_of_none hp nl)]; exact hp⟩) _ _ r⟩
theorem mo_nc {c : Addr} {q : Str} (m : MutO ms ps H0 H L d) (h : H L = some (LamX.CodeO c q)) : False := by
  have v := m.val
  cases d with
  | lst ds =>
    obtain ⟨vs, e, _⟩ := v
    rw [h] at e
    cases e
  | dct ks ds =>
    obtain ⟨vs, e, _⟩ := v
    rw [h] at e
    cases e
  | dcT ks ds =>
    obtain ⟨vs, e, _⟩ := v
    rw [h] at e
    cases e
  | v _ => exact v
  | tup _ => exact v
  | ins _ _ _ => exact v
theorem wd_put {o : HO} (w : Wd ms ps [] H0 H) (m : MutO ms ps H0 H L d) : Wd ms ps [] H0 (upd H L o) := by
  refine ⟨fun a o' n h => ?_, fun a h => ?_, fun a h => ?_, fun a h => ?_, w.pm, fun _ h => absurd h List.not_mem_nil⟩
  · rw [upd_ne (ne_of_none h m.h0)]
    exact w.kp a o' n h
  · by_cases e : a = L
    · rw [e, upd_same]
      exact fun z => nomatch z
    · rw [upd_ne e]
      exact w.grow a h
  · by_cases e : a = L
    · rw [e, upd_same]
      exact fun z => nomatch z
    · rw [upd_ne e]
      exact w.tr a h
  · refine ent_stay (w.pot a h) (fun o ho => by rw [upd_ne (fun z => m.hp (by rw [← z]; exact mem_ad h))]; exact ho) fun c q hc => ?_
    rw [upd_ne (fun z => mo_nc m (by rw [← z]; exact hc))]
    exact hc
theorem mo_setL (m : MutO ms ps H0 H L d) (r : repL ms H ds vs) : MutO ms ps H0 (upd H L (.lst vs)) L (.lst ds) :=
  ⟨m.im, m.hp, m.h0, vs, upd_same, repL_put m.im r⟩
theorem mo_appU {P : Addr → List V → V → Prop} (m : MutO ms ps H0 H L (.lst ds)) (hl : ds.length < 16777216) (k : ∀ vs, repL ms H ds vs → P L vs u) :
    ∃ (l : Addr) (xs : List V) (y : V), V.ref L = .ref l ∧ [u] = [y] ∧ H l = some (.lst xs) ∧ xs.length < sizeLine ∧ P l xs y := by
  obtain ⟨vs, h1, h2⟩ := m.val
  refine ⟨L, vs, u, rfl, rfl, h1, ?_, k vs h2⟩
  rw [← repL_len h2, sizeLine_eq]
  exact hl
theorem mo_tyL (m : MutO ms ps H0 H L (.lst ds)) : tyV K "list" (.ref L) H := by
  obtain ⟨vs, h1, h2⟩ := m.val
  exact .inl ⟨rfl, vs, .inl (.inl h1)⟩
theorem mo_end {n : Nat} {Nx : Hp → Prop} (m : MutO ms ps H0 H L (.lst ds)) (hn : n < 100000) (hy : ds.length ≤ n) (h : ∀ vs, repL ms H ds vs → Nx (upd H L (.lst (vs ++ [u])))) :
    ∃ acc, H L = some (.lst acc) ∧ acc.length < sizeLine ∧ Nx (upd H L (.lst (acc ++ [u]))) := by
  obtain ⟨vs, h1, h2⟩ := m.val
  refine ⟨vs, h1, ?_, h vs h2⟩
  have q := repL_len h2
  have e : sizeLine = 16777216 := sizeLine_eq
  omega
theorem repL_snoc {α : Type} {e : α → D} {xs : List α} {y : α} (r : repL ms H (xs.map e) vs) (h : rep ms H (e y) u) : repL ms H ((xs ++ [y]).map e) (vs ++ [u]) := by
  rw [List.map_append]
  exact repL_app r (repL_one h)
end

section
variable {α S : Type} {K : PySem.W.Frag} {H1 : Hp} {g : TG} {tb : TS} {D' : Ends} {σ : L2.St}
theorem for_rangeG {lo hi : Int} {N : Nat} {body : Int → S → (S → Prop) → Prop} {KM : S → Prop} (SI : S → L2.St → Hp → Prop) (s0 : S) (hN : N = (hi - lo).toNat) (hM : forC body (rangeI lo hi) s0 KM) (h0 : SI s0 σ H1)
    (hs : ∀ (x : Int) (s : S) (k : S → Prop) (σ : L2.St) (H : Hp), SI s σ H → body x s k → ∀ Nx : L2.St → Hp → Prop, (∀ s' σ' H', k s' → SI s' σ' H' → Nx σ' H') →
      g (.int x) σ H fun σ2 H2 => tb { D' with nx := Nx, ct := Nx, bk := D'.nx } σ2 H2)
    (hd : ∀ s σ H, KM s → SI s σ H → D'.nx σ H) :
    ∃ W : Nat → Nat → L2.St → Hp → Prop, (∃ m, W 0 m σ H1) ∧ ∀ i m σ H, W i m σ H →
      ((Itr lo N).stop i H ∧ D'.nx σ H) ∨ ((Itr lo N).go i H ∧ ∃ Nx : L2.St → Hp → Prop, (∀ σ' H', Nx σ' H' → ∃ m', m' < m ∧ W (i + 1) m' σ' H') ∧ ∀ x H', (Itr lo N).yld i H x H' → g x σ H' fun σ2 H2 => tb { D' with nx := Nx, ct := Nx, bk := D'.nx } σ2 H2) := by
  subst hN
  refine for_range (lo := lo) (n := (hi - lo).toNat) (D := D') (fun i σ H => ∃ s, SI s σ H ∧ forC body ((rangeI lo hi).drop i) s KM) ⟨s0, h0, hM⟩ (fun i σ H hi' ⟨s, si, q⟩ => ?_) (fun σ H ⟨s, si, q⟩ => ?_)
  · rw [drop_cons' (rangeI_get hi')] at q
    exact hs _ s _ σ H si q _ fun s' σ' H' hk si2 => ⟨s', si2, hk⟩
  · rw [List.drop_of_length_le (by rw [rangeI_len]; exact Nat.le_refl _)] at q
    exact hd s σ H q si
theorem for_listG {items : List α} {e : α → D} {ms : List Addr} {a : Addr} {xs : List V} {body : α → S → (S → Prop) → Prop} {KM : S → Prop} (SI : S → L2.St → Hp → Prop) (s0 : S) (an : a ∉ ms) (ha : H1 a = some (.lst xs)) (hx : repL ms H1 (items.map e) xs)
    (kp : ∀ s σ H, SI s σ H → Keep ms H1 H) (hM : forC body items s0 KM) (h0 : SI s0 σ H1)
    (hs : ∀ (x : α) (u : V) (s : S) (k : S → Prop) (σ : L2.St) (H : Hp), SI s σ H → rep ms H (e x) u → body x s k → ∀ Nx : L2.St → Hp → Prop, (∀ s' σ' H', k s' → SI s' σ' H' → Nx σ' H') →
      g u σ H fun σ2 H2 => tb { D' with nx := Nx, ct := Nx, bk := D'.nx } σ2 H2)
    (hd : ∀ s σ H, KM s → SI s σ H → D'.nx σ H) :
    ∃ W : Nat → Nat → L2.St → Hp → Prop, (∃ m, W 0 m σ H1) ∧ ∀ i m σ H, W i m σ H →
      ((Itl K a).stop i H ∧ D'.nx σ H) ∨ ((Itl K a).go i H ∧ ∃ Nx : L2.St → Hp → Prop, (∀ σ' H', Nx σ' H' → ∃ m', m' < m ∧ W (i + 1) m' σ' H') ∧ ∀ x H', (Itl K a).yld i H x H' → g x σ H' fun σ2 H2 => tb { D' with nx := Nx, ct := Nx, bk := D'.nx } σ2 H2) := by
  have hl : items.length = xs.length := by
    have := repL_len hx
    rwa [List.length_map] at this
  refine for_list (xs := xs) (D := D') (fun i σ H => ∃ s, SI s σ H ∧ forC body (items.drop i) s KM) ⟨s0, h0, hM⟩ (fun i σ H _ ⟨s, si, _⟩ => .inl (.inl (kp s σ H si a _ an ha))) (fun i x σ H hx' ⟨s, si, q⟩ => ?_) (fun σ H ⟨s, si, q⟩ => ?_)
  · have hi : i < xs.length := (List.getElem?_eq_some_iff.mp hx').1
    have hit : items[i]? = some (items[i]'(by omega)) := List.getElem?_eq_getElem (by omega)
    rw [drop_cons' hit] at q
    obtain ⟨v, hv, rv⟩ := repL_get (repL_keep (kp s σ H si) hx) (j := i) (d := e (items[i]'(by omega))) (by rw [List.getElem?_map, hit]; rfl)
    rw [hx'] at hv
    have ev : x = v := Option.some.inj hv
    subst ev
    exact hs _ x s _ σ H si rv q _ fun s' σ' H' hk si2 => ⟨s', si2, hk⟩
  · rw [List.drop_of_length_le (by omega)] at q
    exact hd s σ H q si
end

section
variable {α β : Type} {K : PySem.W.Frag} {H1 H2 : Hp} {g : TG} {tt : TT} {te : TE} {vl : List Nat} {σ : L2.St} {Qd : Hp → Prop} {L : Addr}
abbrev Turn (g : TG) (tt : TT) (te : TE) (vl : List Nat) (σ : L2.St) (L : Addr) (u : V) (H : Hp) (Nx : Hp → Prop) : Prop :=
  g u (wipe σ vl) H fun σ2 H2 => wipe σ2 vl = wipe σ vl ∧ tt σ2 H2 fun b H3 => if b = true then te σ2 H3 fun y H4 => ∃ acc, H4 L = some (.lst acc) ∧ acc.length < sizeLine ∧ Nx (upd H4 L (.lst (acc ++ [y]))) else Nx H3
theorem lc_rangeG {lo hi : Int} {N : Nat} {body : Int → (β → Prop) → Prop} {KM : List β → Prop} (SI : Nat → List β → Hp → Prop) (hN : N = (hi - lo).toNat) (hM : (rangeI lo hi).length < 100000 ∧ mapC body (rangeI lo hi) [] KM) (h0 : SI 0 [] (upd H1 L (.lst [])))
    (hs : ∀ (x : Int) (n : Nat) (ys : List β) (k : β → Prop) (H : Hp), n < 100000 → SI n ys H → body x k → ∀ Nx : Hp → Prop, (∀ y H', k y → SI (n + 1) (ys ++ [y]) H' → Nx H') → Turn g tt te vl σ L (.int x) H Nx)
    (hd : ∀ n ys H, KM ys → SI n ys H → Qd H) :
    ∃ W : Nat → Nat → Hp → Prop, (∃ m, W 0 m (upd H1 L (.lst []))) ∧ ∀ i m H, W i m H →
      ((Itr lo N).stop i H ∧ Qd H) ∨ ((Itr lo N).go i H ∧ ∃ Nx : Hp → Prop, (∀ H', Nx H' → ∃ m', m' < m ∧ W (i + 1) m' H') ∧ ∀ x H', (Itr lo N).yld i H x H' → g x (wipe σ vl) H' fun σ2 H2 => wipe σ2 vl = wipe σ vl ∧ tt σ2 H2 fun b H3 =>
        if b = true then te σ2 H3 fun y H4 => ∃ acc, H4 L = some (.lst acc) ∧ acc.length < sizeLine ∧ Nx (upd H4 L (.lst (acc ++ [y]))) else Nx H3) := by
  obtain ⟨hn, hM⟩ := hM
  subst hN
  rw [rangeI_len] at hn
  refine ⟨fun i m H => m = (hi - lo).toNat - i ∧ i ≤ (hi - lo).toNat ∧ ∃ ys, SI i ys H ∧ mapC body ((rangeI lo hi).drop i) ys KM, ⟨_, rfl, Nat.zero_le _, [], h0, hM⟩, ?_⟩
  rintro i m H ⟨rfl, hi', ys, T, q⟩
  by_cases hlt : i < (hi - lo).toNat
  · refine .inr ⟨hlt, fun H' => i + 1 ≤ (hi - lo).toNat ∧ ∃ ys, SI (i + 1) ys H' ∧ mapC body ((rangeI lo hi).drop (i + 1)) ys KM, fun H' p' => ⟨_, by omega, rfl, p'⟩, fun x H' y => ?_⟩
    obtain ⟨e, y⟩ := y
    subst e y
    rw [drop_cons' (rangeI_get hlt)] at q
    exact hs _ i ys _ H' (by omega) T q _ fun y H' k T' => ⟨hlt, _, T', k⟩
  · have e : i = (hi - lo).toNat := by omega
    refine .inl ⟨by rw [e]; exact Nat.le_refl _, ?_⟩
    rw [List.drop_of_length_le (by rw [rangeI_len]; omega)] at q
    exact hd _ ys H q T
theorem lc_strG {z : Str} {body : Str → (β → Prop) → Prop} {KM : List β → Prop} (SI : Nat → List β → Hp → Prop) (hM : (signs z).length < 100000 ∧ mapC body (signs z) [] KM) (h0 : SI 0 [] (upd H1 L (.lst [])))
    (hs : ∀ (x : Str) (n : Nat) (ys : List β) (k : β → Prop) (H : Hp), n < 100000 → SI n ys H → body x k → ∀ Nx : Hp → Prop, (∀ y H', k y → SI (n + 1) (ys ++ [y]) H' → Nx H') → Turn g tt te vl σ L (.str x) H Nx)
    (hd : ∀ n ys H, KM ys → SI n ys H → Qd H) :
    ∃ W : Nat → Nat → Hp → Prop, (∃ m, W 0 m (upd H1 L (.lst []))) ∧ ∀ i m H, W i m H →
      ((Its z).stop i H ∧ Qd H) ∨ ((Its z).go i H ∧ ∃ Nx : Hp → Prop, (∀ H', Nx H' → ∃ m', m' < m ∧ W (i + 1) m' H') ∧ ∀ x H', (Its z).yld i H x H' → g x (wipe σ vl) H' fun σ2 H2 => wipe σ2 vl = wipe σ vl ∧ tt σ2 H2 fun b H3 =>
        if b = true then te σ2 H3 fun y H4 => ∃ acc, H4 L = some (.lst acc) ∧ acc.length < sizeLine ∧ Nx (upd H4 L (.lst (acc ++ [y]))) else Nx H3) := by
  obtain ⟨hn, hM⟩ := hM
  rw [signs_len] at hn
  refine ⟨fun i m H => m = z.cps.size - i ∧ i ≤ z.cps.size ∧ ∃ ys, SI i ys H ∧ mapC body ((signs z).drop i) ys KM, ⟨_, rfl, Nat.zero_le _, [], h0, hM⟩, ?_⟩
  rintro i m H ⟨rfl, hi', ys, T, q⟩
  by_cases hlt : i < z.cps.size
  · refine .inr ⟨hlt, fun H' => i + 1 ≤ z.cps.size ∧ ∃ ys, SI (i + 1) ys H' ∧ mapC body ((signs z).drop (i + 1)) ys KM, fun H' p' => ⟨_, by omega, rfl, p'⟩, fun x H' y => ?_⟩
    obtain ⟨e, c, hc, y⟩ := y
    subst e y
    rw [drop_cons' (signs_get hc)] at q
    exact hs _ i ys _ H' (by omega) T q _ fun y H' k T' => ⟨hlt, _, T', k⟩
  · have e : i = z.cps.size := by omega
    refine .inl ⟨by rw [e]; exact Nat.le_refl _, ?_⟩
    rw [List.drop_of_length_le (by rw [signs_len]; omega)] at q
    exact hd _ ys H q T
theorem lc_listG {items : List α} {e : α → D} {ms : List Addr} {a : Addr} {xs : List V} {body : α → (β → Prop) → Prop} {KM : List β → Prop} (SI : Nat → List β → Hp → Prop) (an : a ∉ ms) (ha : H1 a = some (.lst xs)) (hx : repL ms H1 (items.map e) xs) (nl : H1 L = none)
    (kp : ∀ n ys H, SI n ys H → Keep (L :: ms) H1 H) (hM : items.length < 100000 ∧ mapC body items [] KM) (h0 : SI 0 [] (upd H1 L (.lst [])))
    (hs : ∀ (x : α) (u : V) (n : Nat) (ys : List β) (k : β → Prop) (H : Hp), n < 100000 → SI n ys H → rep (L :: ms) H (e x) u → body x k → ∀ Nx : Hp → Prop, (∀ y H', k y → SI (n + 1) (ys ++ [y]) H' → Nx H') → Turn g tt te vl σ L u H Nx)
    (hd : ∀ n ys H, KM ys → SI n ys H → Qd H) :
    ∃ W : Nat → Nat → Hp → Prop, (∃ m, W 0 m (upd H1 L (.lst []))) ∧ ∀ i m H, W i m H →
      ((Itl K a).stop i H ∧ Qd H) ∨ ((Itl K a).go i H ∧ ∃ Nx : Hp → Prop, (∀ H', Nx H' → ∃ m', m' < m ∧ W (i + 1) m' H') ∧ ∀ x H', (Itl K a).yld i H x H' → g x (wipe σ vl) H' fun σ2 H2 => wipe σ2 vl = wipe σ vl ∧ tt σ2 H2 fun b H3 =>
        if b = true then te σ2 H3 fun y H4 => ∃ acc, H4 L = some (.lst acc) ∧ acc.length < sizeLine ∧ Nx (upd H4 L (.lst (acc ++ [y]))) else Nx H3) := by
  obtain ⟨hn, hM⟩ := hM
  have hl : items.length = xs.length := by
    have := repL_len hx
    rwa [List.length_map] at this
  have aM : a ∉ L :: ms := fun z => by
    rcases List.mem_cons.mp z with z | z
    · exact ne_of_none ha nl z
    · exact an z
  have hx1 : repL (L :: ms) H1 (items.map e) xs := repL_new nl hx
  refine ⟨fun i m H => m = xs.length - i ∧ i ≤ xs.length ∧ ∃ ys, SI i ys H ∧ mapC body (items.drop i) ys KM, ⟨_, rfl, Nat.zero_le _, [], h0, hM⟩, ?_⟩
  rintro i m H ⟨rfl, hi', ys, T, q⟩
  have hA : H a = some (.lst xs) := kp i ys H T a _ aM ha
  by_cases hlt : i < xs.length
  · refine .inr ⟨⟨xs, xs[i], .inl (.inl hA), by simp [hlt]⟩, fun H' => i + 1 ≤ xs.length ∧ ∃ ys, SI (i + 1) ys H' ∧ mapC body (items.drop (i + 1)) ys KM, fun H' p' => ⟨_, by omega, rfl, p'⟩, fun x H' y => ?_⟩
    obtain ⟨e1, y⟩ := y
    subst e1
    have hxi := y xs (.inl (.inl hA))
    have hit : items[i]? = some (items[i]'(by omega)) := List.getElem?_eq_getElem (by omega)
    rw [drop_cons' hit] at q
    obtain ⟨v, hv, rv⟩ := repL_get (repL_keep (kp i ys H' T) hx1) (j := i) (d := e (items[i]'(by omega))) (by rw [List.getElem?_map, hit]; rfl)
    rw [hxi] at hv
    have ev : x = v := Option.some.inj hv
    subst ev
    exact hs _ x i ys _ H' (by omega) T rv q _ fun y H'' k T' => ⟨hlt, _, T', k⟩
  · refine .inl ⟨⟨xs, .inl (.inl hA), by omega⟩, ?_⟩
    rw [List.drop_of_length_le (by omega)] at q
    exact hd _ ys H q T
end
end Rx
namespace Rx
open PySem PySem.Spec PyProof.Rows L2
structure Drop (ms : List Addr) (L : Addr) (ms' : List Addr) : Prop where
  sub : ∀ a ∈ ms', a ∈ ms
  ex : ∀ a ∈ ms, a ∈ ms' ∨ a = L
theorem dr_here {L : Addr} {ms : List Addr} : Drop (L :: ms) L ms := ⟨fun _ h => List.mem_cons_of_mem _ h, fun a h => (List.mem_cons.mp h).elim .inr .inl⟩
section
variable {K : PySem.W.Frag} {ms ms' : List Addr} {ps : List PEn} {H0 H H' H1 : Hp} {L L' : Addr} {d d' : D} {ds : List D} {u x : V} {vs : List V}
theorem wd_dr (dr : Drop ms L ms') (hp : L ∉ ad ps) (w : Wd ms ps [] H0 H) : Wd ms' ps [] H0 H := wd_sub dr.sub (fun a h => (dr.ex a (w.pm a h)).elim id fun e => absurd (by rw [← e]; exact h) hp) w
theorem rep_dr (dr : Drop ms L ms') (h : rep ms H d u) : rep ms' H d u := rep_sub dr.sub h
theorem mo_dr (dr : Drop ms L ms') (ne : L' ≠ L) (m : MutO ms ps H0 H L' d) : MutO ms' ps H0 H L' d := mo_sub dr.sub ((dr.ex _ m.im).elim id fun e => absurd e ne) m
theorem mo_rep_dr (dr : Drop ms L ms') (n : L ∉ ms') (m : MutO ms ps H0 H L d) : rep ms' H d (.ref L) := mo_rep n dr.sub m
mutual
def noM : D → Bool
  | .v _ => true
  | .lst _ => false
  | .tup ds => noMs ds
  | .ins _ _ ds => noMs ds
  | .dct _ _ => false
  | .dcT _ _ => false
def noMs : List D → Bool
  | [] => true
  | d :: ds => noM d && noMs ds
end
def isMo : Option HO → Prop
  | some (.lst _) => True
  | some (.dK _) => True
  | some (.dT _) => True
  | _ => False
theorem MutO.isMo (m : MutO ms ps H0 H L d) : isMo (H L) := by
  have h := m.val
  cases d with
  | lst ds =>
    rw [h.choose_spec.1]
    trivial
  | dct ks ds =>
    rw [h.choose_spec.1]
    trivial
  | dcT ks ds =>
    rw [h.choose_spec.1]
    trivial
  | v _ => exact h.elim
  | tup _ => exact h.elim
  | ins _ _ _ => exact h.elim
mutual
theorem rep_liftO (dr : Drop ms L ms') (hL : Rx.isMo (H L)) : ∀ (d : D) (u : V), noM d = true → rep ms' H d u → rep ms H d u
  | .v x, u, _, h => by
    simp only [rep] at h ⊢
    exact h
  | .lst ds, u, n, h => by
    simp only [noM] at n
    cases n
  | .dct _ ds, u, n, h => by
    simp only [noM] at n
    cases n
  | .dcT _ ds, u, n, h => by
    simp only [noM] at n
    cases n
  | .tup ds, u, n, h => by
    simp only [noM] at n
    simp only [rep] at h ⊢
    obtain ⟨p, us, e, np, hp, hl⟩ := h
    refine ⟨p, us, e, fun z => ?_, hp, repL_liftO dr hL ds us n hl⟩
    rcases dr.ex p z with z | z
    · exact np z
    · rw [← z, hp] at hL
      exact hL
  | .ins C ns ds, u, n, h => by
    simp only [noM] at n
    simp only [rep] at h ⊢
    obtain ⟨p, dx, us, e, np, hp, hn, hl⟩ := h
    refine ⟨p, dx, us, e, fun z => ?_, hp, hn, repL_liftO dr hL ds us n hl⟩
    rcases dr.ex p z with z | z
    · exact np z
    · rw [← z, hp] at hL
      exact hL
theorem repL_liftO (dr : Drop ms L ms') (hL : Rx.isMo (H L)) : ∀ (ds : List D) (us : List V), noMs ds = true → repL ms' H ds us → repL ms H ds us
  | [], us, _, h => by
    simp only [repL] at h ⊢
    exact h
  | d :: ds, us, n, h => by
    simp only [noMs, Bool.and_eq_true] at n
    simp only [repL] at h ⊢
    obtain ⟨u, ws, e, h1, h2⟩ := h
    exact ⟨u, ws, e, rep_liftO dr hL d u n.1 h1, repL_liftO dr hL ds ws n.2 h2⟩
end
end
end Rx
namespace Rx
open PySem PySem.Spec PyProof.Rows L2
section
variable {K : PySem.W.Frag} {ms ms' : List Addr} {ps : List PEn} {H0 H H' H1 : Hp} {L L' : Addr} {d d' : D} {ds : List D} {u x : V} {vs : List V}
end
section
variable {α β S : Type} {K : PySem.W.Frag} {H1 H2 : Hp} {g : TG} {tt : TT} {te : TE} {vl : List Nat} {σ : L2.St} {Qd : Hp → Prop} {L : Addr}
end
end Rx
namespace Rx
open PySem PySem.Spec PyProof.Rows L2
section
variable {ms : List Addr} {H : Hp} {x y : V}
end
end Rx
namespace Rx
open PySem PySem.Spec PyProof.Rows L2
section
variable {K : PySem.W.Frag} {ms : List Addr} {H : Hp} {x y : V} {ds : List D} {vs : List V}
theorem rep_lsU {P : List V → Prop} (h : rep ms H (.lst ds) x) (k : ∀ vs, repL ms H ds vs → P vs) : ∃ a xs, x = .ref a ∧ SqL K H a xs ∧ P xs := by
  simp only [rep] at h
  obtain ⟨p, vs, rfl, np, hp, hr⟩ := h
  exact ⟨p, vs, rfl, .inl (.inl hp), k vs hr⟩
theorem repL_take : ∀ (n : Nat) {ds : List D} {vs : List V}, repL ms H ds vs → repL ms H (ds.take n) (vs.take n)
  | 0, _, _, _ => by
    rw [List.take_zero, List.take_zero]
    exact repL_nil
  | n + 1, [], vs, h => by
    have e := repL_empty h
    subst e
    exact repL_nil
  | n + 1, d :: ds, vs, h => by
    obtain ⟨u, us, rfl, h1, h2⟩ := repL_uncons h
    exact repL_cons h1 (repL_take n h2)
theorem repL_drop : ∀ (n : Nat) {ds : List D} {vs : List V}, repL ms H ds vs → repL ms H (ds.drop n) (vs.drop n)
  | 0, _, _, h => h
  | n + 1, [], vs, h => by
    have e := repL_empty h
    subst e
    exact repL_nil
  | n + 1, d :: ds, vs, h => by
    obtain ⟨u, us, rfl, h1, h2⟩ := repL_uncons h
    exact repL_drop n h2
def cutM {α : Type} (xs : List α) (lo hi : Option Int) : List α := (xs.drop (HT.sIx xs.length 0 lo)).take (HT.sIx xs.length xs.length hi - HT.sIx xs.length 0 lo)
theorem repL_cut {α : Type} {e : α → D} {xs : List α} {lo hi : Option Int} (h : repL ms H (xs.map e) vs) : repL ms H ((cutM xs lo hi).map e) (cutV vs lo hi) := by
  have hl := repL_len h
  rw [List.length_map] at hl
  unfold cutM cutV
  rw [List.map_take, List.map_drop, hl]
  exact repL_take _ (repL_drop _ h)
end
section
variable {α β S : Type} {K : PySem.W.Frag} {H1 : Hp} {g : TG} {tt : TT} {te : TE} {vl : List Nat} {σ : L2.St} {Qd : Hp → Prop} {L : Addr}
end
end Rx
namespace Rx
open PySem PySem.Spec PyProof.Rows L2
section
variable {X : Cx} {K : PySem.W.Frag}
theorem call_lenK (hK : X.K = K) : CallR X (.builtin "len") (fun xs H Q => ∃ x n, xs = [x] ∧ LenV K x H n ∧ Q (.int n) H) := by
  subst hK
  exact call_len
theorem call_isiK (hK : X.K = K) : CallR X (.builtin "isinstance") (rIsi K) := by
  subst hK
  exact call_isi
theorem sl_listK (hK : X.K = K) : SlR X (rSlL K) := by
  subst hK
  exact sl_list
theorem op_neDK (hK : X.K = K) (hu : X.A.units + 64 < cLine) : OpR X (compareOp .NotEq) (rNeD K) := by
  subst hK
  exact op_neD hu
end
end Rx
namespace Rx
open PySem PySem.Spec PyProof.Rows L2
section
variable {X : Cx} {K : PySem.W.Frag} {T name id : String} {o e : Expr} {es : List Expr} {r : V → List V → Hp → VK → Prop} {to : TE} {t : TA} {apos cpos : Pos}
theorem pe_bmK (hK : X.K = K) (pa : PlainAttrs T) (slot : Slot T name id) (hty : typeOf (.builtin id) = pure (.type "method_descriptor")) (hm : MtR X id r) (ho : PE X o to) (ha : PA X (e :: es) t)
    (hbase : attributeBase o name X.env (eval o X.env) = eval o X.env := by rfl)
    (hfew : ((backTo cpos (starEach (e :: es) X.env)).all (fun x => !x.1) && (backToKw cpos (keywordEach [] X.env)).all (fun x => x.1.isSome)
      && decide ((e :: es).length + ([] : List Keyword).length + (if ([] : List Keyword).isEmpty then 0 else 1) < 30)) = true := by rfl)
    (hline : (apos.endLine == cpos.line) = true := by rfl) (hs : starEach (e :: es) X.env = (false, eval e X.env) :: starEach es X.env := by rfl) (hplain : (backTo cpos (starEach es X.env)).any (·.1) = false := by rfl) :
    PE X (.Call (.Attribute o name apos) (e :: es) [] cpos) (tBM K T r to t) := by
  subst hK
  exact pe_bm pa slot hty hm ho ha hbase hfew hline hs hplain
end
end Rx
namespace Rx
open PySem PySem.Spec PyProof.Rows L2
section
variable {M : Model} {s : Shared} {K : PySem.W.Frag} {C : Addr}
end
section
variable {M : Model} {prog : Program} {w : World} {A : Around} {E : Value → Shared → Prop} {s : Shared} {K : PySem.W.Frag} {x C : Addr} {uy : Value} {ox : Obj} {od : Option Obj}
end
section
variable {K : PySem.W.Frag} {ms : List Addr} {H : Hp} {x y : V} {d : D}
structure IsN (K : PySem.W.Frag) (C : Addr) : Prop where
  ic : PySem.W.isClsIn K C = true
  ty : PySem.W.typeIn K (.ref C) = some (.type "type")
end
end Rx
namespace Rx
open PySem PySem.Spec PyProof.Rows L2
section
variable {ms : List Addr} {ps : List PEn} {cs : List (Addr × List V)} {H0 H H' : Hp} {u : V}
end
end Rx
namespace Rx
open PySem PySem.Spec PyProof.Rows L2
section
variable {κ : Type} [DecidableEq κ]
theorem any_zip {k : κ} : ∀ {ks : List κ} {vs : List V}, ks.length = vs.length → ((ks.zip vs).any fun kv => decide (kv.1 = k)) = decide (k ∈ ks)
  | [], [], _ => by simp
  | k0 :: ks, v :: vs, h => by
    have ih := any_zip (k := k) (ks := ks) (vs := vs) (by simpa using h)
    rw [List.zip_cons_cons, List.any_cons, ih]
    by_cases e : k0 = k
    · subst e
      simp
    · have e' : k ≠ k0 := fun z => e z.symm
      simp [e, e']
  | [], _ :: _, h => by simp at h
  | _ :: _, [], h => by simp at h
theorem putK_new {k : κ} {v : V} {ks : List κ} {vs : List V} (h : ks.length = vs.length) (n : k ∉ ks) : putK (ks.zip vs) k v = (ks ++ [k]).zip (vs ++ [v]) := by
  unfold putK
  rw [any_zip h, if_neg (by simpa using n), List.zip_append h]
  rfl
theorem putK_old {k : κ} {v : V} : ∀ {ks : List κ} {vs : List V} {j : Nat}, ks.length = vs.length → ks.Nodup → ks[j]? = some k → putK (ks.zip vs) k v = ks.zip (vs.set j v) := by
  intro ks vs j h nd hj
  have hk : k ∈ ks := List.mem_of_getElem? hj
  unfold putK
  rw [any_zip h, if_pos (by simpa using hk)]
  induction ks generalizing vs j with
  | nil => simp at hj
  | cons k0 ks ih =>
    cases vs with
    | nil => simp at h
    | cons v0 vs =>
      have nd' := List.nodup_cons.mp nd
      cases j with
      | zero =>
        have e : k0 = k := Option.some.inj hj
        subst e
        rw [List.zip_cons_cons, List.map_cons, if_pos rfl, List.set_cons_zero, List.zip_cons_cons]
        congr 1
        conv => rhs; rw [← List.map_id (ks.zip vs)]
        refine List.map_congr_left fun q hq => ?_
        rw [if_neg]
        · rfl
        · intro z
          exact nd'.1 (by rw [← z]; exact (List.of_mem_zip (show (q.1, q.2) ∈ ks.zip vs from hq)).1)
      | succ j =>
        have hj' : ks[j]? = some k := by simpa using hj
        have ne : ¬ k0 = k := fun z => nd'.1 (by rw [z]; exact List.mem_of_getElem? hj')
        rw [List.zip_cons_cons, List.map_cons, if_neg ne, List.set_cons_succ, List.zip_cons_cons]
        congr 1
        exact ih (by simpa using h) nd'.2 hj' (List.mem_of_getElem? hj')
theorem valV_zip {k : κ} : ∀ {ks : List κ} {vs : List V} {j : Nat}, ks.Nodup → ks[j]? = some k → ks.length = vs.length → valV (ks.zip vs) k = vs[j]?
  | [], _, _, _, hj, _ => by simp at hj
  | k0 :: ks, [], _, _, _, h => by simp at h
  | k0 :: ks, v :: vs, 0, _, hj, _ => by
    have e : k0 = k := Option.some.inj hj
    subst e
    simp [valV]
  | k0 :: ks, v :: vs, j + 1, nd, hj, h => by
    have nd' := List.nodup_cons.mp nd
    have hj' : ks[j]? = some k := by simpa using hj
    have ne : ¬ k0 = k := fun z => nd'.1 (by rw [z]; exact List.mem_of_getElem? hj')
    rw [List.zip_cons_cons, valV_neg (p := (k0, v)) ne, valV_zip nd'.2 hj' (by simpa using h)]
    rfl
end
theorem mergeK_nodup : ∀ {more : List (Key × V)} {acc : List (Key × V)}, ((acc ++ more).map (·.1)).Nodup → mergeK acc more = acc ++ more
  | [], acc, _ => by simp [mergeK]
  | q :: more, acc, h => by
    have n : q.1 ∉ acc.map (·.1) := by
      rw [List.map_append, List.nodup_append] at h
      exact fun z => h.2.2 q.1 z q.1 (by simp) rfl
    have e : putK acc q.1 q.2 = acc ++ [q] := by
      unfold putK
      rw [if_neg]
      intro z
      obtain ⟨w, hw, ew⟩ := List.any_eq_true.mp z
      exact n (List.mem_map.mpr ⟨w, hw, of_decide_eq_true ew⟩)
    show mergeK (putK acc q.1 q.2) more = _
    rw [e, mergeK_nodup (by rw [List.append_assoc]; exact h), List.append_assoc]
    rfl
section
variable {K : PySem.W.Frag} {ms : List Addr} {ps : List PEn} {H0 H H' H1 : Hp} {L : Addr} {d : D} {ds : List D} {u x y : V} {vs : List V} {ks : List Key} {k : Key}
theorem map_fst_zip' : ∀ {ks : List Key} {vs : List V}, ks.length = vs.length → (ks.zip vs).map (·.1) = ks
  | [], [], _ => rfl
  | k :: ks, v :: vs, h => by
    rw [List.zip_cons_cons, List.map_cons, map_fst_zip' (by simpa using h)]
  | [], _ :: _, h => by simp at h
  | _ :: _, [], h => by simp at h
theorem merge_zip (h : ks.length = vs.length) (nd : ks.Nodup) : mergeK [] (ks.zip vs) = ks.zip vs := by
  rw [mergeK_nodup (by rw [List.nil_append, map_fst_zip' h]; exact nd), List.nil_append]
theorem mo_nilD (w : Wd ms ps [] H0 H) (nl : H L = none) : MutO (L :: ms) ps H0 (upd H L (.dK [])) L (.dct [] []) :=
  mo_newD (ks := []) (vs := []) (ds := []) w nl rfl repL_nil
theorem mo_dK0 (m : MutO ms ps H0 H L (.dct [] [])) : H L = some (.dK []) := by
  obtain ⟨vs, h1, h2, _⟩ := m.val
  rw [h1]
  simp
theorem mo_setD (m : MutO ms ps H0 H L d) (hl : ks.length = vs.length) (r : repL ms H ds vs) : MutO ms ps H0 (upd H L (.dK (ks.zip vs))) L (.dct ks ds) :=
  ⟨m.im, m.hp, m.h0, vs, upd_same, hl, repL_put m.im r⟩
theorem mo_putU {v : V} {Q : Hp → Prop} (m : MutO ms ps H0 H L (.dct ks ds)) (n : k ∉ ks) (hk : ks.length < 16777216)
    (q : ∀ vs, ks.length = vs.length → repL ms H ds vs → Q (upd H L (.dK ((ks ++ [k]).zip (vs ++ [v]))))) : rSetD (.ref L) (kV k) v H Q := by
  obtain ⟨vs, h1, h2, h3⟩ := m.val
  refine ⟨L, _, rfl, DPut.k h1 ?_, ?_⟩
  · rw [List.length_zip, ← h2, sizeLine_eq, Nat.min_self]
    exact hk
  · rw [putK_new h2 n]
    exact q vs h2 h3
theorem mo_putO {v : V} {Q : Hp → Prop} (j : Nat) (m : MutO ms ps H0 H L (.dct ks ds)) (nd : ks.Nodup) (hj : ks[j]? = some k) (hk : ks.length < 16777216)
    (q : ∀ vs, ks.length = (vs.set j v).length → repL ms H ds vs → Q (upd H L (.dK (ks.zip (vs.set j v))))) : rSetD (.ref L) (kV k) v H Q := by
  obtain ⟨vs, h1, h2, h3⟩ := m.val
  refine ⟨L, _, rfl, DPut.k h1 ?_, ?_⟩
  · rw [List.length_zip, ← h2, sizeLine_eq, Nat.min_self]
    exact hk
  · rw [putK_old h2 nd hj]
    exact q vs (by rw [List.length_set]; exact h2) h3
theorem repL_setD {v : V} {e : D} : ∀ {ds : List D} {vs : List V} (j : Nat), repL ms H ds vs → rep ms H e v → repL ms H (ds.set j e) (vs.set j v)
  | [], vs, j, h, r => by
    have ev := repL_empty h
    subst ev
    simpa using h
  | d :: ds, vs, 0, h, r => by
    obtain ⟨u, us, rfl, h1, h2⟩ := repL_uncons h
    exact repL_cons r h2
  | d :: ds, vs, j + 1, h, r => by
    obtain ⟨u, us, rfl, h1, h2⟩ := repL_uncons h
    exact repL_cons h1 (repL_setD j h2 r)
theorem dgetL (h1 : H L = some (.dK (ks.zip vs))) (nd : ks.Nodup) (hl : ks.length = vs.length) {j : Nat} (hj : ks[j]? = some k) {v : V} (hv : vs[j]? = some v) : DGet H L (kV k) (some v) := by
  have := DGet.k (k := k) h1
  rw [valV_zip nd hj hl, hv] at this
  exact this
theorem rep_dget {Q : VK} (j : Nat) (h : rep ms H (.dct ks ds) x) (nd : ks.Nodup) (hj : ks[j]? = some k) (hd : ds[j]? = some d) (q : ∀ v, rep ms H d v → Q v H) :
    ∃ a v, x = .ref a ∧ DGet H a (kV k) (some v) ∧ Q v H := by
  simp only [rep] at h
  obtain ⟨p, vs, rfl, _, hp, hl, hr⟩ := h
  obtain ⟨v, hv, rv⟩ := repL_get hr hd
  exact ⟨p, v, rfl, dgetL hp nd hl hj hv, q v rv⟩
end
end Rx
namespace Rx
open PySem PySem.Spec PyProof.Rows L2
section
variable {X : Cx} {K : PySem.W.Frag}
end
end Rx
namespace Rx
theorem nin_of {α : Type} {ks : List α} {k : α} (h : (ks ++ [k]).Nodup) : k ∉ ks := fun z => by
  rw [List.nodup_append] at h
  exact h.2.2 k z k (by simp) rfl
end Rx
namespace Rx
open PySem PySem.Spec PyProof.Rows L2
section
variable {ms : List Addr} {ps : List PEn} {H0 H H' He : Hp} {p L C dx : Addr} {d : D} {u : V} {fs : List (Str × V)} {o : HO}
structure KpI (p : Addr) (He H : Hp) : Prop where
  kp : ∀ a o, a ≠ p → He a = some o → H a = some o
  gr : ∀ a, He a ≠ none → H a ≠ none
theorem ki_refl : KpI p H H := ⟨fun _ _ _ h => h, fun _ h => h⟩
theorem ki_wd (k : KpI p He H0) (w : Wd ms [] [] H0 H) : KpI p He H := ⟨fun a o n h => w.kp a o (by simp) (k.kp a o n h), fun a h => w.grow a (k.gr a h)⟩
theorem ki_put (k : KpI p He H0) (w : Wd ms [] [] H0 H) : KpI p He (upd H p o) := ⟨fun a o' n h => by
  rw [upd_ne n]
  exact (ki_wd k w).kp a o' n h, fun a h => by
  by_cases e : a = p
  · rw [e, upd_same]
    exact fun z => nomatch z
  · rw [upd_ne e]
    exact (ki_wd k w).gr a h⟩
theorem wd_at (w : Wd ms [] [] H0 H) : Wd ms [] [] (upd H p o) (upd H p o) := ⟨fun _ _ _ h => h, fun _ h => h, fun m h => by
  by_cases e : m = p
  · rw [e, upd_same]
    exact fun z => nomatch z
  · rw [upd_ne e]
    exact w.tr m h, fun _ h => absurd h List.not_mem_nil, fun _ h => absurd h List.not_mem_nil, fun _ h => absurd h List.not_mem_nil⟩
theorem putF_zip {f : Str} {v : V} : ∀ {ns : List Str} {us : List V}, ns.length = us.length → f ∉ ns → putF f v (ns.zip us) = (ns ++ [f]).zip (us ++ [v])
  | [], [], _, _ => by simp [putF]
  | [], _ :: _, h, _ => by simp at h
  | _ :: _, [], h, _ => by simp at h
  | n :: ns, u :: us, h, nn => by
    have e : ¬ n = f := fun z => nn (by rw [z]; exact List.mem_cons_self)
    have ih := putF_zip (f := f) (v := v) (ns := ns) (us := us) (by simpa using h) fun z => nn (List.mem_cons_of_mem _ z)
    simp only [List.zip_cons_cons, List.cons_append]
    unfold putF
    rw [if_neg e, ih]
theorem mem_new (nl : H p = none) (h : rep ms H d u) (ndx : H dx = none) {o1 o2 : HO} : rep (p :: ms) (upd (upd H dx o1) p o2) d u :=
  rep_map (fun a o n hp => ⟨fun z => by
    rcases List.mem_cons.mp z with z | z
    · exact ne_of_none hp nl z
    · exact n z, by rw [upd_ne (ne_of_none hp nl), upd_ne (ne_of_none hp ndx)]; exact hp⟩) d u h
theorem wd_new (w : Wd ms ps cs H0 H) (nl : H p = none) (ndx : H dx = none) {o1 o2 : HO} : Wd (p :: ms) [] [] (upd (upd H dx o1) p o2) (upd (upd H dx o1) p o2) := ⟨fun _ _ _ h => h, fun _ h => h, fun m h => by
  by_cases e : m = p
  · rw [e, upd_same]
    exact fun z => nomatch z
  · rw [upd_ne e]
    by_cases e2 : m = dx
    · rw [e2, upd_same]
      exact fun z => nomatch z
    · rw [upd_ne e2]
      exact w.tr m ((List.mem_cons.mp h).elim (fun z => absurd z e) id), fun _ h => absurd h List.not_mem_nil, fun _ h => absurd h List.not_mem_nil, fun _ h => absurd h List.not_mem_nil⟩
theorem ext_new (k : KpI p (upd (upd H dx o1) p o2) H') (nl : H p = none) (ndx : H dx = none) : Ret [] H H' := ⟨fun a o _ h => k.kp a o (ne_of_none h nl) (by rw [upd_ne (ne_of_none h nl), upd_ne (ne_of_none h ndx)]; exact h), fun _ z => absurd z List.not_mem_nil, fun a h => k.gr a (by
  by_cases e : a = p
  · rw [e, upd_same]
    exact fun z => nomatch z
  · rw [upd_ne e]
    by_cases e2 : a = dx
    · rw [e2, upd_same]
      exact fun z => nomatch z
    · rw [upd_ne e2]
      exact h)⟩
theorem rep_insW (w : Wd ms ps cs H0 H) (np : H p = none) {ns : List Str} {us : List V} {ds : List D} (hp : H' p = some (.ins C dx (ns.zip us))) (hl : ns.length = us.length) (hr : repL (p :: ms) H' ds us) : rep ms H' (.ins C ns ds) (.ref p) := by
  simp only [rep]
  exact ⟨p, dx, us, rfl, fun z => w.tr p z np, hp, hl, repL_weak hr⟩
end
end Rx
namespace Rx
open PySem PySem.Spec PyProof.Rows L2
section
variable {K : PySem.W.Frag} {x qual : Str} {params : Arguments} {body : List Stmt} {scope : Scope} {dvs : List V} {f : Addr} {fd : FuncData} {ps : List Str}
theorem FunD_b0 (F : FunD K x qual params body scope dvs [] f fd) (hd : dvs ≠ [])
    (h : ∀ (T : Addr) (kV doc pm : Value) (an : Option Addr) (cdv ct : Value) (us its : List Value), us.length = ps.length → its.length = dvs.length →
      ∃ k, bindArgs (PySem.W.fnOf x qual params body scope (.ref T) kV doc pm an cdv ct) ⟨us, []⟩ = seqItems? (.ref T) >>= k ∧ k (some its.toArray) = pure (ps.zip us)) : Binds K fd ps [] := by
  obtain ⟨ds, rd, hb⟩ := F.binds1 (ps := ps) ps.length dvs.length hd (by omega) fun T kV doc pm an cdv ct us its h1 h2 => by
    obtain ⟨k, e1, e2⟩ := h T kV doc pm an cdv ct us its h1 h2
    refine ⟨k, e1, ?_⟩
    rw [e2, List.drop_of_length_le (by omega), List.append_nil]
  rw [List.drop_length] at rd
  cases rd
  exact hb
end
end Rx
namespace Rx
open PySem PySem.Spec PyProof.Rows L2
def rInW (K : PySem.W.Frag) (w : World) (d : Addr) (b : Bool) : R2 := fun x y H Q => ∃ (z c : Str), x = .str z ∧ y = .ref d ∧ KDct K w d z (.str c) ∧ Q (.bl b) H
section
variable {X : Cx} {K : PySem.W.Frag} {w : World} {d : Addr}
theorem op_ninW (hK : X.K = K) (hw : X.w = w) (low : (d == sysModules) = false) : OpR X (compareOp .NotIn) (rInW K w d false) := by
  subst hK hw
  intro pins s σ H x y v u Q I rx ry h
  obtain ⟨z, c, rfl, rfl, ⟨es, n, u0, at_, lit, ns, ru⟩, q⟩ := h
  exact op_notIn_kd ⟨at_, lit, low⟩ pins s σ H _ _ v u Q I rx ry ⟨z, some u0, rfl, rfl, ns, q⟩
theorem rep_inW {l : List (Str × Str)} {z c : Str} {b : Bool} {H : Hp} {σ : L2.St} {Q : VK} (t : ∀ z c : Str, l.lookup z = some c → KDct K w d z (.str c)) (h : l.lookup z = some c) (q : Q (.bl b) H) : tC (V.ref d) σ H fun y H2 => rInW K w d b (.str z) y H2 Q := ⟨z, c, rfl, rfl, t z c h, q⟩
end
end Rx
namespace Rx
open PySem PySem.Spec PyProof.Rows L2
section
variable {α β : Type} {K : PySem.W.Frag} {H1 H2 : Hp} {g : TG} {tt : TT} {te : TE} {vl : List Nat} {σ : L2.St} {Qd : Hp → Prop} {L : Addr}
end
section
variable {α S : Type} {K : PySem.W.Frag} {H1 : Hp} {g : TG} {tb : TS} {D' : Ends} {σ : L2.St}
end
section
variable {X : L2.Cx} {a b c e : PySem.Expr} {ta : TA}
end
section
variable {X : L2.Cx} {e : PySem.Expr} {te : TE}
end
def optV {α : Type} (f : α → V) : Option α → V
  | none => .non
  | some y => f y
theorem rep_optV {α : Type} {f : α → V} {ms : List Addr} {H : Hp} {m : Option α} {u : V} (h : rep ms H (encO (fun y_ : α => D.v (f y_)) m) u) : u = optV f m := by
  cases m <;> exact of_v h
theorem optV_some {α : Type} {f : α → V} {m : Option α} {y : α} (h : m = some y) : optV f m = f y := by rw [h]; rfl
section
variable {X : L2.Cx} {K : PySem.W.Frag} {ms : List Addr} {H : Hp} {u x : V}
theorem op_inSK (hK : X.K = K) : OpR X (compareOp .In) (rIn K false) := by
  subst hK
  exact op_in_seq
theorem inQ_all {α : Type} {f : α → V} {xs : List α} (fs : ∀ y, flatV (f y) = true) : (xs.map f).all flatV = true := by
  rw [List.all_map]
  exact List.all_eq_true.mpr fun y _ => fs y
theorem inQ_eq {α : Type} {f : α → V} {xs : List α} {vs : List V} (h : repL ms H (xs.map fun y_ : α => D.v (f y_)) vs) : vs = xs.map f := by
  have e1 : xs.map (fun y_ : α => D.v (f y_)) = (xs.map f).map D.v := by
    rw [List.map_map]
    rfl
  rw [e1] at h
  exact repL_flat.mp h
theorem rep_inT {α : Type} {f : α → V} {xs : List α} {Q : VK} (h : rep ms H (.tup (xs.map fun y_ : α => D.v (f y_))) u) (fx : flatV x = true) (fs : ∀ y, flatV (f y) = true) (k : Q (.bl (inV x (xs.map f))) H) : rIn K false x u H Q := by
  simp only [rep] at h
  obtain ⟨p, vs, e, _, hp, hr⟩ := h
  rw [inQ_eq hr] at hp
  exact ⟨p, _, e, .inr (.inl (.inl hp)), fx, inQ_all fs, k⟩
end
section
variable {K : PySem.W.Frag} {ms : List Addr} {ps : List PEn} {H0 H H' H1 : Hp} {L : Addr} {d : D} {ds : List D} {u x y : V} {vs : List V} {ks : List Key} {k : Key}
end
end Rx
namespace Rx
open PySem PySem.Spec PyProof.Rows L2
section
variable {K : PySem.W.Frag} {ms : List Addr} {ps : List PEn} {H0 H : Hp} {x : V}
end
section
variable {α S : Type} {K : PySem.W.Frag} {H1 : Hp} {g : TG} {tb : TS} {D' : Ends} {σ : L2.St}
theorem rep_pair {ms : List Addr} {H H2 : Hp} {T : Addr} {d1 d2 : D} {v1 v2 : V} (tr : ∀ m ∈ ms, H m ≠ none) (nT : H T = none) (e : H2 = upd H T (.tup [v1, v2])) (h1 : rep ms H d1 v1) (h2 : rep ms H d2 v2) : rep ms H2 (.tup [d1, d2]) (.ref T) := by
  subst e
  simp only [rep]
  refine ⟨T, [v1, v2], rfl, fun z => tr T z nT, upd_same, ?_⟩
  exact repL_ext (Ext.new nT) (repL_cons h1 (repL_cons h2 repL_nil))
end
end Rx
namespace Rx
open PySem PySem.Spec PyProof.Rows L2
section
variable {α κ : Type} [DecidableEq κ]
def getD (m : List (κ × α)) (k : κ) : Option α := (m.find? fun q => decide (q.1 = k)).map (·.2)
end
section
variable {α : Type} {K : PySem.W.Frag} {ms : List Addr} {ps : List PEn} {H0 H : Hp} {L : Addr} {x : V} {e : α → D}
end
section
variable {K : PySem.W.Frag} {ms : List Addr} {H : Hp} {x : V}
end
end Rx
namespace Rx
open PySem PySem.Spec PyProof.Rows L2
def tyN : D → String
  | .v (.bl _) => "bool"
  | .v (.int _) => "int"
  | .v (.str _) => "str"
  | .v _ => "NoneType"
  | .lst _ => "list"
  | .tup _ => "tuple"
  | .dct _ _ => "dict"
  | .dcT _ _ => "dict"
  | .ins _ _ _ => "object"
def tyOk : D → Bool
  | .v .non => true
  | .v (.bl _) => true
  | .v (.int _) => true
  | .v (.str _) => true
  | .v _ => false
  | .ins _ _ _ => false
  | _ => true
section
variable {K : PySem.W.Frag} {ms : List Addr} {ps : List PEn} {H0 H : Hp} {d : D} {u x : V}
theorem rep_TyN (h : rep ms H d u) (n : tyOk d = true) {T : String} (e : tyN d = T) : TyX K H u (.type T) := by
  subst e
  cases d with
  | v x =>
    obtain rfl := of_v h
    cases u <;> simp only [tyOk] at n
    · exact .base .non
    · exact .base (.bl _)
    · exact .base (.int _)
    · exact .base (.str _)
    all_goals cases n
  | lst ds =>
    simp only [rep] at h
    obtain ⟨p, vs, rfl, _, hp, _⟩ := h
    exact .base (.lst hp)
  | tup ds =>
    simp only [rep] at h
    obtain ⟨p, vs, rfl, _, hp, _⟩ := h
    exact .base (.tup hp)
  | dct ks ds =>
    simp only [rep] at h
    obtain ⟨p, vs, rfl, _, hp, _⟩ := h
    exact .base (.dK hp)
  | dcT ks ds =>
    simp only [rep] at h
    obtain ⟨p, vs, rfl, _, hp, _⟩ := h
    exact .base (.dT hp)
  | ins _ _ _ => cases n
theorem rep_isi1 {a b : String} {r : Bool} {P : Bool → Prop} (h : rep ms H d u) (n : tyOk d = true) (e : tyN d = a) (k : kitB a b = some r) (q : P r) :
    ∃ (x' c : V) (t u' : Value) (b' : Bool), [u, .ty b] = [x', c] ∧ ClsV c u' ∧ TyX K H x' t ∧ PySem.W.kitOne K t u' = some b' ∧ P b' :=
  ⟨u, .ty b, .type a, .type b, r, rfl, .ty b, rep_TyN h n e, kit_ty k, q⟩
theorem rep_lenT {ds : List D} {n : Nat} {P : Nat → Prop} (h : rep ms H (.tup ds) x) (hn : ds.length = n) (q : P n) : ∃ (y : V) (m : Nat), [x] = [y] ∧ LenV K y H m ∧ P m := by
  simp only [rep] at h
  obtain ⟨p, vs, rfl, _, hp, hr⟩ := h
  exact ⟨_, vs.length, rfl, .inr ⟨vs, .inl (.inl hp), rfl⟩, by rw [← repL_len hr, hn]; exact q⟩
end
section
variable {α : Type} {K : PySem.W.Frag} {ms : List Addr} {ps : List PEn} {H0 H : Hp} {L : Addr} {x kx : V} {e : α → D}
end
section
variable {K : PySem.W.Frag} {ms : List Addr} {ps : List PEn} {H0 H : Hp} {x : V}
end
end Rx
namespace Rx
open PySem PySem.Spec PyProof.Rows L2
section
variable {prog : Program} {w : World} {A : Around} {E : Value → Shared → Prop} {s : Shared}
end
section
variable {prog : Program} {w : World} {A : Around} {E : Value → Shared → Prop} {s : Shared}
end
section
variable {K : PySem.W.Frag} {ms : List Addr} {H : Hp} {x : V}
end
section
variable {α β : Type} {K : PySem.W.Frag} {H1 : Hp} {g : TG} {tt : TT} {te : TE} {vl : List Nat} {σ : L2.St} {Qd : Hp → Prop} {L : Addr}
end
end Rx
namespace Rx
open PySem PySem.Spec PyProof.Rows L2
section
variable {K : PySem.W.Frag} {ms : List Addr} {ps : List PEn} {H0 H : Hp} {L : Addr} {u : V}
end
end Rx
namespace Rx
open PySem PySem.Spec PyProof.Rows L2
section
variable {X : Cx}
variable {n : Nat} {C f : Addr} {fd : FuncData} {ps : List Str} {sp : Sp}
end
end Rx
namespace PySem
open Sem (wp)
open AutoSeq1 (wpAny_loadPart')
section
variable {prog : Program} {w : World} {A : Around} {E : Value → Shared → Prop} {s : Shared}
end
end PySem
namespace Rx
open PySem PySem.Spec PyProof.Rows L2
section
variable {K : PySem.W.Frag} {a : Addr} {xs : List V}
end
section
variable {α S : Type} {K : PySem.W.Frag} {H1 : Hp} {g : TG} {tb : TS} {D' : Ends} {σ : L2.St}
end
section
variable {K : PySem.W.Frag} {ms : List Addr} {ps : List PEn} {H0 H : Hp} {x : V}
end
end Rx
namespace Rx
open PySem PySem.Spec PyProof.Rows L2
section
variable {K : PySem.W.Frag} {ms ms' : List Addr} {ps : List PEn} {H0 H H' H1 : Hp} {L L' : Addr} {d d' : D} {ds : List D} {u x : V} {vs : List V}
theorem rep_lstAt (h : rep ms H (.lst ds) u) : ∃ (L : Addr) (vs : List V), u = .ref L ∧ L ∉ ms ∧ H L = some (.lst vs) ∧ repL ms H ds vs := by
  simp only [rep] at h
  obtain ⟨p, vs, e, np, hp, hl⟩ := h
  exact ⟨p, vs, e, np, hp, hl⟩
theorem wd_fresh {o : HO} (w : Wd ms ps [] H0 H) (h : H L = some o) : Wd (L :: ms) ps [] H0 H :=
  ⟨w.kp, w.grow, fun m hm => by
    rcases List.mem_cons.mp hm with z | z
    · rw [z, h]
      exact fun z => nomatch z
    · exact w.tr m z, w.pot, fun a ha => List.mem_cons_of_mem _ (w.pm a ha), fun _ h => absurd h List.not_mem_nil⟩
end
section
variable {K : PySem.W.Frag} {X : Cx} {o : PySem.Expr} {to : TE} {name : Str} {apos cpos : Pos} {T id : String} {r : V → List V → Hp → VK → Prop}
end
section
variable {K : PySem.W.Frag} {X : Cx} {C g : Addr} {CX : CXT} {k : Nat} {sp : Sp} {E : XK} {fe e : PySem.Expr} {es : List PySem.Expr} {tf : TE} {t : TA} {pos : Pos} {fd : FuncData} {ps : List Str}
end
end Rx
namespace PySem.W
open Lean Elab Tactic Meta PySem PySem.Calls PyProof.Rows
section
variable {prog : Program} {w : World} {A : Around} {E : Value → Shared → Prop} {s : Shared} {K : Frag} {x y C L f : Addr} {h₀ : Heap} {m : Str → Option Value} {ox oy : Obj} {od oe : Option Obj}
end
end PySem.W
namespace Rx
open PySem PySem.Spec PyProof.Rows L2
structure OwnBin (K : PySem.W.Frag) (C : Addr) (op : Operator) (f : Addr) : Prop where
  first : PySem.W.selfFirst K C = true
  hs : PySem.W.findIn K (.ref C) (PySem.dunder op.info.2) = some (some (.ref f))
  hf : PySem.W.isFn K (.ref f) = true
structure OwnBinT (K : PySem.W.Frag) (C : Addr) (op : Operator) (f : Addr) : Prop extends OwnBin K C op f where
  hr : ∃ rc : Option Value, PySem.W.findIn K (.ref C) (dunderR op.info.2) = some rc ∧ (rc = none ∨ ∃ g : Addr, rc = some (.ref g))
  i1 : ∃ fo : Option Value, PySem.W.findIn K (.type "int") (PySem.dunder op.info.2) = some fo
  i2 : ∃ ro : Option Value, PySem.W.findIn K (.type "int") (dunderR op.info.2) = some ro
section
variable {α γ β : Type} {K : PySem.W.Frag} {H1 : Hp} {g : TG} {tt : TT} {te : TE} {vl : List Nat} {σ : L2.St} {Qd : Hp → Prop} {L : Addr}
end
end Rx
namespace Rx
open PySem PySem.Spec PyProof.Rows L2
section
variable {K : PySem.W.Frag} {ms ms' : List Addr} {ps : List PEn} {H0 H H' H1 : Hp} {L L' : Addr} {d d' : D} {ds : List D} {u x : V} {vs : List V}
end
end Rx
namespace Rx
open PySem PySem.Spec PyProof.Rows L2
end Rx
namespace Rx
open PySem PySem.Spec PyProof.Rows L2
end Rx
namespace Rx
open PySem PySem.Spec PyProof.Rows L2
end Rx
namespace PySem.W
open Lean Elab Tactic Meta PySem PySem.Calls PyProof.Rows
section
variable {prog : Program} {w : World} {M : Model} {A : Around} {E : Value → Shared → Prop} {s : Shared} {K : Frag} {y C L f g : Addr} {h₀ : Heap} {m : Str → Option Value} {oy : Obj} {oe : Option Obj} {n : Int} {t : Tok}
end
end PySem.W
namespace Rx
open PySem PySem.Spec PyProof.Rows L2 RZ
structure OwnNeg (K : PySem.W.Frag) (C f : Addr) : Prop where
  hs : PySem.W.findIn K (.ref C) "__neg__" = some (some (.ref f))
  hf : PySem.W.isFn K (.ref f) = true
structure OwnBinR (K : PySem.W.Frag) (C : Addr) (op : Operator) (g : Addr) : Prop where
  first : PySem.W.selfFirst K C = true
  hs : ∃ f : Addr, PySem.W.findIn K (.ref C) (PySem.dunder op.info.2) = some (some (.ref f))
  hr : PySem.W.findIn K (.ref C) (dunderR op.info.2) = some (some (.ref g))
  hg : PySem.W.isFn K (.ref g) = true
  hsub : PySem.W.subIn K (.ref C) (.type "int") = some false
section
variable {α γ β S : Type}
def PairIt (ms : List Addr) (H1 : Hp) (J : It) (items : List (α × γ)) (e : α → D) (e2 : γ → D) : Prop :=
  ∃ (p q : Nat → Option V) (G : Hp → Prop), L2.Walk J items.length G (YPair p q) ∧ (∀ H, Keep ms H1 H → G H) ∧
    ∀ (i : Nat) (x1 x2 : V) (H : Hp) (h : i < items.length), Keep ms H1 H → p i = some x1 → q i = some x2 → rep ms H (e items[i].1) x1 ∧ rep ms H (e2 items[i].2) x2
theorem repL_at {ms : List Addr} {H : Hp} {items : List α} {e : α → D} {xs : List V} {i : Nat} {x : V} (hx : repL ms H (items.map e) xs) (h : i < items.length) (hi : xs[i]? = some x) : rep ms H (e items[i]) x := by
  obtain ⟨v, hv, rv⟩ := repL_get hx (j := i) (d := e items[i]) (by rw [List.getElem?_map, List.getElem?_eq_getElem h]; rfl)
  rw [hi] at hv
  cases hv
  exact rv
theorem pair_zip {K : PySem.W.Frag} {ms : List Addr} {H1 : Hp} {items : List α} {items2 : List γ} {e : α → D} {e2 : γ → D} {a b : Addr} {xs zs : List V} (an : a ∉ ms) (ha : H1 a = some (.lst xs)) (hx : repL ms H1 (items.map e) xs)
    (bn : b ∉ ms) (hb : H1 b = some (.lst zs)) (hz : repL ms H1 (items2.map e2) zs) : PairIt ms H1 (Itz K a b) (items.zip items2) e e2 := by
  have hl : items.length = xs.length := by
    have := repL_len hx
    rwa [List.length_map] at this
  have hl2 : items2.length = zs.length := by
    have := repL_len hz
    rwa [List.length_map] at this
  have zl : (items.zip items2).length = min xs.length zs.length := by rw [List.length_zip, hl, hl2]
  refine ⟨_, _, _, walk_zip (K := K) (a := a) (b := b) (xs := xs) (ys := zs) zl, fun H k => ⟨.inl (.inl (k a _ an ha)), .inl (.inl (k b _ bn hb))⟩, fun i x1 x2 H h k h1 h2 => ?_⟩
  have l1 : i < items.length := by omega
  have l2 : i < items2.length := by omega
  have hit : (items.zip items2)[i] = (items[i], items2[i]) := List.getElem_zip
  rw [hit]
  exact ⟨repL_at (repL_keep k hx) l1 h1, repL_at (repL_keep k hz) l2 h2⟩
theorem enum_at {items : List γ} {i : Nat} (h : i < ((rangeI 0 (items.length : Int)).zip items).length) (h2 : i < items.length) : ((rangeI 0 (items.length : Int)).zip items)[i] = ((i : Int), items[i]) := by
  have hz : ((rangeI 0 (items.length : Int)).zip items)[i]? = some ((i : Int), items[i]) := by
    rw [List.getElem?_zip_eq_some]
    exact ⟨by rw [rangeI_get (by omega)]; congr 1; omega, List.getElem?_eq_getElem h2⟩
  rw [List.getElem?_eq_getElem h] at hz
  exact Option.some.inj hz
theorem enum_len (items : List γ) : ((rangeI 0 (items.length : Int)).zip items).length = items.length := by
  rw [List.length_zip, rangeI_len]
  omega
variable {H1 : Hp} {g : TG} {tt : TT} {te : TE} {vl : List Nat} {σ : L2.St} {Qd : Hp → Prop} {L : Addr} {J : It}
theorem lc_pairG {items : List (α × γ)} {e : α → D} {e2 : γ → D} {ms : List Addr} {body : (α × γ) → (β → Prop) → Prop} {KM : List β → Prop} (SI : Nat → List β → Hp → Prop) (P : PairIt (L :: ms) H1 J items e e2)
    (kp : ∀ n ys H, SI n ys H → Keep (L :: ms) H1 H) (tr : ∀ n ys H, SI n ys H → ∀ m ∈ L :: ms, H m ≠ none) (hM : items.length < 100000 ∧ mapC body items [] KM) (h0 : SI 0 [] (upd H1 L (.lst [])))
    (hs : ∀ (x : α × γ) (u : V) (n : Nat) (ys : List β) (k : β → Prop) (H H2 : Hp), n < 100000 → SI n ys H → Ext H H2 → rep (L :: ms) H2 (.tup [e x.1, e2 x.2]) u → body x k → ∀ Nx : Hp → Prop, (∀ y H', k y → SI (n + 1) (ys ++ [y]) H' → Nx H') → Turn g tt te vl σ L u H2 Nx)
    (hd : ∀ n ys H, KM ys → SI n ys H → Qd H) :
    ∃ W : Nat → Nat → Hp → Prop, (∃ m, W 0 m (upd H1 L (.lst []))) ∧ ∀ i m H, W i m H →
      (J.stop i H ∧ Qd H) ∨ (J.go i H ∧ ∃ Nx : Hp → Prop, (∀ H', Nx H' → ∃ m', m' < m ∧ W (i + 1) m' H') ∧ ∀ x H', J.yld i H x H' → g x (wipe σ vl) H' fun σ2 H2 => wipe σ2 vl = wipe σ vl ∧ tt σ2 H2 fun b H3 =>
        if b = true then te σ2 H3 fun y H4 => ∃ acc, H4 L = some (.lst acc) ∧ acc.length < sizeLine ∧ Nx (upd H4 L (.lst (acc ++ [y]))) else Nx H3) := by
  obtain ⟨hn, hM⟩ := hM
  obtain ⟨p, q', G, w, hG, hat⟩ := P
  refine ⟨fun i m H => m = items.length - i ∧ i ≤ items.length ∧ ∃ ys, SI i ys H ∧ mapC body (items.drop i) ys KM, ⟨_, rfl, Nat.zero_le _, [], h0, hM⟩, ?_⟩
  rintro i m H ⟨rfl, hi', ys, T, q⟩
  have hk := kp i ys H T
  by_cases hlt : i < items.length
  · refine .inr ⟨w.goes i H hlt (hG H hk), fun H' => i + 1 ≤ items.length ∧ ∃ ys, SI (i + 1) ys H' ∧ mapC body (items.drop (i + 1)) ys KM, fun H' p' => ⟨_, by omega, rfl, p'⟩, fun x H' y => ?_⟩
    obtain ⟨T', x1, x2, rfl, nT, eH, e1, e3⟩ := w.yields i H x H' hlt (hG H hk) y
    rw [drop_cons' (List.getElem?_eq_getElem hlt)] at q
    obtain ⟨r1, r2⟩ := hat i x1 x2 H hlt hk e1 e3
    exact hs _ _ i ys _ H H' (by omega) T (by rw [eH]; exact Ext.new nT) (rep_pair (tr i ys H T) nT eH r1 r2) q _ fun y H'' k T' => ⟨hlt, _, T', k⟩
  · have ei : i = items.length := by omega
    refine .inl ⟨by rw [ei]; exact w.stops H (hG H hk), ?_⟩
    rw [List.drop_of_length_le (by omega)] at q
    exact hd _ ys H q T
theorem lf_pairG {items : List (α × γ)} {e : α → D} {e2 : γ → D} {ms : List Addr} {body : (α × γ) → (Option β → Prop) → Prop} {KM : List β → Prop} (SI : Nat → List β → Hp → Prop) (P : PairIt (L :: ms) H1 J items e e2)
    (kp : ∀ n ys H, SI n ys H → Keep (L :: ms) H1 H) (tr : ∀ n ys H, SI n ys H → ∀ m ∈ L :: ms, H m ≠ none) (hM : items.length < 100000 ∧ filC body items [] KM) (h0 : SI 0 [] (upd H1 L (.lst [])))
    (hs : ∀ (x : α × γ) (u : V) (n : Nat) (ys : List β) (k : Option β → Prop) (H H2 : Hp), n < 100000 → SI n ys H → Ext H H2 → rep (L :: ms) H2 (.tup [e x.1, e2 x.2]) u → body x k → ∀ Nx : Hp → Prop, (∀ y H', k (some y) → SI (n + 1) (ys ++ [y]) H' → Nx H') → (∀ H', k none → SI (n + 1) ys H' → Nx H') → Turn g tt te vl σ L u H2 Nx)
    (hd : ∀ n ys H, KM ys → SI n ys H → Qd H) :
    ∃ W : Nat → Nat → Hp → Prop, (∃ m, W 0 m (upd H1 L (.lst []))) ∧ ∀ i m H, W i m H →
      (J.stop i H ∧ Qd H) ∨ (J.go i H ∧ ∃ Nx : Hp → Prop, (∀ H', Nx H' → ∃ m', m' < m ∧ W (i + 1) m' H') ∧ ∀ x H', J.yld i H x H' → g x (wipe σ vl) H' fun σ2 H2 => wipe σ2 vl = wipe σ vl ∧ tt σ2 H2 fun b H3 =>
        if b = true then te σ2 H3 fun y H4 => ∃ acc, H4 L = some (.lst acc) ∧ acc.length < sizeLine ∧ Nx (upd H4 L (.lst (acc ++ [y]))) else Nx H3) := by
  obtain ⟨hn, hM⟩ := hM
  obtain ⟨p, q', G, w, hG, hat⟩ := P
  refine ⟨fun i m H => m = items.length - i ∧ i ≤ items.length ∧ ∃ ys, SI i ys H ∧ filC body (items.drop i) ys KM, ⟨_, rfl, Nat.zero_le _, [], h0, hM⟩, ?_⟩
  rintro i m H ⟨rfl, hi', ys, T, q⟩
  have hk := kp i ys H T
  by_cases hlt : i < items.length
  · refine .inr ⟨w.goes i H hlt (hG H hk), fun H' => i + 1 ≤ items.length ∧ ∃ ys, SI (i + 1) ys H' ∧ filC body (items.drop (i + 1)) ys KM, fun H' p' => ⟨_, by omega, rfl, p'⟩, fun x H' y => ?_⟩
    obtain ⟨T', x1, x2, rfl, nT, eH, e1, e3⟩ := w.yields i H x H' hlt (hG H hk) y
    rw [drop_cons' (List.getElem?_eq_getElem hlt)] at q
    obtain ⟨r1, r2⟩ := hat i x1 x2 H hlt hk e1 e3
    exact hs _ _ i ys _ H H' (by omega) T (by rw [eH]; exact Ext.new nT) (rep_pair (tr i ys H T) nT eH r1 r2) q _ (fun y H'' k T' => ⟨hlt, _, T', k⟩) fun H'' k T' => ⟨hlt, _, T', k⟩
  · have ei : i = items.length := by omega
    refine .inl ⟨by rw [ei]; exact w.stops H (hG H hk), ?_⟩
    rw [List.drop_of_length_le (by omega)] at q
    exact hd _ ys H q T
variable {tb : TS} {D' : Ends}
theorem for_pairG {items : List (α × γ)} {e : α → D} {e2 : γ → D} {ms : List Addr} {body : (α × γ) → S → (S → Prop) → Prop} {KM : S → Prop} (SI : S → L2.St → Hp → Prop) (s0 : S) (P : PairIt ms H1 J items e e2)
    (kp : ∀ s σ H, SI s σ H → Keep ms H1 H) (tr : ∀ s σ H, SI s σ H → ∀ m ∈ ms, H m ≠ none) (hM : forC body items s0 KM) (h0 : SI s0 σ H1)
    (hs : ∀ (x : α × γ) (u : V) (s : S) (k : S → Prop) (σ : L2.St) (H H2 : Hp), SI s σ H → Ext H H2 → rep ms H2 (.tup [e x.1, e2 x.2]) u → body x s k → ∀ Nx : L2.St → Hp → Prop, (∀ s' σ' H', k s' → SI s' σ' H' → Nx σ' H') →
      g u σ H2 fun σ2 H2 => tb { D' with nx := Nx, ct := Nx, bk := D'.nx } σ2 H2)
    (hd : ∀ s σ H, KM s → SI s σ H → D'.nx σ H) :
    ∃ W : Nat → Nat → L2.St → Hp → Prop, (∃ m, W 0 m σ H1) ∧ ∀ i m σ H, W i m σ H →
      (J.stop i H ∧ D'.nx σ H) ∨ (J.go i H ∧ ∃ Nx : L2.St → Hp → Prop, (∀ σ' H', Nx σ' H' → ∃ m', m' < m ∧ W (i + 1) m' σ' H') ∧ ∀ x H', J.yld i H x H' → g x σ H' fun σ2 H2 => tb { D' with nx := Nx, ct := Nx, bk := D'.nx } σ2 H2) := by
  obtain ⟨p, q', G, w, hG, hat⟩ := P
  refine L2.for_it w (D := D') (fun i σ H => ∃ s, SI s σ H ∧ forC body (items.drop i) s KM) ⟨s0, h0, hM⟩ (fun i σ H _ ⟨s, si, _⟩ => hG H (kp s σ H si)) (fun i u σ H H' hi ⟨s, si, q⟩ y => ?_) (fun σ H ⟨s, si, q⟩ => ?_)
  · obtain ⟨T, x1, x2, rfl, nT, eH, e1, e3⟩ := y
    have hk := kp s σ H si
    rw [drop_cons' (List.getElem?_eq_getElem hi)] at q
    obtain ⟨r1, r2⟩ := hat i x1 x2 H hi hk e1 e3
    exact hs _ (.ref T) s _ σ H H' si (by rw [eH]; exact Ext.new nT) (rep_pair (tr s σ H si) nT eH r1 r2) q _ fun s' σ' H'' hk si2 => ⟨s', si2, hk⟩
  · rw [List.drop_of_length_le (by omega)] at q
    exact hd s σ H q si
end
end Rx
namespace PySem.W
open PySem PySem.Calls PyProof.Rows Builtin
section
variable {prog : Program} {w : World} {A : Around} {E : Value → Shared → Prop} {s : Shared} {K : Frag} {x C L f : Addr} {h₀ : Heap} {m : Str → Option Value} {ox : Obj} {od : Option Obj}
end
end PySem.W
namespace Rx
open PySem PySem.Spec PyProof.Rows L2
abbrev GL (a : Addr) (rest : List Value) : List Code := [.builtin "list.__repr__.loop" ⟨.ref a :: rest, []⟩]
structure FnQ (P : Program) (w : World) (K : PySem.W.Frag) (mg : Str → Option Value) (base : Heap) (k : Nat) (f : Addr) (fd : FuncData) (ps : List Str) (sp : Addr → Sp) : Prop where
  len : ∀ a vs H Q E, sp a vs H Q E → vs.length = ps.length
  run : ∀ (a : Addr) (rest : List Value) (A : Around), A.guards = some (GL a rest) → Room k A → ∀ (outer : List Env) (s : Shared) (H : Hp) (args : Args) (us : List Value) (vs : List V) (Q : VK) (E : XK), Env0 P w K mg base A outer s H → BindsTo s fd args (ps.zip us) → Vals vs us → sp a vs H Q E →
    codeAny (model P w) A (.call (.ref f) args) (CR CX0 outer P w H s Q E) s
theorem FnQ.mono {P : Program} {w : World} {K : PySem.W.Frag} {mg : Str → Option Value} {base : Heap} {j k : Nat} {f : Addr} {fd : FuncData} {ps : List Str} {sp : Addr → Sp} (F : FnQ P w K mg base j f fd ps sp) (h : j ≤ k) : FnQ P w K mg base k f fd ps sp :=
  ⟨F.len, fun a rest A gu hr => F.run a rest A gu (hr.mono h)⟩
section
variable {P : Program} {w : World} {K : PySem.W.Frag} {mg : Str → Option Value} {base : Heap}
end
def NoRd (H : Hp) (a : Addr) : Prop := ∃ vs b C dx fs, H a = some (.lst vs) ∧ V.ref b ∈ vs ∧ H b = some (.ins C dx fs)
theorem NoRd.ext {H H' : Hp} {a : Addr} (h : NoRd H a) (e : Ret [] H H') : NoRd H' a := by
  obtain ⟨vs, b, C, dx, fs, h1, h2, h3⟩ := h
  exact ⟨vs, b, C, dx, fs, e.keep h1, h2, e.keep h3⟩
section
variable {X : Cx} {pins : List (Addr × Obj)} {σ : L2.St} {H : Hp} {s : Shared}
end
section
variable {X : Cx}
end
section
variable {X : Cx} {n : Nat} {C f : Addr} {fd : FuncData} {ps : List Str} {sp : Addr → Sp}
end
section
variable {α : Type} {e : α → D} {C : Addr} {ns : List Str} {ms : List Addr} {H : Hp} {M : α → (Str → Prop) → Prop} {sp : Addr → Sp} {Q : VK} {KM : List Str → Prop}
end
end Rx
namespace PySem.W
open Lean Elab Tactic Meta PySem PySem.Calls PyProof.Rows
section
variable {prog : Program} {w : World} {A : Around} {E : Value → Shared → Prop} {s : Shared} {K : Frag} {x y C L f : Addr} {h₀ : Heap} {m : Str → Option Value} {ox oy : Obj} {od oe : Option Obj}
end
end PySem.W
namespace Rx
open PySem PySem.Spec PyProof.Rows L2
structure OwnIn (K : PySem.W.Frag) (C : Addr) (op : Operator) (f : Addr) : Prop extends OwnBin K C op f where
  mro : ∃ cd, PySem.W.clsIn K C = some cd ∧ cd.mro = [.ref C, .type "object"]
  hi : PySem.W.findIn K (.ref C) (dunderI op.info.2) = some none
structure SMet (K : PySem.W.Frag) (C : Addr) (m : Str) (g : Addr) : Prop where
  mc : ∃ mc, ClX.CRead K C mc ∧ ∃ p, PySem.W.findCls K (.ref C) mc m = some (.get (.builtin "staticmethod.__get__") (.ref p) .none (.ref C)) ∧ ∃ rest, PySem.W.recIn K p "staticmethod" = some (.ref g :: rest)
section
variable {X : Cx} {CX : CXT} {k : Nat} {C g : Addr} {fd : FuncData} {ps : List Str} {sp : Sp} {E : XK} {o e : Expr} {es : List Expr} {m : Str} {pos apos : Pos} {ta : TE} {t : TA}
end
end Rx
namespace Rx
open PySem PySem.Spec PyProof.Rows L2
def Apart (d e : D) : Prop := ∀ (ms ms' : List Addr) (H : Hp) (u : V), rep ms H d u → rep ms' H e u → False
def flatV : V → Bool
  | .ref _ => false
  | _ => true
section
variable {x : V} {ds es : List D} {C C' : Addr} {ns ns' : List Str}
theorem Apart.symm {d e : D} (h : Apart d e) : Apart e d := fun ms ms' H u a b => h ms' ms H u b a
end
mutual
/-- no list within d can be the one that tells e -/
def ApIn (e : D) : D → Prop
  | .v _ => True
  | .lst ds => Apart (.lst ds) e ∧ ApIns e ds
  | .tup ds => ApIns e ds
  | .ins _ _ ds => ApIns e ds
  | .dct _ _ => False
  | .dcT _ _ => False
def ApIns (e : D) : List D → Prop
  | [] => True
  | d :: ds => ApIn e d ∧ ApIns e ds
end
section
variable {ms ms' : List Addr} {ps : List PEn} {H0 H : Hp} {L : Addr} {es : List D}
theorem ne_dr {p : Addr} (dr : Drop ms L ms') (n : p ∉ ms') (q : p ≠ L) : p ∉ ms := fun z => (dr.ex p z).elim n q
mutual
theorem rep_liftA (dr : Drop ms L ms') (m : MutO ms ps H0 H L (.lst es)) : ∀ (d : D) (u : V), ApIn (.lst es) d → rep ms' H d u → rep ms H d u
  | .v x, u, _, h => by
    simp only [rep] at h ⊢
    exact h
  | .lst ds, u, n, h => by
    simp only [ApIn] at n
    have h0 := h
    simp only [rep] at h ⊢
    obtain ⟨p, vs, rfl, np, hp, hl⟩ := h
    refine ⟨p, vs, rfl, ne_dr dr np fun z => ?_, hp, repL_liftA dr m ds vs n.2 hl⟩
    rw [z] at h0
    exact n.1 _ _ _ _ h0 (mo_rep (ms' := []) (by simp) (fun a ha => absurd ha List.not_mem_nil) m)
  | .tup ds, u, n, h => by
    simp only [ApIn] at n
    simp only [rep] at h ⊢
    obtain ⟨p, vs, rfl, np, hp, hl⟩ := h
    refine ⟨p, vs, rfl, ne_dr dr np fun z => ?_, hp, repL_liftA dr m ds vs n hl⟩
    have := m.isMo
    rw [← z, hp] at this
    exact this
  | .ins C ns ds, u, n, h => by
    simp only [ApIn] at n
    simp only [rep] at h ⊢
    obtain ⟨p, dx, vs, rfl, np, hp, hn, hl⟩ := h
    refine ⟨p, dx, vs, rfl, ne_dr dr np fun z => ?_, hp, hn, repL_liftA dr m ds vs n hl⟩
    have := m.isMo
    rw [← z, hp] at this
    exact this
  | .dct _ ds, u, n, h => by
    simp only [ApIn] at n
  | .dcT _ ds, u, n, h => by
    simp only [ApIn] at n
theorem repL_liftA (dr : Drop ms L ms') (m : MutO ms ps H0 H L (.lst es)) : ∀ (ds : List D) (us : List V), ApIns (.lst es) ds → repL ms' H ds us → repL ms H ds us
  | [], us, _, h => by
    simp only [repL] at h ⊢
    exact h
  | d :: ds, us, n, h => by
    simp only [ApIns] at n
    simp only [repL] at h ⊢
    obtain ⟨u, ws, e, h1, h2⟩ := h
    exact ⟨u, ws, e, rep_liftA dr m d u n.1 h1, repL_liftA dr m ds ws n.2 h2⟩
end
end
end Rx
namespace Rx
open PySem PySem.Spec PyProof.Rows L2
end Rx
namespace Rx
open PySem PySem.Spec PyProof.Rows L2
section
variable {e : D} {x : V} {C : Addr} {ns : List Str} {ds : List D}
end
end Rx
namespace Rx
open PySem PySem.Spec PyProof.Rows L2
section
variable {α γ β : Type} {K : PySem.W.Frag} {H1 : Hp} {g : TG} {tt : TT} {te : TE} {vl : List Nat} {σ : L2.St} {Qd : Hp → Prop} {L : Addr}
end
end Rx
namespace Rx
open PySem PySem.Spec PyProof.Rows L2
section
variable {α : Type} {K : PySem.W.Frag} {H1 : Hp} {ms : List Addr}
end
section
end
section
end
section
variable {K : PySem.W.Frag} {ms : List Addr} {ps : List PEn} {H0 H : Hp} {x : V} {L : Addr} {ds : List D}
end
section
section
variable {X : Cx} {pins : List (Addr × Obj)} {σ : L2.St} {H : Hp} {s : Shared} {ms : List Addr}
end
end
section
variable {ms : List Addr} {p : Addr} {He H0 H H1 : Hp}
end
end Rx
namespace Rx
open PySem PySem.Spec PyProof.Rows L2
end Rx
namespace Rx
open PySem PySem.Spec PyProof.Rows L2
section
variable {ms : List Addr} {ps ps' : List PEn} {cs : List (Addr × List V)} {H0 H H' : Hp}
end
end Rx
namespace Rx
open PySem PySem.Spec PyProof.Rows L2
end Rx
namespace Rx
open PySem PySem.Spec PyProof.Rows L2
section
variable {ms ms' : List Addr} {ps : List PEn} {cs : List (Addr × List V)} {H0 H H1 H' : Hp} {C : Addr} {ns : List Str} {ds : List D} {cls : Value} {d : Option Addr}
end
inductive ClsOk (X : Cx) (n : Str) : List ExceptHandler → List (Value × (Addr → Value → Option Addr → TS)) → Prop
  | nil : ClsOk X n [] []
  | cons {x : Str} {c : Value} {ts : Addr → Value → Option Addr → TS} {st1 : Stmt} {suite : List Stmt} {np pos' : Pos} {hds : List ExceptHandler} {l : List (Value × (Addr → Value → Option Addr → TS))} (names : Names X x c)
      (each : ∀ (a : Addr) (oe : Obj) (cls : Value) (d : Option Addr) (pn : List (Addr × Obj)), Zc cls d oe → (∃ vs, oe.data = .fields vs) → PSs (X.suite a ((a, oe) :: pn)) (st1 :: suite) (ts a cls d)) (r : ClsOk X n hds l) :
      ClsOk X n (.ExceptHandler (some (.Name x np)) (some n) (st1 :: suite) pos' :: hds) ((c, ts) :: l)
end Rx
namespace Rx
open PySem PySem.Spec PyProof.Rows L2
section
variable {X : Cx} {pins : List (Addr × Obj)} {σ : L2.St} {H : Hp} {s : Shared}
end
def pyKey : Key → PyData
  | .inl i => .int i
  | .inr z => .str z
mutual
def pyX : D → PyData
  | .v .non => .none
  | .v (.bl b) => .bool b
  | .v (.int i) => .int i
  | .v (.str z) => .str z
  | .v _ => .none
  | .lst ds => .list (pyXs ds)
  | .tup ds => .tuple (pyXs ds)
  | .ins _ _ _ => .none
  | .dct ks ds => .dict ((ks.map pyKey).zip (pyXs ds))
  | .dcT _ _ => .none
def pyXs : List D → List PyData
  | [] => []
  | d :: ds => pyX d :: pyXs ds
def plainX : D → Bool
  | .v .non => true
  | .v (.bl _) => true
  | .v (.int _) => true
  | .v (.str _) => true
  | .v _ => false
  | .lst ds => plainXs ds
  | .tup ds => plainXs ds
  | .ins _ _ _ => false
  | .dct ks ds => decide (ks.length = ds.length) && plainXs ds
  | .dcT _ _ => false
def plainXs : List D → Bool
  | [] => true
  | d :: ds => plainX d && plainXs ds
end
section
variable {X : Cx} {pins : List (Addr × Obj)} {σ : L2.St} {H : Hp} {s : Shared} {ms : List Addr}
abbrev ShX (X : Cx) (s : Shared) (v : Value) (d : PyData) : Prop := ∃ as bs, Reads s.heap v d as ∧ ReadAtMost s.heap d.depth bs ∧ ReprK X.prog X.w bs s.heap d.depth v d.shown
abbrev ShXs (X : Cx) (s : Shared) (vs : List Value) (ds : List PyData) : Prop := ∃ as bs, ReadsAll s.heap vs ds as ∧ ReadAtMost s.heap (PyData.depthAll ds) bs ∧ ReprAllK X.prog X.w bs s.heap (PyData.depthAll ds) vs (PyData.shownAll ds)
theorem pyXs_len : ∀ ds : List D, (pyXs ds).length = ds.length
  | [] => rfl
  | d :: ds => by
    simp only [pyXs, List.length_cons]
    rw [pyXs_len ds]
theorem entries_vals {P : Program} {w : World} : ∀ {ks : List Key} {vs : List V} {ws : List (Key × Value)} {es : List DictEntry}, ks.length = vs.length → KV (ks.zip vs) ws → Pairs (mixKind P w) es ws →
    Vals (ks.map kV) (es.map (·.key)) ∧ Vals vs (es.map (·.val))
  | [], [], _, _, _, kv, pr => by
    cases kv
    cases pr
    exact ⟨.nil, .nil⟩
  | k :: ks, v :: vs, _, _, hl, kv, pr => by
    cases kv with
    | cons h1 h2 =>
      cases pr with
      | cons e1 e2 e3 =>
        obtain ⟨i1, i2⟩ := entries_vals (by simpa using hl) h2 e3
        exact ⟨.cons (relV_key (by have z := e1; rw [← h1.1] at z; exact z)) i1, .cons (by have z := h1.2; rw [← e2] at z; exact z) i2⟩
  | [], _ :: _, _, _, hl, _, _ => by simp at hl
  | _ :: _, [], _, _, hl, _, _ => by simp at hl
theorem shKeys (X : Cx) (s : Shared) : ∀ (ks : List Key) (us : List Value), Vals (ks.map kV) us → PyData.showableAll (ks.map pyKey) = true → (∀ t ∈ PyData.shownAll (ks.map pyKey), t.length ≤ sizeLine) → ShXs X s us (ks.map pyKey)
  | [], us, r, _, _ => by
    cases r
    exact ⟨_, [], .nil, (fun _ z => nomatch z), by simp only [List.map_nil, PyData.shownAll]; exact .nil⟩
  | k :: ks, us, r, sh, sz => by
    cases r with
    | cons r1 r2 =>
      simp only [List.map_cons, PyData.showableAll, PyData.shownAll, Bool.and_eq_true] at sh sz ⊢
      obtain ⟨a2, b2, d2, m2, k2⟩ := shKeys X s ks _ r2 sh.2 (fun t ht => sz t (List.mem_cons_of_mem _ ht))
      have one : ∀ v', RelV (kV k) v' → ShX X s v' (pyKey k) := fun v' r1 => by
        cases k with
        | inl i =>
          obtain ⟨t, rfl⟩ := r1
          exact ⟨_, [], .int i t, (fun _ z => nomatch z), by simp only [pyKey, PyData.shown]; exact .of_is (ReprIs.int t (by simpa [pyKey, PyData.showable] using sh.1)) _ _ _⟩
        | inr z =>
          obtain ⟨t, rfl⟩ := r1
          exact ⟨_, [], .str z t, (fun _ z => nomatch z), by simp only [pyKey, PyData.shown]; exact .of_is (ReprIs.str z t (by simpa only [pyKey, PyData.shown] using sz _ List.mem_cons_self)) _ _ _⟩
      obtain ⟨a1, b1, d1, m1, k1⟩ := one _ r1
      refine ⟨_, b1 ++ b2, .cons d1 d2, ?_, ?_⟩
      · simp only [PyData.depthAll]
        exact ReadAtMost.append (m1.mono (Nat.le_max_left _ _)) (m2.mono (Nat.le_max_right _ _))
      · simp only [PyData.depthAll]
        exact .cons ((k1.more fun _ z => List.mem_append_left _ z).level_le (Nat.le_max_left _ _)) (k2.more_le (fun _ z => List.mem_append_right _ z) (Nat.le_max_right _ _))
theorem reads_nil {h : Heap} {xs : List PyData} {as : List Addr} (r : ReadsAll h [] xs as) : xs = [] := by
  cases r
  rfl
mutual
theorem shX (I : L2.Inv X pins σ H s) : ∀ (d : D) (u : V) (v : Value), plainX d = true → rep ms H d u → RelV u v → (pyX d).showable = true → (pyX d).shown.length ≤ sizeLine → ShX X s v (pyX d)
  | .v x, u, v, p, h, r, sh, sz => by
    obtain rfl := of_v h
    cases u <;> simp only [plainX, pyX] at p sh sz ⊢
    case non =>
      cases r
      exact ⟨_, [], .none, (fun _ z => nomatch z), by simp only [PyData.shown]; exact .of_is ReprIs.none _ _ _⟩
    case bl b =>
      cases r
      exact ⟨_, [], .bool b, (fun _ z => nomatch z), by simp only [PyData.shown]; exact .of_is (ReprIs.bool b) _ _ _⟩
    case int i =>
      obtain ⟨t, rfl⟩ := r
      exact ⟨_, [], .int i t, (fun _ z => nomatch z), by simp only [PyData.shown]; exact .of_is (ReprIs.int t (by simpa [PyData.showable] using sh)) _ _ _⟩
    case str z =>
      obtain ⟨t, rfl⟩ := r
      exact ⟨_, [], .str z t, (fun _ z => nomatch z), by simp only [PyData.shown]; exact .of_is (ReprIs.str z t (by simpa only [PyData.shown] using sz)) _ _ _⟩
    all_goals cases p
  | .lst ds, u, v, p, h, r, sh, sz => by
    simp only [rep] at h
    obtain ⟨a, vs, rfl, _, hp, hl⟩ := h
    cases r
    obtain ⟨its, rv, ⟨o, n, ho, hc, _, hd⟩, _⟩ := I.list (.inl (.inl hp))
    simp only [plainX] at p
    simp only [pyX, PyData.showable, PyData.shown] at sh sz ⊢
    obtain ⟨as, bs, rd, most, all⟩ := shXs I ds vs its p hl rv sh (fun t ht => Nat.le_trans (listText_mem_le ht) sz)
    have rl : Reads s.heap (.ref a) (.list (pyXs ds)) _ := Reads.list ho hc hd rd
    have na : a ∉ bs := not_mem_of_deeper rl (by simp only [PyData.depth]; omega) most
    refine ⟨_, a :: bs, rl, ReadAtMost.cons rl (by simp only [PyData.depth]; omega) most, ?_⟩
    simp only [PyData.depth, PyData.shown]
    cases its with
    | nil =>
      rw [reads_nil rd]
      simp only [PyData.shownAll, listText_nil]
      exact ReprK.listEmpty ho hc hd
    | cons y l => exact ReprK.list ho hc hd na (by simpa using all.length_eq) (fun j z e => all.item j z (by simpa using e))
  | .tup ds, u, v, p, h, r, sh, sz => by
    simp only [rep] at h
    obtain ⟨a, vs, rfl, _, hp, hl⟩ := h
    cases r
    obtain ⟨its, rv, ⟨o, ho, hc, n, hd⟩, _⟩ := I.tuple (.inl (.inl hp))
    simp only [plainX] at p
    simp only [pyX, PyData.showable, PyData.shown] at sh sz ⊢
    obtain ⟨as, bs, rd, most, all⟩ := shXs I ds vs its p hl rv sh (fun t ht => Nat.le_trans (tupleText_mem_le ht) sz)
    have rl : Reads s.heap (.ref a) (.tuple (pyXs ds)) _ := Reads.tuple ho hc hd rd
    have na : a ∉ bs := not_mem_of_deeper rl (by simp only [PyData.depth]; omega) most
    refine ⟨_, a :: bs, rl, ReadAtMost.cons rl (by simp only [PyData.depth]; omega) most, ?_⟩
    simp only [PyData.depth, PyData.shown]
    exact ReprK.tuple ho hc hd na all
  | .ins _ _ _, u, v, p, h, r, sh, sz => by simp only [plainX] at p; cases p
  | .dct ks ds, u, v, p, h, r, sh, sz => by
    simp only [rep] at h
    obtain ⟨a, vs, rfl, _, hp, hlk, hl⟩ := h
    cases r
    obtain ⟨_, low, ws, kv, o, es, ep, ho, hc, hd, _, pr, _⟩ := dk_of I.hok hp
    simp only [plainX, Bool.and_eq_true, decide_eq_true_eq] at p
    obtain ⟨vk, vv⟩ := entries_vals (ks := ks) hlk kv pr
    have lx : (ks.map pyKey).length = (pyXs ds).length := by rw [List.length_map, pyXs_len]; exact p.1
    simp only [pyX, PyData.showable, PyData.shown] at sh sz ⊢
    generalize hkv : (ks.map pyKey).zip (pyXs ds) = kvs at sh sz ⊢
    have f1 : kvs.map (·.1) = ks.map pyKey := by rw [← hkv]; exact List.map_fst_zip (by omega)
    have f2 : kvs.map (·.2) = pyXs ds := by rw [← hkv]; exact List.map_snd_zip (by omega)
    obtain ⟨s1, s2⟩ := PyData.showableKv_split kvs sh
    obtain ⟨as1, b1, d1, m1, k1⟩ := shKeys X s ks _ vk (by rw [← f1]; exact s1) (fun t ht => let ⟨q, hq, hql⟩ := PyData.shownKv_key_le kvs t (by rw [f1]; exact ht); Nat.le_trans hql (Nat.le_trans (dictText_mem_le hq) sz))
    obtain ⟨as2, b2, d2, m2, k2⟩ := shXs I ds vs _ p.2 hl vv (by rw [← f2]; exact s2) (fun t ht => let ⟨q, hq, hql⟩ := PyData.shownKv_val_le kvs t (by rw [f2]; exact ht); Nat.le_trans hql (Nat.le_trans (dictText_mem_le hq) sz))
    rw [← f1] at d1 m1 k1
    rw [← f2] at d2 m2 k2
    have rl : Reads s.heap (.ref a) (.dict kvs) _ := Reads.dict ho hc.1 hd d1 d2
    have hb : ReadAtMost s.heap (PyData.depthKv kvs) (b1 ++ b2) := (m1.mono (PyData.depthAll_keys_le kvs)).append (m2.mono (PyData.depthAll_vals_le kvs))
    have na : a ∉ b1 ++ b2 := not_mem_of_deeper rl (by simp only [PyData.depth]; omega) hb
    refine ⟨_, a :: (b1 ++ b2), rl, ReadAtMost.cons rl (by simp only [PyData.depth]; omega) hb, ?_⟩
    simp only [PyData.depth, PyData.shown, PyData.shownKv_eq]
    exact ReprK.dict ho hc.1 hd low na (ReprEntriesK.of_two es.toList _ _
      (k1.more_le (fun b hb => List.mem_append_left _ hb) (PyData.depthAll_keys_le kvs)) (k2.more_le (fun b hb => List.mem_append_right _ hb) (PyData.depthAll_vals_le kvs)))
  | .dcT _ _, u, v, p, h, r, sh, sz => by simp only [plainX] at p; cases p
theorem shXs (I : L2.Inv X pins σ H s) : ∀ (ds : List D) (us : List V) (vs : List Value), plainXs ds = true → repL ms H ds us → Vals us vs → PyData.showableAll (pyXs ds) = true → (∀ t ∈ PyData.shownAll (pyXs ds), t.length ≤ sizeLine) → ShXs X s vs (pyXs ds)
  | [], us, vs, p, h, r, sh, sz => by
    obtain rfl := repL_empty h
    cases r
    simp only [pyXs]
    exact ⟨_, [], .nil, (fun _ z => nomatch z), by simp only [PyData.shownAll]; exact .nil⟩
  | d :: ds, us, vs, p, h, r, sh, sz => by
    obtain ⟨u, ws, rfl, h1, h2⟩ := repL_uncons h
    cases r with
    | cons r1 r2 =>
      simp only [plainXs, Bool.and_eq_true] at p
      simp only [pyXs, PyData.showableAll, PyData.shownAll, Bool.and_eq_true] at sh sz ⊢
      obtain ⟨a1, b1, d1, m1, k1⟩ := shX I d u _ p.1 h1 r1 sh.1 (sz _ List.mem_cons_self)
      obtain ⟨a2, b2, d2, m2, k2⟩ := shXs I ds ws _ p.2 h2 r2 sh.2 (fun t ht => sz t (List.mem_cons_of_mem _ ht))
      refine ⟨_, b1 ++ b2, .cons d1 d2, ?_, ?_⟩
      · simp only [PyData.depthAll]
        exact ReadAtMost.append (m1.mono (Nat.le_max_left _ _)) (m2.mono (Nat.le_max_right _ _))
      · simp only [PyData.depthAll]
        exact .cons ((k1.more fun _ z => List.mem_append_left _ z).level_le (Nat.le_max_left _ _)) (k2.more_le (fun _ z => List.mem_append_right _ z) (Nat.le_max_right _ _))
end
end
end Rx
namespace Rx
open PySem PySem.Spec PyProof.Rows L2
section
variable {P : Program} {w : World} {K : PySem.W.Frag} {mg mb : Str → Option Value} {k : Nat} {fa a : Addr} {fd : FuncData} {x : Str} {sp : Sp} {s1 : Shared} {vs : List Value} {ns : List Int} {cs : List (Addr × Addr)}
structure TabT (K : PySem.W.Frag) (h : Heap) (cs : List (Addr × Addr)) : Prop where
  at_ : ∀ p ∈ cs, h.get? p.2 = some { cls := .none, data := .fields #[] }
  un : ∀ p ∈ cs, K.lookup p.2 = none
  cd : ∀ p ∈ cs, PySem.W.CodeHd h p.1 p.2
end
end Rx
namespace Rx
open PySem PySem.Spec PyProof.Rows L2
section
variable {P : Program} {w : World} {K : PySem.W.Frag} {mg : Str → Option Value} {base : Heap}
end
section
variable {X : Cx}
end
end Rx
namespace Rx
open PySem PySem.Spec PyProof.Rows L2
end Rx
namespace Rx
open PySem PySem.Spec PyProof.Rows L2
section
variable {ms : List Addr} {ps : List PEn} {H0 H H1 H' : Hp} {d : D} {u : V} {L : Addr}
end
end Rx
namespace Rx
open PySem PySem.Spec PyProof.Rows L2
end Rx
namespace Rx
open PySem PySem.Spec PyProof.Rows L2
section
end
end Rx
namespace Rx
open PySem PySem.Spec PyProof.Rows L2
structure OexG (K : PySem.W.Frag) (C : Addr) : Prop where
  base : ∃ (B newId initId : String) (bmB : List Value), ExcBaseFacts B newId initId bmB ∧ StoreFacts B bmB "object.__setattr__" "object" ∧ PySem.W.excInitIn K C bmB newId = true ∧ PySem.W.excOver K C bmB = true
  cd : ∃ cd, PySem.W.clsIn K C = some cd ∧ cd.hasDict = true
  sa : PySem.W.findIn K (.ref C) "__setattr__" = some (some (.builtin "object.__setattr__"))
  exC : PySem.W.subIn K (.ref C) (.type "BaseException") = some true
  tyC : PySem.W.typeIn K (.ref C) = some (.type "type")
  kC : PySem.W.keepIn K (.ref C) = true
section
open PySem.W Builtin Builtin.ObjectAttr
variable {prog : Program} {w : World} {A : Around} {R : Result → Shared → Prop} {hp : Heap} {g : Array GenState} {d : Drawn} {t : Nat} {os : OsState} {K : PySem.W.Frag} {x C : Addr} {name : Str} {tk : Tok} {v : Value}
end
section
variable {X : Cx} {pins : List (Addr × Obj)} {σ : L2.St} {H : Hp} {s : Shared} {a C dx : Addr} {f : Str} {y : V} {u : Value} {fs : List (Str × V)} {Q : Unit → Shared → Prop} {E : Value → Shared → Prop}
end
section
variable {X : Cx} {o e : PySem.Expr} {es : List PySem.Expr} {to te : TE} {ta : TA} {f : Str} {p p' pos : Pos}
end
section
variable {ms ms' : List Addr} {ps : List PEn} {cs : List (Addr × List V)} {H0 H H1 H' : Hp} {C : Addr}
end
end Rx
namespace Rx
open PySem PySem.Spec PyProof.Rows L2
section
variable {α : Type}
end
section
end
section
variable {K : PySem.W.Frag} {ms : List Addr} {ps : List PEn} {H0 H : Hp} {x : V} {L : Addr} {ds : List D}
end
section
variable {X : L2.Cx}
end
section
variable {X : L2.Cx} {e : PySem.Expr} {te : TE}
end
section
variable {α β : Type} {K : PySem.W.Frag} {H1 : Hp} {σ : L2.St} {Qd : Hp → Prop} {L : Addr} {ms : List Addr} {tc : TE}
end
section
variable {K : PySem.W.Frag} {ms : List Addr} {H : Hp} {x : V} {a : Addr} {ds : List D}
end
end Rx
namespace Rx
open PySem PySem.Spec PyProof.Rows L2
section
variable {M : Model} {A : Around} {E : Value → Shared → Prop} {s : Shared} {a : Addr} {pos : Pos} {Q : Value → Shared → Prop}
end
section
variable {K : PySem.W.Frag} {X : Cx} {C g0 : Addr} {CX : CXT} {k : Nat} {sp : Sp} {E : XK} {fe : PySem.Expr} {tf : TE} {tk : TA} {pos : Pos} {fd : FuncData} {ps ks : List Str} {kws : List Keyword} {g : List Value → List Value → List Value} {gV : List V → List V → List V}
end
section
variable {X : Cx} {CX : CXT} {k : Nat} {C g0 : Addr} {fd : FuncData} {ps ks : List Str} {sp : Sp} {E : XK} {o : PySem.Expr} {m : Str} {pos apos : Pos} {ta : TE} {tk : TA} {kws : List Keyword} {g : List Value → List Value → List Value} {gV : List V → List V → List V}
end
section
variable {X : Cx} {b : List Stmt} {t1 t2 : TS}
end
section
variable {ms ms' : List Addr} {ps : List PEn} {H0 H H1 : Hp} {L : Addr}
end
end Rx
namespace Rx
open PySem PySem.Spec PyProof.Rows L2
section
variable {X : Cx} {pins : List (Addr × Obj)} {σ : L2.St} {H : Hp} {s : Shared}
end
end Rx
namespace PySem.W
open Lean Elab Tactic Meta PySem PySem.Calls PyProof.Rows
section
variable {prog : Program} {w : World} {A : Around} {E : Value → Shared → Prop} {s : Shared} {K : Frag} {y C L f g : Addr} {h₀ : Heap} {m : Str → Option Value} {oy : Obj} {oe : Option Obj} {v : Value} {T : String} {b : Bool} {t : Tok}
end
end PySem.W
namespace Rx
open PySem PySem.Spec PyProof.Rows L2
structure OpN (op : Operator) : Prop where
  n : ∀ T ∈ (["NoneType", "str", "list", "tuple", "dict"] : List String), fillsNumberSlot (.type T) op.info.2 = pure false
  b : fillsNumberSlot (.type "bool") op.info.2 = pure true
  r : ∃ ro, typeLookup (.type "bool") (dunderR op.info.2) = pure ro
structure OpI (op : Operator) : Prop where
  b : fillsNumberSlot (.type "int") op.info.2 = pure true
  r : ∃ ro, typeLookup (.type "int") (dunderR op.info.2) = pure ro
end Rx
namespace Rx
open PySem PySem.Spec PyProof.Rows L2
theorem shR_ok {K : PySem.W.Frag} {a : Addr} {x q : Str} {ps : Arguments} {body : List Stmt} {sc : Scope} {dV cd : Value}
    (e : shR K a = some (x, q, ps, .stmts body, sc, mainGlobals, [], builtinsNs)) (d : dfR K a = some dV) (c : cdR K a = cd) :
    ∃ oc od sl kV dc pm an ct, K.lookup a = some ⟨oc, od, .func (PySem.W.fnOf x q ps body sc dV kV dc pm an cd ct), sl⟩ := by
  unfold shR at e
  unfold dfR at d
  unfold cdR at c
  cases z : fdR K a with
  | none =>
    rw [z] at e
    cases e
  | some fd =>
    rw [z] at e d c
    obtain ⟨n1, n2, n3, n4, n5, n6, n7, n8, n9, n10, n11, n12, n13, n14, n15⟩ := fd
    have e1 := Option.some.inj e
    have d1 := Option.some.inj d
    simp only [Prod.mk.injEq] at e1 d1 c
    obtain ⟨h1, h2, h3, h4, h5, h6, h7, h8⟩ := e1
    subst h1 h2 h3 h4 h5 h6 h7 h8 d1 c
    unfold fdR at z
    split at z
    · rename_i oc od fd sl hl
      cases z
      exact ⟨oc, od, sl, _, _, _, _, _, hl⟩
    · cases z
theorem tuR_ok {K : PySem.W.Frag} {a : Addr} {l : List Value} (e : tuR K a = some l) : ∃ to ti ts, K.lookup a = some ⟨.type "tuple", to, .seq l.toArray ti, ts⟩ := by
  unfold tuR at e
  split at e
  · rename_i c od its ti sl hl
    cases z : decide (c = "tuple") with
    | false =>
      rw [z] at e
      cases e
    | true =>
      rw [z] at e
      cases e
      rw [of_decide_eq_true z] at hl
      exact ⟨od, ti, sl, hl⟩
  · cases e
theorem rcB_ok {K : PySem.W.Frag} {p : Addr} {T : String} (e : rcB K p T = true) : ∃ R, PySem.W.recIn K p T = some (.ref (rcA K p T) :: R) := by
  unfold rcB at e
  unfold rcA
  split at e
  · rename_i a r h
    exact ⟨r, by rw [h]; rfl⟩
  · cases e
theorem frcK_eq {α : Type} : ∀ (K : PySem.W.Frag) (k : PySem.W.Frag → α), frcK K k = k K
  | [], _ => rfl
  | (a, o) :: r, k => by
    show frcK r (fun r => k ((a, o) :: r)) = _
    rw [frcK_eq r]
theorem obF_eq {n : Nat} {ea eb : PySem.W.Frag → Bool} {fn : List (PySem.W.Frag → Addr)} {vs : List He.FnW} {ts : List He.Tab} (s : PySem.W.SharedT) : obF n ea eb fn ts s = (hkR n (fun K => ea K && eb K) fn vs ts).obs s.abs := by
  have e : HandSHeadRun.getT s = s.abs.heap.get? := funext fun a => HandSHeadRun.getT_eq s a
  show (frcK (He.frT (HandSHeadRun.getT s) (List.range n)) ea && frcK (He.frT (HandSHeadRun.getT s) (List.range n)) eb, frcK (He.frT (HandSHeadRun.getT s) (List.range n)) fun K => (fn.map fun a => shR K (a K), ts.map fun t => He.dicW K (t.1 K))) = obK (fun K => ea K && eb K) fn ts (He.frT s.abs.heap.get? (List.range n))
  rw [frcK_eq, frcK_eq, frcK_eq, e]
  rfl
theorem fnAt {K : PySem.W.Frag} {fn : List (PySem.W.Frag → Addr)} {vs : List He.FnW} (c : (fn.map fun a => shR K (a K)) = vs) (i : Nat) {a : PySem.W.Frag → Addr} {v : He.FnW} (ha : fn[i]? = some a) (hv : vs[i]? = some v) : shR K (a K) = v := by
  rw [← c, List.getElem?_map, ha] at hv
  exact Option.some.inj hv
theorem tsAt {K : PySem.W.Frag} {w : World} {ts : List He.Tab} (c : (ts.map fun t => He.dicW K (t.1 K)) = ts.map fun t => some (He.keysIn w.params t.2)) (i : Nat) {t : He.Tab} (ha : ts[i]? = some t) : ∃ es n, KDict K w (t.1 K) es n := by
  have e : (ts.map fun t => He.dicW K (t.1 K))[i]? = (ts.map fun t => some (He.keysIn w.params t.2))[i]? := by rw [c]
  rw [List.getElem?_map, List.getElem?_map, ha] at e
  exact He.dicW_ok (Option.some.inj e)
theorem walk_ofGE {l : PySem.W.OpenLaw} {n k : Nat} {q : Program} {loose : List Str} {XP : (Str → Option Value) → Heap → Prop} {YP : World → Heap → Prop} {d : DefRec} {x : Str}
    (most : l.most = some n) (small : n ≤ sizeLine) (plain : d.params.defaults = []) (hr : Room k callerA)
    (F : ∀ (w : World) (mg : Str → Option Value) (fa : Addr) (h : Heap), YP w h → h.Ns mainGlobals mg → mg d.name = some (.ref fa) →
      ∃ K : PySem.W.Frag, K.In h ∧ ∃ (fd : FuncData) (sp : Sp), (∀ (s : Shared) (u : Value), BindsTo s fd ⟨[u], []⟩ [(x, u)]) ∧
        (∀ (H : Hp) (a : Addr) (ns : List Int), ns.length ≤ n → Only H → SqL K H a (ns.map V.int) → sp [.ref a] H (fun v _ => v = .bl true) E0) ∧
        ∀ base : Heap, K.In base → base.Ns mainGlobals mg → FnG l.prog w K mg base k fa fd [x] sp) :
    PySem.W.WalkO q loose XP YP l.row.toRowW d [] (fun f vs => PySem.call f vs) := by
  refine Att.attach_call most plain fun w s₀ s₁ mg mb fa o pm cd doc a vs ns G Y ho hd hcd hmg obj its0 len ng => ?_
  obtain ⟨K, KX, fd, sp, bind, enter, hF⟩ := F w mg fa _ Y G.T.g hmg
  exact callG KX G.T.g G.T.b G.T.builtins G.T.nolimit ng obj its0 (Nat.le_trans len small) hr hF bind fun H only sq => enter H a ns len only sq
end Rx

namespace Rx
open PySem PySem.Spec PyProof.Rows L2
def Uniq {α : Type} (xs : List α) (n : Nat) : Prop := ∃ l : List α, l.Nodup ∧ (∀ x, x ∈ l ↔ x ∈ xs) ∧ l.length = n
theorem Uniq.nil {α : Type} : Uniq ([] : List α) 0 := ⟨[], List.nodup_nil, fun _ => Iff.rfl, rfl⟩
section
variable {P : Program} {w : World} {κ : Type} [DecidableEq κ] {knd : PySem.KeyKind P w κ}
end
section
variable {X : Cx}
end
section
variable {ms : List Addr} {H : Hp} {x : V} {K : PySem.W.Frag}
end
section
variable {X : Cx} {o e : Expr} {to te : TE}
def rJoinK (K : PySem.W.Frag) : V → List V → Hp → VK → Prop := fun x xs H Q => ∃ a p, ∃ ys : List Str, x = .str a ∧ xs = [.ref p] ∧ (SqL K H p (ys.map V.str) ∨ SqT K H p (ys.map V.str)) ∧ (ys.map (·.length)).sum + ys.length * a.length ≤ 16777216 ∧ Q (.str (Txt.join a ys)) H
theorem pe_joinK {K : PySem.W.Frag} (hK : X.K = K) {apos pos : Pos} (ho : PE X o to) (he : PE X e te) (hs : starEach [e] X.env = [(false, eval e X.env)] := by rfl) (hb : attributeBase o "join" X.env (eval o X.env) = eval o X.env := by rfl)
    (hl : (apos.endLine == pos.line) = true := by rfl) : PE X (.Call (.Attribute o "join" apos) [e] [] pos) (tM1 (rJoinK K) to te) := by
  subst hK
  exact pe_join ho he hs hb hl
end
end Rx
namespace Rx
open PySem PySem.Spec PyProof.Rows
abbrev ItT := Addr × Str × Tok
def StI (h : Heap) (t : ItT) (i : Nat) : Prop := h.IsStrIter t.1 (strIterType t.2.1) t.2.1 t.2.2 i
def Refs (its : List ItT) : List Value := its.map fun t => .ref t.1
def Chars (i : Nat) : List ItT → List Value → Prop
  | [], vs => vs = []
  | t :: ts, vs => ∃ c u us, t.2.1.cps[i]? = some c ∧ vs = .str ⟨#[c]⟩ u :: us ∧ Chars i ts us
theorem Chars.len {i : Nat} : ∀ {its : List ItT} {vs : List Value}, Chars i its vs → vs.length = its.length
  | [], _, h => by rw [show _ = _ from h]; rfl
  | t :: ts, _, ⟨c, u, us, _, e, h⟩ => by rw [e]; simp [Chars.len h]
theorem StI.keep {h h' : Heap} {t : ItT} {i : Nat} (st : StI h t i) (k : ∀ o, h.get? t.1 = some o → h'.get? t.1 = some o) : StI h' t i := by
  obtain ⟨o, ho, r⟩ := st
  exact ⟨o, k o ho, r⟩
def But (its : List ItT) (h h' : Heap) : Prop := h'.objs.size = h.objs.size ∧ ∀ c, (∀ t ∈ its, c ≠ t.1) → h'.get? c = h.get? c
theorem zip_loop {M : Model} {A : Around} {E : Value → Shared → Prop} {i : Nat} {body : Value → Option PySem.Fin × Array Value → Sem (ForInStep (Option PySem.Fin × Array Value))}
    (hb : ∀ (t : ItT) (acc : Array Value) (s : Shared) (Q : ForInStep (Option PySem.Fin × Array Value) → Shared → Prop), StI s.heap t i → i < t.2.1.cps.size →
      (∀ (c : _) (u : Tok) (h' : Heap) (tk : Nat), t.2.1.cps[i]? = some c → StI h' t (i + 1) → Heap.SameBut t.1 s.heap h' → Q (.yield (none, acc.push (.str ⟨#[c]⟩ u))) { heap := h', gens := s.gens, drawn := s.drawn, toks := tk, os := s.os }) →
      wpAny M A (body (.ref t.1) (none, acc)) Q E s) :
    ∀ (its : List ItT) (acc : Array Value) (s : Shared) (Q : Option PySem.Fin × Array Value → Shared → Prop), (its.map (·.1)).Nodup → (∀ t ∈ its, StI s.heap t i ∧ i < t.2.1.cps.size) →
      (∀ (vs : List Value) (h' : Heap) (tk : Nat), Chars i its vs → (∀ t ∈ its, StI h' t (i + 1)) → But its s.heap h' → Q (none, acc ++ vs.toArray) { heap := h', gens := s.gens, drawn := s.drawn, toks := tk, os := s.os }) →
      wpAny M A (forIn (Refs its) (none, acc) body) Q E s
  | [], acc, s, Q, _, _, hQ => by
    have := hQ [] s.heap s.toks rfl (fun t ht => absurd ht (List.not_mem_nil)) ⟨rfl, fun _ _ => rfl⟩
    simp only [Refs, List.map_nil, List.forIn_nil]
    refine wpAny_pure ?_
    simpa using this
  | t :: ts, acc, s, Q, nd, st, hQ => by
    have nd1 : t.1 ∉ ts.map (·.1) := (List.nodup_cons.mp (by simpa using nd)).1
    have nd2 : (ts.map (·.1)).Nodup := (List.nodup_cons.mp (by simpa using nd)).2
    have ne : ∀ t' ∈ ts, t'.1 ≠ t.1 := fun t' h q => nd1 (q ▸ List.mem_map_of_mem h)
    simp only [Refs, List.map_cons, List.forIn_cons]
    refine wpAny_bind (hb t acc s _ (st t (List.mem_cons_self ..)).1 (st t (List.mem_cons_self ..)).2 fun c u h1 tk hc s1 sb => ?_)
    refine zip_loop hb ts (acc.push (.str ⟨#[c]⟩ u)) _ _ nd2 (fun t' h' => ⟨(st t' (List.mem_cons_of_mem _ h')).1.keep fun o ho => (sb.2 _ (ne t' h')).trans ho, (st t' (List.mem_cons_of_mem _ h')).2⟩) fun vs h2 tk2 cv s2 b2 => ?_
    have := hQ (.str ⟨#[c]⟩ u :: vs) h2 tk2 ⟨c, u, vs, hc, rfl, cv⟩ (fun t' h' => by
      rcases List.mem_cons.mp h' with q | q
      · subst q
        exact s1.keep fun o ho => (b2.2 _ (fun t2 ht2 => (ne t2 ht2).symm)).trans ho
      · exact s2 t' q) ⟨b2.1.trans sb.1, fun c' hc' => (b2.2 c' (fun t2 h2 => hc' t2 (List.mem_cons_of_mem _ h2))).trans (sb.2 c' (hc' t (List.mem_cons_self ..)))⟩
    simpa using this
def Tup (h : Heap) (a : Addr) (vs : List Value) : Prop := h.get? a = some { cls := .type "tuple", data := .seq vs.toArray }
theorem zipH_item {prog : Program} {w : World} {A : Around} {E : Value → Shared → Prop} {s : Shared} {z TI TO T : Addr} {f : Bool} {oT : Obj} {its : List ItT} {i : Nat} {Q : Value → Shared → Prop} (hh : A.handled = none)
    (ne0 : its ≠ []) (nd : (its.map (·.1)).Nodup) (nz : ∀ t ∈ its, z ≠ t.1) (hz : IsZipHeld s.heap z TI TO T f) (hT : s.heap.get? T = some oT) (hTI : Tup s.heap TI (Refs its)) (hl : its.length ≤ sizeLine)
    (st : ∀ t ∈ its, StI s.heap t i ∧ i < t.2.1.cps.size)
    (hQ : ∀ (vs : List Value) (h' : Heap) (tk : Nat), Chars i its vs → IsZipHeld h' z TI TO T true → (∀ t ∈ its, StI h' t (i + 1)) → Tup h' s.heap.objs.size vs → h'.objs.size = s.heap.objs.size + 1 →
      (∀ (c : Addr) (o : Obj), c ≠ z → (∀ t ∈ its, c ≠ t.1) → s.heap.get? c = some o → h'.get? c = some o) → Q (.ref s.heap.objs.size) { heap := h', gens := s.gens, drawn := s.drawn, toks := tk, os := s.os }) :
    wpAny (model prog w) A (Builtin.«zip.__next__» { pos := [.ref z] }) (fun fin s' => ∃ v, fin = .done (.ret v) ∧ Q v s') E s := by
  unfold Builtin.«zip.__next__»
  refine wpAny_bind ?_
  show wpAny _ _ (pure _) _ _ _
  refine wpAny_pure ?_
  refine wpAny_bind (wpAny_field hz rfl rfl ?_)
  refine wpAny_bind (wpAny_field hz rfl rfl ?_)
  refine wpAny_bind (wpAny_seqItems hTI rfl ?_)
  cases its with
  | nil => exact absurd rfl ne0
  | cons t0 ts =>
  refine wpAny_ite_false rfl ?_
  refine wpAny_bind (wpAny_tupleHeld_zip hz hT fun h1 hz1 sb => ?_)
  refine wpAny_ite_false rfl ?_
  refine wpAny_bind ?_
  rw [List.forIn_toArray]
  refine zip_loop (i := i) (fun t acc s Q st lt k => wpAny_bind (wpAny_holding (wpAny_ite_false rfl (wpAny_bind ((Draws.text hh t.1 t.2.1 t.2.2).item i s _ _ lt st fun x h' tk hx s1 sb => wpAny_pure ?_))))) (t0 :: ts) #[] _ _ nd (fun t ht => ⟨(st t ht).1.keep fun o ho => (sb.2 _ (nz t ht).symm).trans ho, (st t ht).2⟩) fun vs h2 tk cv s2 b2 => ?_
  · obtain ⟨c, u, hc, rfl⟩ := hx
    exact wpAny_pure (k c u h' tk hc s1 sb)
  · have lv : vs.length = (t0 :: ts).length := cv.len
    simp only [Array.empty_append]
    refine wpAny_bind (wpAny_newTuple ?_ (by rw [lv]; exact hl))
    refine wpAny_pure ⟨_, rfl, ?_⟩
    have e2 : h2.objs.size = s.heap.objs.size := b2.1.trans sb.1
    have st2 : ∀ t ∈ t0 :: ts, StI (h2.push { cls := .type "tuple", data := .seq vs.toArray }) t (i + 1) := fun t ht => (s2 t ht).keep fun o ho => Heap.get?_push_of_some _ ho
    have k2 : ∀ (c : Addr) (o : Obj), c ≠ z → (∀ t ∈ t0 :: ts, c ≠ t.1) → s.heap.get? c = some o → (h2.push { cls := .type "tuple", data := .seq vs.toArray }).get? c = some o := fun c o cz ct ho => Heap.get?_push_of_some _ ((b2.2 c ct).trans ((sb.2 c cz).trans ho))
    rw [e2]
    exact hQ vs _ tk cv (Heap.get?_push_of_some _ ((b2.2 z nz).trans hz1)) st2 (Heap.get?_push_at e2.symm rfl) (by rw [Heap.size_push, e2]) k2
theorem hzip {s : Shared} {z : Addr} {vs : Array Value} (hz : s.heap.get? z = some { cls := .type "zip", data := .fields vs }) : s.TypeIs (.ref z) "zip" := ⟨_, hz, rfl⟩
theorem zipH_next {prog : Program} {w : World} {A : Around} {E : Value → Shared → Prop} {s : Shared} {z TI TO T : Addr} {f : Bool} {oT : Obj} {its : List ItT} {i : Nat} {Q : Option Value → Shared → Prop} (hh : A.in1.handled = none)
    (ne0 : its ≠ []) (nd : (its.map (·.1)).Nodup) (nz : ∀ t ∈ its, z ≠ t.1) (hz : IsZipHeld s.heap z TI TO T f) (hT : s.heap.get? T = some oT) (hTI : Tup s.heap TI (Refs its)) (hl : its.length ≤ sizeLine)
    (st : ∀ t ∈ its, StI s.heap t i ∧ i < t.2.1.cps.size)
    (hQ : ∀ (vs : List Value) (h' : Heap) (tk : Nat), Chars i its vs → IsZipHeld h' z TI TO T true → (∀ t ∈ its, StI h' t (i + 1)) → Tup h' s.heap.objs.size vs → h'.objs.size = s.heap.objs.size + 1 →
      (∀ (c : Addr) (o : Obj), c ≠ z → (∀ t ∈ its, c ≠ t.1) → s.heap.get? c = some o → h'.get? c = some o) → Q (some (.ref s.heap.objs.size)) { heap := h', gens := s.gens, drawn := s.drawn, toks := tk, os := s.os }) :
    wpAny (model prog w) A (pyNext (.ref z)) Q E s :=
  wpAny_bind (wpAny_attempt (wpAny_callSpecial?_slot (hzip hz) F.slot_zip_next (wpAny_call_entry F.slot_zip_next (hzip hz) PySem.F.entry_zip_next (zipH_item hh ne0 nd nz hz hT hTI hl st fun vs h' tk a b c d e g => wpAny_pure (hQ vs h' tk a b c d e g)))))
theorem zipH_end {prog : Program} {w : World} {A : Around} {E : Value → Shared → Prop} {s : Shared} {z TI TO T : Addr} {f : Bool} {oT : Obj} {t0 : ItT} {ts : List ItT} {Q : Option Value → Shared → Prop} (hh : A.in1.handled = none)
    (nz : z ≠ t0.1) (hz : IsZipHeld s.heap z TI TO T f) (hT : s.heap.get? T = some oT) (hTI : Tup s.heap TI (Refs (t0 :: ts))) (st : StI s.heap t0 t0.2.1.cps.size)
    (hQ : ∀ (h' : Heap), (∀ (c : Addr) (o : Obj), c ≠ z → c ≠ t0.1 → s.heap.get? c = some o → h'.get? c = some o) → Q none { heap := h', gens := s.gens, drawn := s.drawn, toks := s.toks, os := s.os }) :
    wpAny (model prog w) A (pyNext (.ref z)) Q E s := by
  refine wpAny_bind (wpAny_attempt (wpAny_callSpecial?_slot (hzip hz) F.slot_zip_next (wpAny_call_entry F.slot_zip_next (hzip hz) PySem.F.entry_zip_next ?_)))
  unfold Builtin.«zip.__next__»
  refine wpAny_bind ?_
  show wpAny _ _ (pure _) _ _ _
  refine wpAny_pure ?_
  refine wpAny_bind (wpAny_field hz rfl rfl ?_)
  refine wpAny_bind (wpAny_field hz rfl rfl ?_)
  refine wpAny_bind (wpAny_seqItems hTI rfl ?_)
  refine wpAny_ite_false rfl ?_
  refine wpAny_bind (wpAny_tupleHeld_zip hz hT fun h1 hz1 sb => ?_)
  refine wpAny_ite_false rfl ?_
  refine wpAny_bind ?_
  rw [List.forIn_toArray]
  simp only [Refs, List.map_cons, List.forIn_cons]
  refine wpAny_bind (wpAny_bind (wpAny_holding (wpAny_ite_false rfl (wpAny_bind ((Draws.text hh t0.1 t0.2.1 t0.2.2).done _ _ _ (st.keep fun o ho => (sb.2 _ nz.symm).trans ho) fun h' e k he => ?_)))))
  obtain ⟨o, ho, hc⟩ := he
  refine wpAny_bind (wpAny_isInstance (T := "StopIteration") ⟨o, ho, hc⟩ (by rfl) ?_)
  exact wpAny_ite_true rfl (wpAny_pure (hQ h' fun c o cz ct hco => k c o ct ((sb.2 c cz).trans hco)))
def Seq (h : Heap) (a : Addr) (vs : List Value) : Prop := ∃ n, h.get? a = some { cls := .type "tuple", data := .seq vs.toArray n }
theorem zip_loopF {M : Model} {A : Around} {E : Value → Shared → Prop} {i : Nat} {TO : Addr} {body : Value × Nat → Option PySem.Fin × Unit → Sem (ForInStep (Option PySem.Fin × Unit))}
    (hb : ∀ (t : ItT) (k : Nat) (ks : List Value) (s : Shared) (Q : ForInStep (Option PySem.Fin × Unit) → Shared → Prop), StI s.heap t i → i < t.2.1.cps.size → t.1 ≠ TO → ks.length ≤ sizeLine → Seq s.heap TO ks →
      (∀ (c : _) (u : Tok) (h' : Heap) (tk : Nat), t.2.1.cps[i]? = some c → StI h' t (i + 1) → Seq h' TO (ks.set k (.str ⟨#[c]⟩ u)) → h'.objs.size = s.heap.objs.size → (∀ b, b ≠ TO → b ≠ t.1 → h'.get? b = s.heap.get? b) → Q (.yield (none, ())) { heap := h', gens := s.gens, drawn := s.drawn, toks := tk, os := s.os }) →
      wpAny M A (body (.ref t.1, k) (none, ())) Q E s) :
    ∀ (its : List ItT) (k : Nat) (don rest : List Value) (s : Shared) (Q : Option PySem.Fin × Unit → Shared → Prop), don.length = k → rest.length = its.length → k + its.length ≤ sizeLine → (∀ t ∈ its, t.1 ≠ TO) → (its.map (·.1)).Nodup → (∀ t ∈ its, StI s.heap t i ∧ i < t.2.1.cps.size) → Seq s.heap TO (don ++ rest) →
      (∀ (vs : List Value) (h' : Heap) (tk : Nat), Chars i its vs → (∀ t ∈ its, StI h' t (i + 1)) → Seq h' TO (don ++ vs) → h'.objs.size = s.heap.objs.size → (∀ b, b ≠ TO → (∀ t ∈ its, b ≠ t.1) → h'.get? b = s.heap.get? b) → Q (none, ()) { heap := h', gens := s.gens, drawn := s.drawn, toks := tk, os := s.os }) →
      wpAny M A (forIn ((Refs its).zipIdx k) (none, ()) body) Q E s
  | [], k, don, rest, s, Q, _, hr, _, _, _, _, sq, hQ => by
    have r0 : rest = [] := List.length_eq_zero_iff.mp hr
    subst r0
    simp only [Refs, List.map_nil, List.zipIdx_nil, List.forIn_nil]
    exact wpAny_pure (hQ [] s.heap s.toks rfl (fun t ht => absurd ht (List.not_mem_nil)) sq rfl fun _ _ _ => rfl)
  | t :: ts, k, don, rest, s, Q, hd, hr, hk, nto, nd, st, sq, hQ => by
    have nd1 : t.1 ∉ ts.map (·.1) := (List.nodup_cons.mp (by simpa using nd)).1
    have nd2 : (ts.map (·.1)).Nodup := (List.nodup_cons.mp (by simpa using nd)).2
    have ne : ∀ t' ∈ ts, t'.1 ≠ t.1 := fun t' h q => nd1 (q ▸ List.mem_map_of_mem h)
    obtain ⟨r0, rs, rfl⟩ : ∃ r0 rs, rest = r0 :: rs := by
      cases rest with
      | nil => simp at hr
      | cons a b => exact ⟨a, b, rfl⟩
    simp only [List.length_cons] at hr hk
    simp only [Refs, List.map_cons, List.zipIdx_cons, List.forIn_cons]
    refine wpAny_bind (hb t k _ s _ (st t (List.mem_cons_self ..)).1 (st t (List.mem_cons_self ..)).2 (nto t (List.mem_cons_self ..)) (by rw [List.length_append, List.length_cons]; omega) sq fun c u h1 tk hc s1 sq1 sz1 sb => ?_)
    have e1 : (don ++ r0 :: rs).set k (.str ⟨#[c]⟩ u) = (don ++ [.str ⟨#[c]⟩ u]) ++ rs := by
      rw [List.set_append_right _ _ (by omega), hd, Nat.sub_self, List.set_cons_zero, List.append_assoc]
      rfl
    rw [e1] at sq1
    refine zip_loopF hb ts (k + 1) (don ++ [.str ⟨#[c]⟩ u]) rs _ _ (by rw [List.length_append, hd]; rfl) (by omega) (by omega) (fun t' h' => nto t' (List.mem_cons_of_mem _ h')) nd2 (fun t' h' => ⟨(st t' (List.mem_cons_of_mem _ h')).1.keep fun o ho => (sb _ (nto t' (List.mem_cons_of_mem _ h')) (ne t' h')).trans ho, (st t' (List.mem_cons_of_mem _ h')).2⟩) sq1 fun vs h2 tk2 cv s2 sq2 sz2 b2 => ?_
    refine hQ (.str ⟨#[c]⟩ u :: vs) h2 tk2 ⟨c, u, vs, hc, rfl, cv⟩ (fun t' h' => ?_) (by simpa using sq2) (sz2.trans sz1) fun b hb1 hb2 => ?_
    · rcases List.mem_cons.mp h' with q | q
      · subst q
        exact s1.keep fun o ho => (b2 _ (nto _ (List.mem_cons_self ..)) (fun t2 ht2 => (ne t2 ht2).symm)).trans ho
      · exact s2 t' q
    · exact (b2 b hb1 fun t2 h2 => hb2 t2 (List.mem_cons_of_mem _ h2)).trans (sb b hb1 (hb2 t (List.mem_cons_self ..)))
theorem zipF_next {prog : Program} {w : World} {A : Around} {E : Value → Shared → Prop} {s : Shared} {z TI TO : Addr} {its : List ItT} {i : Nat} {vs0 : List Value} {Q : Option Value → Shared → Prop} (hh : A.in1.handled = none)
    (ne0 : its ≠ []) (nd : (its.map (·.1)).Nodup) (nz : ∀ t ∈ its, z ≠ t.1) (nto : ∀ t ∈ its, t.1 ≠ TO) (zto : z ≠ TO) (hz : IsZip s.heap z TI TO .none) (hTI : Tup s.heap TI (Refs its)) (hTO : Seq s.heap TO vs0) (l0 : vs0.length = its.length) (hl : its.length ≤ sizeLine)
    (st : ∀ t ∈ its, StI s.heap t i ∧ i < t.2.1.cps.size)
    (hQ : ∀ (vs : List Value) (h' : Heap) (tk : Nat), Chars i its vs → IsZipHeld h' z TI TO s.heap.objs.size false → (∀ t ∈ its, StI h' t (i + 1)) → Tup h' s.heap.objs.size vs → h'.objs.size = s.heap.objs.size + 1 →
      (∀ (c : Addr) (o : Obj), c ≠ z → c ≠ TO → (∀ t ∈ its, c ≠ t.1) → s.heap.get? c = some o → h'.get? c = some o) → Q (some (.ref s.heap.objs.size)) { heap := h', gens := s.gens, drawn := s.drawn, toks := tk, os := s.os }) :
    wpAny (model prog w) A (pyNext (.ref z)) Q E s := by
  refine wpAny_bind (wpAny_attempt (wpAny_callSpecial?_slot (hzip hz) F.slot_zip_next (wpAny_call_entry F.slot_zip_next (hzip hz) PySem.F.entry_zip_next ?_)))
  unfold Builtin.«zip.__next__»
  refine wpAny_bind ?_
  show wpAny _ _ (pure _) _ _ _
  refine wpAny_pure ?_
  refine wpAny_bind (wpAny_field hz rfl rfl ?_)
  refine wpAny_bind (wpAny_field hz rfl rfl ?_)
  refine wpAny_bind (wpAny_seqItems hTI rfl ?_)
  cases its with
  | nil => exact absurd rfl ne0
  | cons t0 ts =>
  refine wpAny_ite_false rfl ?_
  refine wpAny_bind (wpAny_bind (wpAny_field hz rfl rfl (wpAny_pure ?_)))
  refine wpAny_ite_true rfl ?_
  refine wpAny_bind (wpAny_rule ?_)
  refine wpAny_bind (wpAny_field hz rfl rfl ?_)
  refine wpAny_bind (wpAny_setField_rec hz (Nat.lt_of_lt_of_eq (by decide : 0 < 5) rfl) fun h1 hz1 sb1 => ?_)
  obtain ⟨n0, hTO⟩ := hTO
  refine wpAny_bind ?_
  show wpAny _ _ (forIn ((Refs (t0 :: ts)).zipIdx 0) _ _) _ _ _
  refine zip_loopF (i := i) (TO := TO) (fun t k ks s Q st lt nt lk sq kk => ?_) (t0 :: ts) 0 [] vs0 _ _ rfl l0 (by simpa using hl) nto nd (fun t ht => ⟨(st t ht).1.keep fun o ho => (sb1.2 _ (nz t ht).symm).trans ho, (st t ht).2⟩) ⟨n0, (sb1.2 _ zto.symm).trans hTO⟩ fun vs h2 tk cv s2 sq2 sz2 b2 => ?_
  · refine wpAny_bind (wpAny_onRaise (wpAny_ite_false rfl (wpAny_bind ((Draws.text hh t.1 t.2.1 t.2.2).item i s _ _ lt st fun x h' tk hx s1 sb => wpAny_pure ?_))))
    obtain ⟨c, u, hc, rfl⟩ := hx
    obtain ⟨n, sq⟩ := sq
    have sq' := (sb.2 _ nt.symm).trans sq
    refine wpAny_bind (wpAny_seqItems sq' rfl ?_)
    refine wpAny_bind (wpAny_updateSeq sq' rfl ?_ (by simpa using lk) (by simp; omega))
    refine wpAny_bind (wpAny_letGo (wpAny_pure ?_))
    refine kk c u _ tk hc (StI.keep (t := t) s1 fun o ho => Heap.get?_update_of_ne _ nt.symm ho) ⟨n, ?_⟩ ((Heap.size_update ..).trans sb.1) fun b hb1 hb2 => (Heap.get?_update_ne _ _ _ _ hb1).trans (sb.2 b hb2)
    rw [Heap.get?_update_self _ sq' rfl]
    simp [Obj.mapSeq]
  · have lv : vs.length = (t0 :: ts).length := cv.len
    obtain ⟨n2, sq2⟩ := sq2
    refine wpAny_bind (wpAny_seqItems sq2 rfl ?_)
    simp only [List.nil_append]
    refine wpAny_bind (wpAny_newTuple ?_ (by rw [lv]; exact hl))
    have e2 : h2.objs.size = s.heap.objs.size := sz2.trans sb1.1
    have hz2 : (h2.push { cls := .type "tuple", data := .seq vs.toArray }).get? z = _ := Heap.get?_push_of_some _ ((b2 z zto nz).trans hz1)
    refine wpAny_bind (wpAny_bind (wpAny_setField_rec hz2 (Nat.lt_of_lt_of_eq (by decide : 0 < 5) rfl) fun h3 hz3 sb3 => ?_))
    refine wpAny_setField_rec hz3 (Nat.lt_of_lt_of_eq (by decide : 1 < 5) rfl) fun h4 hz4 sb4 => ?_
    have kz : ∀ (c : Addr) (o : Obj), c ≠ z → (h2.push { cls := .type "tuple", data := .seq vs.toArray }).get? c = some o → h4.get? c = some o := fun c o cz ho => (sb4.2 c cz).trans ((sb3.2 c cz).trans ho)
    have zl : z < h2.objs.size := Heap.lt_size ((b2 z zto nz).trans hz1)
    rw [← e2] at hQ
    have kn : ∀ t ∈ t0 :: ts, t.1 ≠ z := fun t ht => (nz t ht).symm
    refine wpAny_pure ⟨_, rfl, wpAny_pure (hQ vs h4 tk cv hz4 (fun t ht => (s2 t ht).keep fun o ho => kz _ o (kn t ht) (Heap.get?_push_of_some _ ho)) (kz _ _ (Nat.ne_of_gt zl) (Heap.get?_push_at rfl rfl)) (by rw [sb4.1, sb3.1, Heap.size_push]) fun c o cz ct ci ho => kz c o cz (Heap.get?_push_of_some _ ((b2 c ct ci).trans ((sb1.2 c cz).trans ho))))⟩
structure ZS (h : Heap) (z TI TO T : Addr) (its : List ItT) (i : Nat) : Prop where
  hz : ∃ f, IsZipHeld h z TI TO T f
  hT : ∃ o, h.get? T = some o
  hTI : Tup h TI (Refs its)
  st : ∀ t ∈ its, StI h t i
structure ZAp (S z TI TO : Addr) (its : List ItT) : Prop where
  ne0 : its ≠ []
  nd : (its.map (·.1)).Nodup
  nz : ∀ t ∈ its, z ≠ t.1
  nto : ∀ t ∈ its, t.1 ≠ TO
  zto : z ≠ TO
  tiz : TI ≠ z
  tii : ∀ t ∈ its, TI ≠ t.1
  tito : TI ≠ TO
  sz : S ≠ z
  sti : S ≠ TI
  sto : S ≠ TO
  si : ∀ t ∈ its, S ≠ t.1
  hl : its.length ≤ sizeLine
def Got (h : Heap) (its : List ItT) (as : List Addr) : Prop := ∀ j a, as[j]? = some a → ∃ vs, Chars j its vs ∧ Tup h a vs
theorem zip_fill {P : Program} {w : World} {A : Around} {R : Result → Shared → Prop} {S z TI TO : Addr} {its : List ItT} {n : Nat} {h0 : Heap} {g : Array GenState} {d : Drawn} {os : OsState} (hh : A.in1.in1.handled = none) (D : ZAp S z TI TO its) (hn : ∀ t ∈ its, t.2.1.cps.size = n) (nl : n ≤ sizeLine)
    (lo : Nat) (hlo : z < lo ∧ TI < lo ∧ S < lo ∧ TO < lo ∧ ∀ t ∈ its, t.1 < lo)
    (fin : ∀ (h' : Heap) (tk : Nat) (as : List Addr) (c : Nat), as.length = n → (∀ a ∈ as, lo ≤ a) → Got h' its as → h'.get? S = some { cls := .type "list", data := .seq (as.map Value.ref).toArray c } →
      (∀ b o, b ≠ S → b ≠ z → (∀ t ∈ its, b ≠ t.1) → h0.get? b = some o → h'.get? b = some o) → R (.ok (.ret .none)) { heap := h', gens := g, drawn := d, toks := tk, os := os }) :
    ∀ (left i : Nat) (h : Heap) (tk : Nat) (T : Addr) (as : List Addr) (c : Nat), n - i = left → i ≤ n → ZS h z TI TO T its i → lo ≤ T → (∀ a ∈ as, lo ≤ a) → as.length = i → Got h its as → h.get? S = some { cls := .type "list", data := .seq (as.map Value.ref).toArray c } →
      (∀ b o, b ≠ S → b ≠ z → (∀ t ∈ its, b ≠ t.1) → h0.get? b = some o → h.get? b = some o) → lo ≤ h.objs.size →
      codeAny (model P w) A (.builtin "list.extend.loop" ⟨[.ref S, .ref z, .none], []⟩) R { heap := h, gens := g, drawn := d, toks := tk, os := os } := by
  intro left
  induction left with
  | zero =>
    intro i h tk T as c e0 le zs lT las al got hS fr lh
    obtain rfl : i = n := by omega
    obtain ⟨f, hz⟩ := zs.hz
    obtain ⟨oT, hT⟩ := zs.hT
    refine codeAny_builtin PySem.F.entry_extend_loop ?_
    rw [Around.under_plainId PySem.F.plain_extend_loop _]
    show wpAny _ A.in1 (pyNext (.ref z) >>= _) _ _ _
    cases hi : its with
    | nil => exact absurd hi D.ne0
    | cons t0 ts =>
    have m0 : t0 ∈ its := hi ▸ List.mem_cons_self ..
    refine wpAny_bind (zipH_end hh (D.nz t0 m0) hz hT (hi ▸ zs.hTI) ((hn t0 m0).symm ▸ zs.st t0 m0) fun h' k => ?_)
    exact wpAny_pure (fin h' tk as c al las (fun j a ha => by
      obtain ⟨vs, cv, tu⟩ := got j a ha
      have la := las a (List.mem_of_getElem? ha)
      exact ⟨vs, cv, k a _ (Nat.ne_of_gt (Nat.lt_of_lt_of_le hlo.1 la)) (Nat.ne_of_gt (Nat.lt_of_lt_of_le (hlo.2.2.2.2 t0 m0) la)) tu⟩) (k S _ D.sz (D.si t0 m0) hS) fun b o b1 b2 b3 hb => k b o b2 (b3 t0 m0) (fr b o b1 b2 b3 hb))
  | succ left ih =>
    intro i h tk T as c e0 le zs lT las al got hS fr lh
    have lt : i < n := by omega
    obtain ⟨f, hz⟩ := zs.hz
    obtain ⟨oT, hT⟩ := zs.hT
    refine codeAny_builtin PySem.F.entry_extend_loop ?_
    rw [Around.under_plainId PySem.F.plain_extend_loop _]
    show wpAny _ A.in1 (pyNext (.ref z) >>= _) _ _ _
    refine wpAny_bind (zipH_next hh D.ne0 D.nd D.nz hz hT zs.hTI D.hl (fun t ht => ⟨zs.st t ht, (hn t ht).symm ▸ lt⟩) fun vs h1 tk1 cv hz1 s1 tu sz k => ?_)
    have hS1 := k S _ D.sz D.si hS
    refine wpAny_bind (wpAny_updateSeq hS1 rfl ?_ (by simp; omega) (by simp; omega))
    have sb := Heap.SameBut.update h1 S (Obj.mapSeq fun x => x.push (.ref h.objs.size))
    have up : ∀ b o, b ≠ S → h1.get? b = some o → (h1.update S (Obj.mapSeq fun x => x.push (.ref h.objs.size))).get? b = some o := fun b o q hb => (sb.2 b q).trans hb
    have Slt : S < h.objs.size := Nat.lt_of_lt_of_le hlo.2.2.1 lh
    refine wpAny_pure ⟨plainId_quiet PySem.F.plain_extend_loop _, ih (i + 1) _ tk1 T (as ++ [h.objs.size]) (c + 1) (by omega) lt ⟨⟨true, up z _ D.sz.symm hz1⟩, ⟨oT, up T _ (Nat.ne_of_gt (Nat.lt_of_lt_of_le hlo.2.2.1 lT)) (k T oT (Nat.ne_of_gt (Nat.lt_of_lt_of_le hlo.1 lT)) (fun t ht => Nat.ne_of_gt (Nat.lt_of_lt_of_le (hlo.2.2.2.2 t ht) lT)) hT)⟩, up TI _ D.sti.symm (k TI _ D.tiz D.tii zs.hTI), fun t ht => (s1 t ht).keep fun o ho => up t.1 o (D.si t ht).symm ho⟩ lT ?_ ?_ ?_ ?_ ?_ ?_⟩
    · intro a ha
      rcases List.mem_append.mp ha with q | q
      · exact las a q
      · rw [List.mem_singleton.mp q]; exact lh
    · rw [List.length_append, al]; rfl
    · intro j a ha
      rcases Nat.lt_or_ge j as.length with q | q
      · rw [List.getElem?_append_left q] at ha
        obtain ⟨vs', cv', tu'⟩ := got j a ha
        have la := las a (List.mem_of_getElem? ha)
        exact ⟨vs', cv', up a _ (Nat.ne_of_gt (Nat.lt_of_lt_of_le hlo.2.2.1 la)) (k a _ (Nat.ne_of_gt (Nat.lt_of_lt_of_le hlo.1 la)) (fun t ht => Nat.ne_of_gt (Nat.lt_of_lt_of_le (hlo.2.2.2.2 t ht) la)) tu')⟩
      · rw [List.getElem?_append_right q] at ha
        have j0 : j - as.length = 0 := by
          rcases Nat.eq_zero_or_pos (j - as.length) with q2 | q2
          · exact q2
          · rw [List.getElem?_eq_none (by simp; omega)] at ha
            cases ha
        rw [j0] at ha
        cases ha
        have ej : j = i := by omega
        subst ej
        exact ⟨vs, cv, up _ _ (Nat.ne_of_gt Slt) tu⟩
    · rw [Heap.get?_update_self _ hS1 rfl]
      simp [Obj.mapSeq]
    · exact fun b o b1 b2 b3 hb => up b o b1 (k b o b2 b3 (fr b o b1 b2 b3 hb))
    · rw [sb.1, sz]; exact Nat.le_succ_of_le lh
theorem zip_list_init {P : Program} {w : World} {A : Around} {R : Result → Shared → Prop} {S z TI TO : Addr} {its : List ItT} {n : Nat} {vs0 : List Value} {s : Shared} (hh : A.handled = none) (D : ZAp S z TI TO its) (hn : ∀ t ∈ its, t.2.1.cps.size = n) (nl : n ≤ sizeLine) (n1 : 1 ≤ n)
    (hz : IsZip s.heap z TI TO .none) (hTI : Tup s.heap TI (Refs its)) (hTO : Seq s.heap TO vs0) (l0 : vs0.length = its.length) (st : ∀ t ∈ its, StI s.heap t 0) (hS : s.heap.get? S = some { cls := .type "list", data := .seq #[] })
    (fin : ∀ (h' : Heap) (tk : Nat) (as : List Addr) (c : Nat), as.length = n → (∀ a ∈ as, s.heap.objs.size ≤ a) → Got h' its as → h'.get? S = some { cls := .type "list", data := .seq (as.map Value.ref).toArray c } →
      (∀ b o, b ≠ S → b ≠ z → b ≠ TO → (∀ t ∈ its, b ≠ t.1) → s.heap.get? b = some o → h'.get? b = some o) → R (.ok (.ret .none)) { heap := h', gens := s.gens, drawn := s.drawn, toks := tk, os := s.os }) :
    wpAny (model P w) A.in1 (Builtin.«list.__init__» { pos := [.ref S, .ref z] }) (fun fin s' => match fin with | .done f => R (.ok f) s' | .again c' => c'.quiet = true ∧ codeAny (model P w) A c' R s') (fun e s' => R (.error e) s') s := by
  have tyZ := hzip hz
  unfold Builtin.«list.__init__»
  refine wpAny_ite_false rfl ?_
  refine wpAny_ite_false rfl ?_
  generalize hE : @Builtin.List.listExtendWith = XE
  wp_walk
  subst hE
  unfold Builtin.List.listExtendWith
  have hS1 : (s.heap.update S (Obj.mapSeq fun x => #[])).get? S = some { cls := .type "list", data := .seq #[] } := by rw [Heap.get?_update_self _ hS rfl]; rfl
  have up : ∀ b o, b ≠ S → s.heap.get? b = some o → (s.heap.update S (Obj.mapSeq fun x => #[])).get? b = some o := fun b o q hb => Heap.get?_update_of_ne _ (Ne.symm q) hb
  have z1 : (s.heap.update S (Obj.mapSeq fun x => #[])).objs.size = s.heap.objs.size := Heap.size_update ..
  generalize (s.heap.update S (Obj.mapSeq fun x => #[])) = h1 at hS1 up z1 ⊢
  have hz1 := up z _ D.sz.symm hz
  have ty1 : Shared.TypeIs { heap := h1, gens := s.gens, drawn := s.drawn, toks := s.toks, os := s.os } (.ref z) "zip" := ⟨_, hz1, rfl⟩
  refine wpAny_bind (wpAny_typeOf ty1 ?_)
  refine wpAny_ite_false (by simp [Builtin.List.listSameRef, D.sz]) ?_
  refine wpAny_bind (wpAny_pyIter_zip hz1 ?_)
  refine wpAny_bind (wpAny_holding ?_)
  unfold Builtin.List.listLengthHint
  refine wpAny_bind (wpAny_specialOf ty1 (r := none) (by rfl) ?_)
  refine wpAny_ite_false rfl ?_
  refine wpAny_ite_false rfl ?_
  refine wpAny_bind (wpAny_specialOf ty1 (r := none) (by rfl) (wpAny_pure ?_))
  refine wpAny_ite_true rfl ?_
  refine wpAny_bind (wpAny_rule ?_)
  unfold Builtin.List.listTouch
  wp_walk
  refine ⟨plainId_quiet PySem.F.plain_extend_loop _, ?_⟩
  have hSa : (h1.update S (Obj.mapSeq fun x => x.push Value.none)).get? S = some { cls := .type "list", data := .seq #[.none] 1 } := by rw [Heap.get?_update_self _ hS1 rfl]; rfl
  have hS2 : ((h1.update S (Obj.mapSeq fun x => x.push Value.none)).update S (Obj.mapSeq fun x => x.pop)).get? S = some { cls := .type "list", data := .seq #[] 2 } := by rw [Heap.get?_update_self _ hSa rfl]; rfl
  have up2 : ∀ b o, b ≠ S → s.heap.get? b = some o → ((h1.update S (Obj.mapSeq fun x => x.push Value.none)).update S (Obj.mapSeq fun x => x.pop)).get? b = some o := fun b o q hb => Heap.get?_update_of_ne _ (Ne.symm q) (Heap.get?_update_of_ne _ (Ne.symm q) (up b o q hb))
  have z2 : ((h1.update S (Obj.mapSeq fun x => x.push Value.none)).update S (Obj.mapSeq fun x => x.pop)).objs.size = s.heap.objs.size := by rw [Heap.size_update, Heap.size_update, z1]
  generalize ((h1.update S (Obj.mapSeq fun x => x.push Value.none)).update S (Obj.mapSeq fun x => x.pop)) = h2 at hS2 up2 z2 ⊢
  obtain ⟨n0, hTO⟩ := hTO
  have Sl : S < h2.objs.size := Heap.lt_size hS2
  have zl : z < h2.objs.size := Heap.lt_size (up2 z _ D.sz.symm hz)
  have TIl : TI < h2.objs.size := Heap.lt_size (up2 TI _ D.sti.symm hTI)
  have TOl : TO < h2.objs.size := Heap.lt_size (up2 TO _ D.sto.symm hTO)
  have st2 : ∀ t ∈ its, StI h2 t 0 := fun t ht => (st t ht).keep fun o ho => up2 _ o (D.si t ht).symm ho
  have il : ∀ t ∈ its, t.1 < h2.objs.size := fun t ht => by
    obtain ⟨o, ho, _⟩ := st2 t ht
    exact Heap.lt_size ho
  refine codeAny_builtin PySem.F.entry_extend_loop ?_
  rw [Around.under_plainId PySem.F.plain_extend_loop _]
  show wpAny _ A.in1 (pyNext (.ref z) >>= _) _ _ _
  refine wpAny_bind (zipF_next (i := 0) hh D.ne0 D.nd D.nz D.nto D.zto (up2 z _ D.sz.symm hz) (up2 TI _ D.sti.symm hTI) ⟨n0, up2 TO _ D.sto.symm hTO⟩ l0 D.hl (fun t ht => ⟨st2 t ht, by rw [hn t ht]; omega⟩) fun vs h3 tk cv hz3 s3 tu3 sz3 k3 => ?_)
  have hS3 := k3 S _ D.sz D.sto D.si hS2
  refine wpAny_bind (wpAny_updateSeq hS3 rfl ?_ (by decide) (show (1 : Nat) ≤ sizeLine + 1 by decide))
  have sb := Heap.SameBut.update h3 S (Obj.mapSeq fun x => x.push (.ref h2.objs.size))
  have up4 : ∀ b o, b ≠ S → h3.get? b = some o → (h3.update S (Obj.mapSeq fun x => x.push (.ref h2.objs.size))).get? b = some o := fun b o q hb => (sb.2 b q).trans hb
  have hS4 : (h3.update S (Obj.mapSeq fun x => x.push (.ref h2.objs.size))).get? S = some { cls := .type "list", data := .seq ([h2.objs.size].map Value.ref).toArray 3 } := by rw [Heap.get?_update_self _ hS3 rfl]; rfl
  have sz4 := sb.1.trans sz3
  refine wpAny_pure ⟨plainId_quiet PySem.F.plain_extend_loop _, ?_⟩
  generalize (h3.update S (Obj.mapSeq fun x => x.push (.ref h2.objs.size))) = h4 at sb up4 hS4 sz4 ⊢
  refine zip_fill (h0 := h4) (n := n) hh D hn nl h2.objs.size ⟨zl, TIl, Sl, TOl, il⟩ (fun h' tk as c al ge gt hs fr => fin h' tk as c al (fun a ha => Nat.le_trans (Nat.le_of_eq z2.symm) (ge a ha)) gt hs fun b o b1 b2 b3 b4 hb => fr b o b1 b2 b4 (up4 b o b1 (k3 b o b2 b3 b4 (up2 b o b1 hb)))) (n - 1) 1 h4 tk h2.objs.size [h2.objs.size] 3 rfl n1 ⟨⟨false, up4 z _ D.sz.symm hz3⟩, ⟨_, up4 _ _ (Nat.ne_of_gt Sl) tu3⟩, up4 TI _ D.sti.symm (k3 TI _ D.tiz D.tito D.tii (up2 TI _ D.sti.symm hTI)), fun t ht => (s3 t ht).keep fun o ho => up4 t.1 o (D.si t ht).symm ho⟩ (Nat.le_refl _) (fun a ha => by rw [List.mem_singleton.mp ha]; exact Nat.le_refl _) rfl (fun j a ha => ?_) hS4 (fun b o _ _ _ hb => hb) (Nat.le_trans (Nat.le_succ _) (Nat.le_of_eq sz4.symm))
  cases j with
  | zero =>
    cases ha
    exact ⟨vs, cv, up4 _ _ (Nat.ne_of_gt Sl) tu3⟩
  | succ j => simp at ha
abbrev nlO : Obj := { cls := .type "list", dict := none, data := .seq #[] }
theorem call_zip_list {P : Program} {w : World} {A : Around} {E : Value → Shared → Prop} {z TI TO : Addr} {its : List ItT} {n : Nat} {vs0 : List Value} {s : Shared} {Q : Value → Shared → Prop} (hh : A.handled = none) (D : ZAp s.heap.objs.size z TI TO its) (hn : ∀ t ∈ its, t.2.1.cps.size = n) (nl : n ≤ sizeLine) (n1 : 1 ≤ n)
    (hz : IsZip s.heap z TI TO .none) (hTI : Tup s.heap TI (Refs its)) (hTO : Seq s.heap TO vs0) (l0 : vs0.length = its.length) (st : ∀ t ∈ its, StI s.heap t 0)
    (h : ∀ (h' : Heap) (tk : Nat) (as : List Addr) (c : Nat), as.length = n → (∀ a ∈ as, s.heap.objs.size ≤ a) → Got h' its as → h'.get? s.heap.objs.size = some { cls := .type "list", data := .seq (as.map Value.ref).toArray c } →
      (∀ b o, b ≠ z → b ≠ TO → (∀ t ∈ its, b ≠ t.1) → s.heap.get? b = some o → h'.get? b = some o) → Q (.ref s.heap.objs.size) { heap := h', gens := s.gens, drawn := s.drawn, toks := tk, os := s.os }) :
    wpAny (model P w) A (call (.type "list") [.ref z]) Q E s := by
  have ⟨⟨c_, tl_, mr⟩, md, sb⟩ := And.intro PySem.F.called_list.mro (And.intro PySem.F.called_list.made PySem.F.called_list.sub)
  refine wpAny_call (codeAny_of_tree (show wpAny _ _ (callAny (.type "list") _) _ _ _ from wpAny_pure ⟨Code.quiet_builtin _ (by decide +kernel), codeAny_builtin PySem.F.entry_type_call ?_⟩))
  rw [Around.under_plain (weight_type_call_type "list" [.ref z] []) rfl]
  have ⟨n1', n2, n3⟩ := And.intro PySem.F.called_list.notType (And.intro PySem.F.called_list.canCreate (PySem.F.typeCall_list_1 (.ref z)))
  repeat (any_goals (first | assumption | wp_step))
  refine codeAny_mono (code_list_new (.ref z) (E := E) (Q₁ := fun u y => u = .ref s.heap.objs.size ∧ y = { s with heap := s.heap.push nlO }) ⟨rfl, rfl⟩) fun r y hr => ?_
  rcases r with er | fl
  · exact hr
  rcases fl with _ | _ | _ | u <;> first | exact hr.elim | skip
  obtain ⟨rfl, rfl⟩ := hr
  have atS : (s.heap.push nlO).get? s.heap.objs.size = some nlO := Heap.get?_push_size _ rfl
  have tyS : Shared.TypeIs { s with heap := s.heap.push nlO } (.ref s.heap.objs.size) "list" := ⟨_, atS, rfl⟩
  have ⟨lk, bd⟩ := And.intro PySem.F.called_list.init.lookup (PySem.F.called_list.init.bind (.ref s.heap.objs.size))
  repeat (any_goals (first | assumption | wp_step))
  refine codeAny_mono (codeAny_call_builtin (R := wants (fun r y => r = .none ∧ ∃ (h' : Heap) (tk : Nat) (as : List Addr) (c : Nat), y = { s with heap := h', toks := tk } ∧ as.length = n ∧ (∀ a ∈ as, s.heap.objs.size ≤ a) ∧ Got h' its as ∧ h'.get? s.heap.objs.size = some { cls := .type "list", data := .seq (as.map Value.ref).toArray c } ∧
    ∀ b o, b ≠ z → b ≠ TO → (∀ t ∈ its, b ≠ t.1) → s.heap.get? b = some o → h'.get? b = some o) E) PySem.F.called_list.init.plain PySem.F.entry_list_init (PySem.F.slot_list_init.check _ _ _ _ _ _ _ _ tyS (PySem.F.args_list_init_2 _ _) ?_)) fun r y hr => ?_
  · have pu : ∀ b o, s.heap.get? b = some o → (s.heap.push nlO).get? b = some o := fun b o q => Heap.get?_push_of_some _ q
    obtain ⟨n0, hTO⟩ := hTO
    refine zip_list_init (A := A.in1) (by simp [hh]) D hn nl n1 (pu z _ hz) (pu TI _ hTI) ⟨n0, pu TO _ hTO⟩ l0 (fun t ht => (st t ht).keep fun o ho => pu _ o ho) atS fun h' tk as c al ge gt hs fr => ⟨rfl, h', tk, as, c, rfl, al, fun a ha => Nat.le_of_succ_le (Nat.le_trans (Nat.le_of_eq (Heap.size_push ..).symm) (ge a ha)), gt, hs, fun b o b2 b3 b4 hb => fr b o (Nat.ne_of_lt (Heap.lt_size hb)) b2 b3 b4 (pu b o hb)⟩
  · rcases r with er | fl
    · exact hr
    rcases fl with _ | _ | _ | u <;> first | exact hr.elim | skip
    obtain ⟨rfl, h', tk, as, c, rfl, al, ge, gt, hs, kp⟩ := hr
    repeat (any_goals (first | assumption | wp_step))
    exact h h' tk as c al ge gt hs kp
def mkIts : Nat → List (Str × Tok) → List ItT
  | _, [] => []
  | b, x :: xs => (b, x) :: mkIts (b + 1) xs
theorem mkIts_len : ∀ (b : Nat) (xs : List (Str × Tok)), (mkIts b xs).length = xs.length
  | _, [] => rfl
  | b, x :: xs => by simp [mkIts, mkIts_len (b + 1) xs]
theorem mkIts_ge : ∀ (b : Nat) (xs : List (Str × Tok)), ∀ t ∈ mkIts b xs, ∃ a : Nat, t.1 = a ∧ b ≤ a ∧ a < b + xs.length ∧ (t.2 ∈ xs)
  | _, [], t, h => absurd h List.not_mem_nil
  | b, x :: xs, t, h => by
    rcases List.mem_cons.mp h with q | q
    · subst q
      exact ⟨b, rfl, Nat.le_refl _, by rw [List.length_cons]; omega, List.mem_cons_self ..⟩
    · obtain ⟨a, e, h1, h2, h3⟩ := mkIts_ge (b + 1) xs t q
      exact ⟨a, e, by omega, by rw [List.length_cons]; omega, List.mem_cons_of_mem _ h3⟩
theorem mkIts_nd : ∀ (b : Nat) (xs : List (Str × Tok)), ((mkIts b xs).map (·.1)).Nodup
  | _, [] => List.nodup_nil
  | b, x :: xs => by
    refine List.nodup_cons.mpr ⟨fun q => ?_, mkIts_nd (b + 1) xs⟩
    obtain ⟨t, ht, e⟩ := List.mem_map.mp q
    obtain ⟨a, e2, h1, _⟩ := mkIts_ge (b + 1) xs t ht
    have e' : b = a := (e.symm.trans e2)
    omega
theorem iters_loop {prog : Program} {w : World} {A : Around} {E : Value → Shared → Prop} :
    ∀ (xs : List (Str × Tok)) (acc : Array Value) (s : Shared) (Q : Array Value → Shared → Prop),
      (∀ h' : Heap, h'.objs.size = s.heap.objs.size + xs.length → (∀ b o, s.heap.get? b = some o → h'.get? b = some o) → (∀ t ∈ mkIts s.heap.objs.size xs, StI h' t 0) → Q (acc ++ (Refs (mkIts s.heap.objs.size xs)).toArray) { heap := h', gens := s.gens, drawn := s.drawn, toks := s.toks, os := s.os }) →
      wpAny (model prog w) A (forIn (xs.map fun x => Value.str x.1 x.2) acc fun x its => do
        let it ← holding its.toList (pyIter x)
        pure (ForInStep.yield (its.push it))) Q E s
  | [], acc, s, Q, h => by
    simp only [List.map_nil, List.forIn_nil]
    have := h s.heap rfl (fun _ _ q => q) (fun t ht => absurd ht List.not_mem_nil)
    refine wpAny_pure ?_
    simpa [mkIts, Refs] using this
  | x :: xs, acc, s, Q, h => by
    simp only [List.map_cons, List.forIn_cons]
    refine wpAny_bind (wpAny_bind (wpAny_holding ((begins_text x.1 x.2).iter prog w A E s _ trivial (wpAny_pure ?_))))
    refine iters_loop xs _ _ _ fun h' hs hk hi => ?_
    have z1 : (s.heap.push { cls := Value.type (strIterType x.1), data := Data.fields #[Value.str x.1 x.2, Value.int 0 0] }).objs.size = s.heap.objs.size + 1 := Heap.size_push ..
    simp only [z1] at hs hi ⊢
    have := h h' (by rw [hs, List.length_cons]; omega) (fun b o q => hk b o (Heap.get?_push_of_some _ q)) (fun t ht => by
      rcases List.mem_cons.mp ht with q | q
      · subst q
        exact ⟨_, hk _ _ (Heap.get?_push_at rfl rfl), rfl, rfl⟩
      · exact hi t q)
    simpa [mkIts, Refs] using this
theorem zip_newN {prog : Program} {w : World} {A : Around} {R : Result → Shared → Prop} {s : Shared} (xs : List (Str × Tok)) (hl : xs.length ≤ sizeLine)
    (h : ∀ h' : Heap, IsZip h' (s.heap.objs.size + xs.length + 2) (s.heap.objs.size + xs.length) (s.heap.objs.size + xs.length + 1) .none → Tup h' (s.heap.objs.size + xs.length) (Refs (mkIts s.heap.objs.size xs)) → Tup h' (s.heap.objs.size + xs.length + 1) (xs.map fun _ => .none) →
      (∀ t ∈ mkIts s.heap.objs.size xs, StI h' t 0) → h'.objs.size = s.heap.objs.size + xs.length + 3 → (∀ b o, s.heap.get? b = some o → h'.get? b = some o) → R (.ok (.ret (.ref (s.heap.objs.size + xs.length + 2)))) { heap := h', gens := s.gens, drawn := s.drawn, toks := s.toks, os := s.os }) :
    wpAny (model prog w) A.in1 (Builtin.«zip.__new__» { pos := .type "zip" :: xs.map fun x => .str x.1 x.2 }) (fun fin s' => match fin with | .done f => R (.ok f) s' | .again c' => c'.quiet = true ∧ codeAny (model prog w) A c' R s') (fun e s' => R (.error e) s') s := by
  unfold Builtin.«zip.__new__» Builtin.SmallTypes.newClass
  have sb := PySem.F.called_zip.sub
  generalize hE : @Builtin.SmallTypes.iterAll = XE
  wp_walk
  subst hE
  unfold Builtin.SmallTypes.iterAll
  refine wpAny_bind (iters_loop xs #[] s _ fun h1 z1 k1 i1 => wpAny_pure ?_)
  simp only [Array.empty_append]
  have lr : (Refs (mkIts s.heap.objs.size xs)).length = xs.length := by rw [Refs, List.length_map, mkIts_len]
  have en : List.map (fun _ => Value.none) (Refs (mkIts s.heap.objs.size xs)) = xs.map fun _ => Value.none := by
    rw [List.map_const', List.map_const', lr]
  refine wpAny_bind (wpAny_newTuple ?_ (by rw [lr]; exact hl))
  rw [en]
  refine wpAny_bind (wpAny_newTuple ?_ (by simpa using hl))
  have z2 : (h1.push { cls := Value.type "tuple", data := Data.seq (Refs (mkIts s.heap.objs.size xs)).toArray }).objs.size = s.heap.objs.size + xs.length + 1 := by rw [Heap.size_push, z1]
  have z3 : ((h1.push { cls := Value.type "tuple", data := Data.seq (Refs (mkIts s.heap.objs.size xs)).toArray }).push { cls := Value.type "tuple", data := Data.seq (xs.map fun _ => Value.none).toArray }).objs.size = s.heap.objs.size + xs.length + 2 := by rw [Heap.size_push, z2]
  unfold Builtin.SmallTypes.newRecord
  wp_walk
  have pz : ∀ b o, s.heap.get? b = some o → ((h1.push { cls := Value.type "tuple", data := Data.seq (Refs (mkIts s.heap.objs.size xs)).toArray }).push { cls := Value.type "tuple", data := Data.seq (xs.map fun _ => Value.none).toArray }).get? b = some o := fun b o q => Heap.get?_push_of_some _ (Heap.get?_push_of_some _ (k1 b o q))
  have t1 := Heap.get?_push_of_some { cls := Value.type "tuple", data := Data.seq (xs.map fun _ => Value.none).toArray } (Heap.get?_push_at (h := h1) (o := { cls := Value.type "tuple", data := Data.seq (Refs (mkIts s.heap.objs.size xs)).toArray }) z1.symm rfl)
  have t2 := Heap.get?_push_at (h := h1.push { cls := Value.type "tuple", data := Data.seq (Refs (mkIts s.heap.objs.size xs)).toArray }) (o := { cls := Value.type "tuple", data := Data.seq (xs.map fun _ => Value.none).toArray }) z2.symm rfl
  simp only [z1, z2, z3]
  exact h _ (Heap.get?_push_at z3.symm rfl) (Heap.get?_push_of_some _ t1) (Heap.get?_push_of_some _ t2) (fun t ht => (i1 t ht).keep fun o ho => Heap.get?_push_of_some _ (Heap.get?_push_of_some _ (Heap.get?_push_of_some _ ho))) (by rw [Heap.size_push, z3]) fun b o q => Heap.get?_push_of_some _ (pz b o q)
theorem tz (vs : List Value) : checkTypeCall "zip" { pos := vs } = pure () := by
  unfold checkTypeCall
  rfl
theorem tz2 : ∀ (vs : List Value), vs.length ≤ 5 → checkBuiltinCall "zip.__new__" { pos := .type "zip" :: vs } = pure ()
  | [], _ => by kernel_rfl
  | [a], _ => by kernel_rfl
  | [a, b], _ => by kernel_rfl
  | [a, b, c], _ => by kernel_rfl
  | [a, b, c, d], _ => by kernel_rfl
  | [a, b, c, d, e], _ => by kernel_rfl
  | a :: b :: c :: d :: e :: f :: g, h => absurd h (by simp)
theorem sigInit : Manifest.signature? "object.__init__" = List.lookup (String.ofList ['_', '_', 't', 'i', 'n', 'i', '_', '_'].reverse) Manifest.sig_object := signature?_of rfl F.owner_object
theorem tz3 (o : Value) : ∀ (vs : List Value), vs.length ≤ 5 → argsOk "object.__init__" { pos := o :: vs }
  | [], _ => by unfold argsOk; rw [sigInit]; rfl
  | [a], _ => by unfold argsOk; rw [sigInit]; rfl
  | [a, b], _ => by unfold argsOk; rw [sigInit]; rfl
  | [a, b, c], _ => by unfold argsOk; rw [sigInit]; rfl
  | [a, b, c, d], _ => by unfold argsOk; rw [sigInit]; rfl
  | [a, b, c, d, e], _ => by unfold argsOk; rw [sigInit]; rfl
  | a :: b :: c :: d :: e :: f :: g, h => absurd h (by simp)
theorem zip_beginsN {prog : Program} {w : World} {A : Around} {E : Value → Shared → Prop} {s : Shared} (xs : List (Str × Tok)) (hl : xs.length ≤ 5) {Q : Value → Shared → Prop}
    (h : ∀ h' : Heap, IsZip h' (s.heap.objs.size + xs.length + 2) (s.heap.objs.size + xs.length) (s.heap.objs.size + xs.length + 1) .none → Tup h' (s.heap.objs.size + xs.length) (Refs (mkIts s.heap.objs.size xs)) → Tup h' (s.heap.objs.size + xs.length + 1) (xs.map fun _ => .none) →
      (∀ t ∈ mkIts s.heap.objs.size xs, StI h' t 0) → h'.objs.size = s.heap.objs.size + xs.length + 3 → (∀ b o, s.heap.get? b = some o → h'.get? b = some o) → Q (.ref (s.heap.objs.size + xs.length + 2)) { heap := h', gens := s.gens, drawn := s.drawn, toks := s.toks, os := s.os }) :
    wpAny (model prog w) A (call (.type "zip") (xs.map fun x => .str x.1 x.2)) Q E s := by
  have lm : (xs.map fun x : Str × Tok => Value.str x.1 x.2).length ≤ 5 := by simpa using hl
  refine callType_new (S := fun A R s => ∀ h' : Heap, IsZip h' (s.heap.objs.size + xs.length + 2) (s.heap.objs.size + xs.length) (s.heap.objs.size + xs.length + 1) .none → Tup h' (s.heap.objs.size + xs.length) (Refs (mkIts s.heap.objs.size xs)) → Tup h' (s.heap.objs.size + xs.length + 1) (xs.map fun _ => .none) →
      (∀ t ∈ mkIts s.heap.objs.size xs, StI h' t 0) → h'.objs.size = s.heap.objs.size + xs.length + 3 → (∀ b o, s.heap.get? b = some o → h'.get? b = some o) → R (.ok (.ret (.ref (s.heap.objs.size + xs.length + 2)))) { heap := h', gens := s.gens, drawn := s.drawn, toks := s.toks, os := s.os }) F.called_zip (by decide) (tz _) (tz2 _ lm) (fun o => tz3 o _ lm) F.entry_zip_new (fun prog w A R s hS => zip_newN xs (Nat.le_trans hl (by decide)) hS) fun h' a b c d e f => ⟨⟨_, a, rfl⟩, h h' a b c d e f⟩
theorem turnedMany {X : L2.Cx} {pins : List (Addr × Obj)} {σ : L2.St} {H H' : L2.Hp} {s : Shared} {h' : Heap} {t' : Nat} (I : L2.Inv X pins σ H s) (k : ∀ b o, s.heap.get? b = some o → h'.get? b = some o) (ext : ∀ b u, H b = some u → H' b = some u)
    (new : ∀ b u, H' b = some u → H b = some u ∨ (s.heap.objs.size ≤ b ∧ L2.ObjOk X.prog X.w H' h' b u)) : L2.Inv X pins σ H' { heap := h', gens := s.gens, drawn := s.drawn, toks := t', os := s.os } := by
  refine I.step (ch := []) (fun b h => absurd h List.not_mem_nil) (fun b o _ _ _ e _ => k b o e) (fun b o _ _ _ e _ => ⟨o.slots, k b o e⟩) (fun b o _ e n => ?_) (fun b o _ e => ⟨o, k b o e⟩) (fun b xs e => ext b _ e) (fun b o u e => ext b _ e) (fun b ps e => ⟨#[], by rw [ext b _ e, Array.append_empty]⟩)
    (fun m hm => ?_) (fun b u e => ?_) I.bare
  · cases hb : H' b with
    | none => rfl
    | some u =>
      rcases new b u hb with q | q
      · rw [n] at q; cases q
      · exact absurd (Heap.lt_size e) (Nat.not_lt_of_le q.1)
  · obtain ⟨o, es, ep, ho, r⟩ := hm
    exact ⟨o, es, ep, k _ o ho, r⟩
  · rcases new b u e with q | q
    · exact (I.hok b u q).stay (fun c v _ z => k c v z) (fun c z => ext c _ z) fun c xs z => ext c _ z
    · exact q.2
theorem call_zipL {P : Program} {w : World} {A : Around} {E : Value → Shared → Prop} {s : Shared} (xs : List (Str × Tok)) (x1 : xs ≠ []) (x5 : xs.length ≤ 5) {n : Nat} (hn : ∀ x ∈ xs, x.1.cps.size = n) (n1 : 1 ≤ n) (nl : n ≤ sizeLine) (hh : A.handled = none) {Q : Value → Shared → Prop}
    (h : ∀ (h' : Heap) (tk : Nat) (L : Addr) (as : List Addr) (c b0 : Nat), s.heap.objs.size ≤ L → (∀ b o, s.heap.get? b = some o → h'.get? b = some o) → as.length = n → (∀ a ∈ as, s.heap.objs.size ≤ a) → Got h' (mkIts b0 xs) as → h'.get? L = some { cls := .type "list", data := .seq (as.map Value.ref).toArray c } → Q (.ref L) { heap := h', gens := s.gens, drawn := s.drawn, toks := tk, os := s.os }) :
    wpAny (model P w) A (call (.type "zip") (xs.map fun x => .str x.1 x.2)) (fun z s' => wpAny (model P w) A (call (.type "list") [z]) Q E s') E s := by
  refine zip_beginsN xs x5 fun h1 hz hTI hTO st sz k => ?_
  have ge : ∀ t ∈ mkIts s.heap.objs.size xs, ∃ a : Nat, t.1 = a ∧ s.heap.objs.size ≤ a ∧ a < s.heap.objs.size + xs.length ∧ t.2 ∈ xs := mkIts_ge _ _
  have ap : ∀ (d : Nat) (t : ItT), t ∈ mkIts s.heap.objs.size xs → (s.heap.objs.size + xs.length + d : Nat) ≠ t.1 := fun d t ht q => by
    obtain ⟨a, e, _, h2, _⟩ := ge t ht
    rw [e] at q
    have q' : s.heap.objs.size + xs.length + d = a := q
    omega
  have D : ZAp h1.objs.size (s.heap.objs.size + xs.length + 2) (s.heap.objs.size + xs.length) (s.heap.objs.size + xs.length + 1) (mkIts s.heap.objs.size xs) := by
    rw [sz]
    exact {
      ne0 := fun q => x1 (List.length_eq_zero_iff.mp (by rw [← mkIts_len s.heap.objs.size xs, q]; rfl))
      nd := mkIts_nd _ _
      nz := ap 2
      nto := fun t ht => (ap 1 t ht).symm
      zto := Nat.ne_of_gt (Nat.lt_succ_self _)
      tiz := Nat.ne_of_lt (Nat.lt_add_of_pos_right (by decide))
      tii := ap 0
      tito := Nat.ne_of_lt (Nat.lt_succ_self _)
      sz := Nat.ne_of_gt (Nat.lt_succ_self _)
      sti := Nat.ne_of_gt (Nat.lt_add_of_pos_right (by decide))
      sto := Nat.ne_of_gt (Nat.lt_add_of_pos_right (n := s.heap.objs.size + xs.length + 1) (k := 2) (by decide))
      si := ap 3
      hl := by rw [mkIts_len]; exact Nat.le_trans x5 (by decide) }
  refine call_zip_list hh D (n := n) (vs0 := xs.map fun _ => .none) (fun t ht => ?_) nl n1 hz hTI ⟨0, hTO⟩ (by rw [List.length_map, mkIts_len]) st fun h' tk as c al ge' gt hs fr => h h' tk _ as c _ (by rw [sz]; exact Nat.le_trans (Nat.le_add_right _ _) (Nat.le_add_right _ _)) (fun b o hb => ?_) al (fun a ha => Nat.le_trans (by rw [sz]; exact Nat.le_trans (Nat.le_add_right _ _) (Nat.le_add_right _ _)) (ge' a ha)) gt hs
  · obtain ⟨a, _, _, _, hx⟩ := ge t ht
    exact hn _ hx
  · have lb : b < s.heap.objs.size := Heap.lt_size hb
    have nb : ∀ d : Nat, b ≠ (s.heap.objs.size + xs.length + d : Nat) := fun d => Nat.ne_of_lt (Nat.lt_of_lt_of_le lb (Nat.le_trans (Nat.le_add_right _ _) (Nat.le_add_right _ _)))
    refine fr b o (nb 2) (nb 1) (fun t ht q => ?_) (k b o hb)
    obtain ⟨a, e, h1, _⟩ := ge t ht
    exact absurd lb (Nat.not_lt_of_le (by rw [q, e]; exact h1))
section
open L2
def col (j : Nat) (xs : List Str) : List V := xs.map fun x => V.str ⟨#[x.cps.getD j 0]⟩
end
end Rx
namespace Rx
open PySem PySem.Spec PyProof.Rows L2
def lenZ (xs : List Str) : Nat := (xs.headD ⟨#[]⟩).cps.size
structure ZL (H H2 : Hp) (L : Addr) (as : List Addr) (xs : List Str) : Prop where
  nl : H L = none
  na : ∀ a ∈ as, H a = none
  len : as.length = lenZ xs
  hL : H2 L = some (.lst (as.map V.ref))
  hA : ∀ j a, as[j]? = some a → H2 a = some (.tup (col j xs))
section
variable {K : PySem.W.Frag} {ms : List Addr} {ps : List PEn} {cs : List (Addr × List V)} {H0 H H1 H2 : Hp} {x u y : V} {d : D}
end
section
variable {α S : Type} {K : PySem.W.Frag} {H1 : Hp} {g : TG} {tb : TS} {D' : Ends} {σ : L2.St}
end
section
variable {K : PySem.W.Frag} {H : Hp}
end
section
variable {K : PySem.W.Frag} {ms : List Addr} {ps : List PEn} {cs : List (Addr × List V)} {H0 H : Hp} {x : V}
end
end Rx
namespace Rx
open PySem PySem.Spec PyProof.Rows L2
section
variable {X : L2.Cx}
end
section
variable {α : Type} {K : PySem.W.Frag} {ms : List Addr} {H : Hp} {x : V} {vs : List V}
end
section
variable {ms : List Addr} {ps : List PEn} {H0 H : Hp} {L : Addr} {ds : List D} {ks : List Key}
end
end Rx
namespace Rx
open PySem PySem.Spec PyProof.Rows L2
structure SeqIt {α : Type} (ms : List Addr) (H1 : Hp) (J : It) (items : List α) (e : α → D) : Prop where
  ex : ∃ (G : Hp → Prop) (Y : Nat → Hp → V → Hp → Prop), L2.Walk J items.length G Y ∧ (∀ H, Keep ms H1 H → G H) ∧ ∀ (i : Nat) (x : V) (H H' : Hp) (h : i < items.length), Keep ms H1 H → Y i H x H' → H' = H ∧ rep ms H (e (items[i]'h)) x
section
variable {α : Type} {K : PySem.W.Frag} {ms : List Addr} {H1 : Hp} {items : List α} {e : α → D} {a : Addr} {xs : List V}
end
section
variable {α β S : Type} {K : PySem.W.Frag} {H1 : Hp} {g : TG} {tt : TT} {te : TE} {tb : TS} {D' : Ends} {vl : List Nat} {σ : L2.St} {Qd : Hp → Prop} {L : Addr} {J : It}
end
section
variable {α : Type} {K : PySem.W.Frag} {ms : List Addr} {ps : List PEn} {H0 H : Hp} {x u : V} {f : α → D} {m : Bool × List α}
end
end Rx
namespace Rx
open PySem PySem.Spec PyProof.Rows L2
section
variable {B : Cx}
end
section
variable {X : Cx}
end
end Rx
namespace Rx
open PySem PySem.Spec PyProof.Rows L2
section
variable {α : Type} {K : PySem.W.Frag} {H1 : Hp} {σ : L2.St} {J : It} {ms : List Addr}
end
section
variable {ms : List Addr} {ps : List PEn} {H0 H H' : Hp} {L : Addr}
end
end Rx
namespace Rx
open PySem PySem.Spec PyProof.Rows L2
section
variable {α : Type} {ms : List Addr} {H : Hp} {x kx : V} {e : α → D}
end
end Rx
namespace Rx
open PySem PySem.Spec PyProof.Rows L2
section
variable {X : Cx} {n : Nat} {CX : CXT} {C f : Addr} {fd : FuncData} {ps : List Str} {sp : Sp} {E : XK}
end
end Rx
namespace Rx
open PySem PySem.Spec PyProof.Rows L2
end Rx
namespace Rx
open PySem PySem.Spec PyProof.Rows L2
end Rx
namespace Rx
open PySem PySem.Spec PyProof.Rows L2
section
variable {K : PySem.W.Frag} {ms ms2 : List Addr} {H : Hp} {x y : V} {d : D} {es : List D} {Q : VK}
end
end Rx
namespace Rx
open PySem PySem.Spec PyProof.Rows L2
end Rx
namespace Rx
open PySem PySem.Spec PyProof.Rows L2
section
variable {X : Cx} {K : PySem.W.Frag} {w : World} {d : Addr}
end
end Rx
namespace Rx
open PySem PySem.Spec PyProof.Rows L2
structure FnE (P : Program) (w : World) (K : PySem.W.Frag) (mg : Str → Option Value) (base : Heap) (k : Nat) (f : Addr) (fd : FuncData) (ps : List Str) (sp : Addr → Value → Option Addr → Sp) : Prop where
  len : ∀ a cls d vs H Q, sp a cls d vs H Q C8.E0 → vs.length = ps.length
  run : ∀ (A : Around), L2H.RoomH k A → ∀ (a : Addr) (oe : Obj) (cls : Value) (d : Option Addr), Zc cls d oe → (∃ vs, oe.data = .fields vs) →
    ∀ (outer : List Env) (s : Shared) (H : Hp) (args : Args) (us : List Value) (vs : List V) (Q : VK), L2H.PinOk outer H s (a, oe) → Env0 P w K mg base A outer s H → BindsTo s fd args (ps.zip us) → Vals vs us → sp a cls d vs H Q C8.E0 →
      codeAny (model P w) A (.call (.ref f) args) (CR C8.CX0 outer P w H s Q C8.E0) s
section
variable {P : Program} {w : World} {K : PySem.W.Frag} {mg : Str → Option Value} {base : Heap}
end
section
variable {X : Cx} {k : Nat} {f : Addr} {fd : FuncData} {ps : List Str} {x : Str} {e : Expr} {es : List Expr} {p pos : Pos} {t : TA}
end
end Rx
namespace Rx
open PySem PySem.Spec PyProof.Rows L2
abbrev Watch (c' : Addr) (q : Str) (f : Addr) (o : HO) (H : Hp) : Prop := H c' = some (LamX.CodeO c' q) ∧ H f = some o
theorem Watch.keep {c' : Addr} {q : Str} {f : Addr} {o : HO} {H H' : Hp} (e : Rx.Ext H H') (h : Watch c' q f o H) : Watch c' q f o H' := ⟨Rx.Ext.keep e h.1, Rx.Ext.keep e h.2⟩
theorem Watch.ret {ms : List Addr} {ps : List PEn} {cs : List (Addr × List V)} {H0 H H' : Hp} {c' : Addr} {q : Str} {f : Addr} {φ : Heap → Prop} (w : Wd ms ps cs H0 H) (e : Ret ps H H') (h : Watch c' q f (.ext φ) H) : Watch c' q f (.ext φ) H' := by
  have no : ∀ (b : Addr) (ψ : Heap → Prop), H b = some (.ext ψ) → b ∉ ad ps := fun b ψ hb hm => by
    obtain ⟨p, hp, rfl⟩ := List.mem_map.mp hm
    have z := w.pot p hp
    obtain ⟨a, k⟩ := p
    cases k with
    | none =>
      obtain ⟨i, j, h1, _⟩ := z
      rw [h1] at hb
      cases hb
    | some q =>
      obtain ⟨xs, h1, _⟩ := z
      rw [h1] at hb
      cases hb
  exact ⟨e.kp _ _ (no _ _ h.1) h.1, e.kp _ _ (no _ _ h.2) h.2⟩
end Rx
namespace Rx
open PySem PySem.Spec PyProof.Rows L2
section
variable {P : Program} {w : World} {A : Around} {K : PySem.W.Frag} {s : Shared} {x C f : Addr} {ox : Obj} {od : Option Obj} {Q E : Value → Shared → Prop}
end
structure FmtOf (K : PySem.W.Frag) (C : Addr) : Prop where
  fo : PySem.W.findIn K (.ref C) "__format__" = some (some (.builtin "object.__format__"))
  mo : PySem.W.mroIn K C (.type "object") = some true
section
variable {X : Cx} {K : PySem.W.Frag} {w : World} {d : Addr}
end
end Rx
namespace Rx
open PySem PySem.Spec PyProof.Rows L2
section
variable {K : PySem.W.Frag} {ms : List Addr} {H : Hp} {x y : V} {d : D}
structure NoSub (K : PySem.W.Frag) (CW C : Addr) : Prop where
  sb : PySem.W.mroIn K CW (.ref C) = some false
  ne : (CW == C) = false
end
end Rx
namespace Rx
open PySem PySem.Spec PyProof.Rows L2
section
variable {prog : Program} {w : World} {A : Around} {E : Value → Shared → Prop} {s : Shared} {K : PySem.W.Frag} {x C L f : Addr} {h₀ : Heap} {m : Str → Option Value} {ox : Obj} {od : Option Obj}
end
end Rx
namespace Rx
open PySem PySem.Spec PyProof.Rows L2
open AutoSeq1 (wpAny_loadPart')
open MeetsSeq
end Rx
namespace Rx
open PySem PySem.Spec PyProof.Rows L2
section
variable {prog : Program} {w : World} {A : Around} {E : Value → Shared → Prop} {s : Shared} {x C dx : Addr} {Q : Option Value → Shared → Prop}
end
end Rx
namespace Rx
open PySem PySem.Spec PyProof.Rows L2
def OffB (K : PySem.W.Frag) (C : Addr) : Prop := (["NoneType", "bool", "int", "str", "list", "tuple", "dict"].all fun T => PySem.W.mroIn K C (.type T) == some false) = true
theorem OffB.at {K : PySem.W.Frag} {C : Addr} (h : OffB K C) {T : String} (m : T ∈ ["NoneType", "bool", "int", "str", "list", "tuple", "dict"]) : PySem.W.mroIn K C (.type T) = some false := beq_iff_eq.mp (List.all_eq_true.mp h T m)
end Rx
namespace Rx
open PySem PySem.Spec PyProof.Rows L2
section
variable {X : Cx} {pins : List (Addr × Obj)} {σ : L2.St} {H : Hp} {s : Shared} {ms : List Addr}
end
end Rx
namespace Rx
open PySem PySem.Spec PyProof.Rows L2
def IteStr (z : Str) : It :=
  ⟨fun i _ => i < z.cps.size, fun i H v H' => ∃ T c, v = .ref T ∧ H T = none ∧ H' = upd H T (.tup [.int (i : Nat), .str ⟨#[c]⟩]) ∧ z.cps[i]? = some c, fun i _ => i = z.cps.size⟩
section
variable {e it b : Addr}
theorem en_two (hb : b ∈ [e, it]) : b = e ∨ b = it := by
  rcases List.mem_cons.mp hb with h | h
  · exact .inl h
  · exact .inr (List.mem_singleton.mp h)
theorem en_lt {h : Heap} {ty : String} {z : Str} {t : Tok} {i : Nat} {k : Int} {old : Value} (he : IsEnum h e it k old) (hit : h.IsStrIter it ty z t i) (hb : b ∈ [e, it]) : b < h.objs.size := by
  rcases en_two hb with rfl | rfl
  · exact Heap.lt_size he
  · exact Heap.lt_size hit.choose_spec.1
abbrev EnS (z : Str) (t : Tok) (e it : Addr) (i : Nat) (h : Heap) : Prop := (∃ old, IsEnum h e it ((i : Nat) : Int) old) ∧ h.IsStrIter it (strIterType z) z t i
abbrev enO (i : Nat) (c : Nat) : HO := .tup [.int (i : Nat), .str ⟨#[c]⟩]
theorem en_keep {z : Str} {t : Tok} {i : Nat} {h h' : Heap} (st : EnS z t e it i h) (k : ∀ b ∈ [e, it], ∀ o, h.get? b = some o → h'.get? b = some o) : EnS z t e it i h' := by
  have ke := k e List.mem_cons_self
  have ki := k it (List.mem_cons_of_mem _ List.mem_cons_self)
  exact ⟨st.1.imp fun _ q => ke _ q, st.2.imp fun _ q => ⟨ki _ q.1, q.2⟩⟩
theorem en_obj {z : Str} {t : Tok} {i : Nat} {h : Heap} (st : EnS z t e it i h) (hb : b ∈ [e, it]) : ∃ o, h.get? b = some o ∧ ∀ v, o.data ≠ .cell v := by
  rcases en_two hb with rfl | rfl
  · obtain ⟨old, q⟩ := st.1
    exact ⟨_, q, by rintro v ⟨⟩⟩
  · obtain ⟨o, q, _, d⟩ := st.2
    exact ⟨o, q, fun v => by rw [d]; rintro ⟨⟩⟩
end
theorem turn_enumStr {P : Program} {w : World} {K : PySem.W.Frag} {elts : List Expr} {kk : Nat} {tpos : Pos} (z : Str) (t : Tok) (e it : Addr) (hei : e ≠ it) :
    L2.Turn P w K (.Tuple elts kk tpos) (IteStr z) [e, it] e (EnS z t e it) where
  mem := List.mem_cons_self
  obj := fun i h st b hb => en_obj st hb
  keep := fun i h h' st k => en_keep st k
  item := by
    intro X hP hw hK hc i pins s σ H E I hf st below
    cases hP; cases hw; cases hK
    obtain ⟨⟨old, he⟩, hit⟩ := st
    have lt : ∀ {b : Addr}, b ∈ [e, it] → b < s.heap.objs.size := en_lt he hit
    have le := lt (b := e) List.mem_cons_self
    refine wpAny_pyNext_enum_itemD (Draws.text (A := X.A.in1) (I.ok.hd hc) it z t) he hit below hei (by simp [hei]) fun y h1 tk said pair hit1 tup _ rest => ?_
    obtain ⟨c, u, at_, rfl⟩ := said
    refine ⟨_, rfl, wpAny_letOwnedTupleGo_enum (s := { s with heap := h1, toks := tk + 1 }) pair fun h2 pair2 same => ?_⟩
    have same' : ∀ b : Addr, b ≠ e → h2.get? b = h1.get? b := same.2
    have there : h2.get? s.heap.objs.size = some { cls := .type "tuple", data := .seq #[.int i tk, .str ⟨#[c]⟩ u] } := by
      rw [same' _ fun q => absurd le (by rw [← q]; exact Nat.lt_irrefl _)]
      exact tup
    have J : Inv X pins σ (upd H s.heap.objs.size (enO i c)) { s with heap := h2, toks := tk + 1 } := by
      refine I.turnedNew (ch := [e, it]) (fun b o no q => ?_) hf (Nat.le_refl _) ⟨by show 2 ≤ sizeLine; decide, _, .cons ⟨_, rfl⟩ (.cons ⟨u, rfl⟩ .nil), _, there, rfl, _, rfl⟩
      have ne : b ≠ e := fun q => no (q ▸ List.mem_cons_self)
      have ni : b ≠ it := fun q => no (q ▸ List.mem_cons_of_mem _ List.mem_cons_self)
      rw [same' b ne]
      exact rest b o ne ni q
    refine ⟨.ref s.heap.objs.size, _, J, rfl, ⟨_, c, rfl, I.hok.fresh (Nat.le_refl _), rfl, at_⟩, ⟨⟨.str ⟨#[c]⟩ u, ?_⟩, ?_⟩, fun b hb => ?_⟩
    · rw [Int.natCast_succ]
      exact pair2
    · exact hit1.imp fun o q => ⟨by rw [same' it (Ne.symm hei)]; exact q.1, q.2⟩
    · rw [upd_ne (Nat.ne_of_lt (lt hb))]
      exact (hf b hb).1
  done := by
    intro X hP hw hK hc i pins s σ H E I hf st over
    cases hP; cases hw; cases hK
    obtain ⟨⟨old, he⟩, hit⟩ := st
    cases (over : i = z.cps.size)
    have f := hf it (List.mem_cons_of_mem _ List.mem_cons_self)
    exact wpAny_pyNext_enum_endD (Draws.text (A := X.A.in1) (I.ok.hd hc) it z t) he hit fun h1 kept => ⟨rfl, I.turned (t' := s.toks) kept f.1 f.2.1 f.2.2.2.1 f.2.2.2.2.1 f.2.2.2.2.2⟩
  self := fun A i s Q E st h => wpAny_pyIter_enum st.1.choose_spec h
def iEnumStr (ta : TA) : TI := fun σ H R => ta σ H fun vs H1 => ∃ z, vs = [.str z] ∧ R (IteStr z) H1
theorem pi_enumStr {X : Cx} {e : PySem.Expr} {ta : TA} {p pos tpos : Pos} {elts : List PySem.Expr} {kk : Nat} (hg : Gl X "enumerate") (hm : X.mg "enumerate" = none) (ha : PA X [e] ta) (hs : starEach [e] X.env = [(false, eval e X.env)] := by rfl) :
    PI X (.Tuple elts kk tpos) (.Call (.Name "enumerate" p) [e] [] pos) (iEnumStr ta) := by
  constructor
  intro pins s σ H R I h
  have args := ha.run pos pins s σ H _ I h
  refine Call_ (ld_blt I hg hm boot_enumerate (PyProof.Rows.callWith_type1 (thn args fun us s1 got => ?_) hs rfl))
  obtain ⟨vs, H1, J, rel, z, rfl, q⟩ := got
  rcases rel with _ | ⟨⟨t, rfl⟩, _ | _⟩
  refine call_enumerate_str fun h1 he hit _ rest => wpAny_pyIter_enum he ?_
  have fp : ∀ b ∈ [s1.heap.objs.size + 1, s1.heap.objs.size], s1.heap.objs.size ≤ b := fun b hb => by
    rcases en_two hb with rfl | rfl
    · exact Nat.le_succ _
    · exact Nat.le_refl _
  exact ⟨_, _, _, _, H1, rfl, J.kept (t' := s1.toks) rest, turn_enumStr z t _ _ (Nat.succ_ne_self _), ⟨⟨.none, he⟩, hit⟩, fun b hb => J.fpOk (fp b hb) (J.hok.fresh (fp b hb)), q⟩
theorem walk_enumStr {z : Str} : L2.Walk (IteStr z) z.cps.size (fun _ => True) (YPair (fun i => some (.int (i : Nat))) (fun i => z.cps[i]?.map fun c => V.str ⟨#[c]⟩)) := by
  refine ⟨fun i _ hi _ => hi, fun _ _ => rfl, fun i H v H' _ _ y => ?_⟩
  obtain ⟨T, c, h1, h2, h3, h4⟩ := y
  exact ⟨T, .int (i : Nat), .str ⟨#[c]⟩, h1, h2, h3, rfl, by show Option.map _ z.cps[i]? = _; rw [h4]; rfl⟩
theorem pair_enumStr {ms : List Addr} {H1 : Hp} (z : Str) : PairIt ms H1 (IteStr z) ((rangeI 0 ((Rx.signs z).length : Int)).zip (Rx.signs z)) (fun i => .v (.int i)) (fun y => .v (.str y)) := by
  have w := walk_enumStr (z := z)
  have sl : (Rx.signs z).length = z.cps.size := by
    unfold Rx.signs
    rw [List.length_map, Array.length_toList]
  rw [← sl, ← enum_len (Rx.signs z)] at w
  refine ⟨_, _, _, w, fun H k => trivial, fun i x1 x2 H h k h1 h2 => ?_⟩
  have l2 : i < (Rx.signs z).length := by rwa [enum_len] at h
  rw [enum_at h l2]
  have e1 : V.int (i : Nat) = x1 := Option.some.inj h1
  subst e1
  have h2 : z.cps[i]?.map (fun c => V.str ⟨#[c]⟩) = some x2 := h2
  have l3 : i < z.cps.size := by omega
  rw [Array.getElem?_eq_getElem l3] at h2
  have e2 : V.str ⟨#[z.cps[i]]⟩ = x2 := Option.some.inj h2
  subst e2
  refine ⟨rep_v, ?_⟩
  have e3 : (Rx.signs z)[i]? = some ⟨#[z.cps[i]]⟩ := by
    unfold Rx.signs
    rw [List.getElem?_map, Array.getElem?_toList, Array.getElem?_eq_getElem l3]
    rfl
  rw [(List.getElem?_eq_some_iff.mp e3).2]
  exact rep_v
end Rx
namespace Rx.Z2
open PySem PySem.Spec PyProof.Rows Rx
abbrev ItT := Addr × Addr × Array Value
def StI (h : Heap) (t : ItT) (i : Nat) : Prop := h.IsListIter t.1 t.2.1 i ∧ h.IsList t.2.1 t.2.2
def Refs (its : List ItT) : List Value := its.map fun t => .ref t.1
def Ap (its : List ItT) : Prop := ∀ t ∈ its, ∀ t' ∈ its, t.2.1 ≠ t'.1
theorem Ap.tail {t : ItT} {ts : List ItT} (a : Ap (t :: ts)) : Ap ts := fun x hx y hy => a x (List.mem_cons_of_mem _ hx) y (List.mem_cons_of_mem _ hy)
def Chars (i : Nat) : List ItT → List Value → Prop
  | [], vs => vs = []
  | t :: ts, vs => ∃ v us, t.2.2[i]? = some v ∧ vs = v :: us ∧ Chars i ts us
theorem Chars.len {i : Nat} : ∀ {its : List ItT} {vs : List Value}, Chars i its vs → vs.length = its.length
  | [], _, h => by rw [show _ = _ from h]; rfl
  | t :: ts, _, ⟨c, us, _, e, h⟩ => by rw [e]; simp [Chars.len h]
theorem StI.keep {h h' : Heap} {t : ItT} {i : Nat} (st : StI h t i) (k : ∀ o, h.get? t.1 = some o → h'.get? t.1 = some o) (k2 : ∀ o, h.get? t.2.1 = some o → h'.get? t.2.1 = some o) : StI h' t i := ⟨st.1.at k, st.2.at k2⟩
def But (its : List ItT) (h h' : Heap) : Prop := h'.objs.size = h.objs.size ∧ ∀ c, (∀ t ∈ its, c ≠ t.1) → h'.get? c = h.get? c
theorem zip_loop {M : Model} {A : Around} {E : Value → Shared → Prop} {i : Nat} {body : Value → Option PySem.Fin × Array Value → Sem (ForInStep (Option PySem.Fin × Array Value))}
    (hb : ∀ (t : ItT) (acc : Array Value) (s : Shared) (Q : ForInStep (Option PySem.Fin × Array Value) → Shared → Prop), t.2.1 ≠ t.1 → StI s.heap t i → i < t.2.2.size →
      (∀ (v : Value) (h' : Heap) (tk : Nat), t.2.2[i]? = some v → StI h' t (i + 1) → Heap.SameBut t.1 s.heap h' → Q (.yield (none, acc.push v)) { heap := h', gens := s.gens, drawn := s.drawn, toks := tk, os := s.os }) →
      wpAny M A (body (.ref t.1) (none, acc)) Q E s) :
    ∀ (its : List ItT) (acc : Array Value) (s : Shared) (Q : Option PySem.Fin × Array Value → Shared → Prop), Ap its → (its.map (·.1)).Nodup → (∀ t ∈ its, StI s.heap t i ∧ i < t.2.2.size) →
      (∀ (vs : List Value) (h' : Heap) (tk : Nat), Chars i its vs → (∀ t ∈ its, StI h' t (i + 1)) → But its s.heap h' → Q (none, acc ++ vs.toArray) { heap := h', gens := s.gens, drawn := s.drawn, toks := tk, os := s.os }) →
      wpAny M A (forIn (Refs its) (none, acc) body) Q E s
  | [], acc, s, Q, _, _, _, hQ => by
    have := hQ [] s.heap s.toks rfl (fun t ht => absurd ht (List.not_mem_nil)) ⟨rfl, fun _ _ => rfl⟩
    simp only [Refs, List.map_nil, List.forIn_nil]
    refine wpAny_pure ?_
    simpa using this
  | t :: ts, acc, s, Q, ap, nd, st, hQ => by
    have nd1 : t.1 ∉ ts.map (·.1) := (List.nodup_cons.mp (by simpa using nd)).1
    have nd2 : (ts.map (·.1)).Nodup := (List.nodup_cons.mp (by simpa using nd)).2
    have ne : ∀ t' ∈ ts, t'.1 ≠ t.1 := fun t' h q => nd1 (q ▸ List.mem_map_of_mem h)
    have m0 : t ∈ t :: ts := List.mem_cons_self ..
    simp only [Refs, List.map_cons, List.forIn_cons]
    refine wpAny_bind (hb t acc s _ (ap t m0 t m0) (st t m0).1 (st t m0).2 fun v h1 tk hc s1 sb => ?_)
    refine zip_loop hb ts (acc.push v) _ _ ap.tail nd2 (fun t' h' => ⟨(st t' (List.mem_cons_of_mem _ h')).1.keep (fun o ho => (sb.2 _ (ne t' h')).trans ho) (fun o ho => (sb.2 _ (ap t' (List.mem_cons_of_mem _ h') t m0)).trans ho), (st t' (List.mem_cons_of_mem _ h')).2⟩) fun vs h2 tk2 cv s2 b2 => ?_
    have := hQ (v :: vs) h2 tk2 ⟨v, vs, hc, rfl, cv⟩ (fun t' h' => by
      rcases List.mem_cons.mp h' with q | q
      · subst q
        exact s1.keep (fun o ho => (b2.2 _ (fun t2 ht2 => (ne t2 ht2).symm)).trans ho) (fun o ho => (b2.2 _ (fun t2 ht2 => ap _ m0 t2 (List.mem_cons_of_mem _ ht2))).trans ho)
      · exact s2 t' q) ⟨b2.1.trans sb.1, fun c' hc' => (b2.2 c' (fun t2 h2 => hc' t2 (List.mem_cons_of_mem _ h2))).trans (sb.2 c' (hc' t m0))⟩
    simpa using this
theorem zipH_item {prog : Program} {w : World} {A : Around} {E : Value → Shared → Prop} {s : Shared} {z TI TO T : Addr} {f : Bool} {oT : Obj} {its : List ItT} {i : Nat} {Q : Value → Shared → Prop} (hh : A.handled = none)
    (ne0 : its ≠ []) (ap : Ap its) (lz : ∀ t ∈ its, t.2.1 ≠ z) (nd : (its.map (·.1)).Nodup) (nz : ∀ t ∈ its, z ≠ t.1) (hz : IsZipHeld s.heap z TI TO T f) (hT : s.heap.get? T = some oT) (hTI : Tup s.heap TI (Refs its)) (hl : its.length ≤ sizeLine)
    (st : ∀ t ∈ its, StI s.heap t i ∧ i < t.2.2.size)
    (hQ : ∀ (vs : List Value) (h' : Heap) (tk : Nat), Chars i its vs → IsZipHeld h' z TI TO T true → (∀ t ∈ its, StI h' t (i + 1)) → Tup h' s.heap.objs.size vs → h'.objs.size = s.heap.objs.size + 1 →
      (∀ (c : Addr) (o : Obj), c ≠ z → (∀ t ∈ its, c ≠ t.1) → s.heap.get? c = some o → h'.get? c = some o) → Q (.ref s.heap.objs.size) { heap := h', gens := s.gens, drawn := s.drawn, toks := tk, os := s.os }) :
    wpAny (model prog w) A (Builtin.«zip.__next__» { pos := [.ref z] }) (fun fin s' => ∃ v, fin = .done (.ret v) ∧ Q v s') E s := by
  unfold Builtin.«zip.__next__»
  refine wpAny_bind ?_
  show wpAny _ _ (pure _) _ _ _
  refine wpAny_pure ?_
  refine wpAny_bind (wpAny_field hz rfl rfl ?_)
  refine wpAny_bind (wpAny_field hz rfl rfl ?_)
  refine wpAny_bind (wpAny_seqItems hTI rfl ?_)
  cases its with
  | nil => exact absurd rfl ne0
  | cons t0 ts =>
  refine wpAny_ite_false rfl ?_
  refine wpAny_bind (wpAny_tupleHeld_zip hz hT fun h1 hz1 sb => ?_)
  refine wpAny_ite_false rfl ?_
  refine wpAny_bind ?_
  rw [List.forIn_toArray]
  refine zip_loop (i := i) (fun t acc s Q nl st lt k => wpAny_bind (wpAny_holding (wpAny_ite_false rfl (wpAny_bind ((Draws.list hh t.1 t.2.1 nl t.2.2).item i s _ _ lt st fun x h' tk hx s1 sb => wpAny_pure ?_))))) (t0 :: ts) #[] _ _ ap nd (fun t ht => ⟨(st t ht).1.keep (fun o ho => (sb.2 _ (nz t ht).symm).trans ho) (fun o ho => (sb.2 _ (lz t ht)).trans ho), (st t ht).2⟩) fun vs h2 tk cv s2 b2 => ?_
  · exact wpAny_pure (k x h' tk hx s1 sb)
  · have lv : vs.length = (t0 :: ts).length := cv.len
    simp only [Array.empty_append]
    refine wpAny_bind (wpAny_newTuple ?_ (by rw [lv]; exact hl))
    refine wpAny_pure ⟨_, rfl, ?_⟩
    have e2 : h2.objs.size = s.heap.objs.size := b2.1.trans sb.1
    have st2 : ∀ t ∈ t0 :: ts, StI (h2.push { cls := .type "tuple", data := .seq vs.toArray }) t (i + 1) := fun t ht => (s2 t ht).keep (fun o ho => Heap.get?_push_of_some _ ho) (fun o ho => Heap.get?_push_of_some _ ho)
    have k2 : ∀ (c : Addr) (o : Obj), c ≠ z → (∀ t ∈ t0 :: ts, c ≠ t.1) → s.heap.get? c = some o → (h2.push { cls := .type "tuple", data := .seq vs.toArray }).get? c = some o := fun c o cz ct ho => Heap.get?_push_of_some _ ((b2.2 c ct).trans ((sb.2 c cz).trans ho))
    rw [e2]
    exact hQ vs _ tk cv (Heap.get?_push_of_some _ ((b2.2 z nz).trans hz1)) st2 (Heap.get?_push_at e2.symm rfl) (by rw [Heap.size_push, e2]) k2
theorem zipH_next {prog : Program} {w : World} {A : Around} {E : Value → Shared → Prop} {s : Shared} {z TI TO T : Addr} {f : Bool} {oT : Obj} {its : List ItT} {i : Nat} {Q : Option Value → Shared → Prop} (hh : A.in1.handled = none)
    (ne0 : its ≠ []) (ap : Ap its) (lz : ∀ t ∈ its, t.2.1 ≠ z) (nd : (its.map (·.1)).Nodup) (nz : ∀ t ∈ its, z ≠ t.1) (hz : IsZipHeld s.heap z TI TO T f) (hT : s.heap.get? T = some oT) (hTI : Tup s.heap TI (Refs its)) (hl : its.length ≤ sizeLine)
    (st : ∀ t ∈ its, StI s.heap t i ∧ i < t.2.2.size)
    (hQ : ∀ (vs : List Value) (h' : Heap) (tk : Nat), Chars i its vs → IsZipHeld h' z TI TO T true → (∀ t ∈ its, StI h' t (i + 1)) → Tup h' s.heap.objs.size vs → h'.objs.size = s.heap.objs.size + 1 →
      (∀ (c : Addr) (o : Obj), c ≠ z → (∀ t ∈ its, c ≠ t.1) → s.heap.get? c = some o → h'.get? c = some o) → Q (some (.ref s.heap.objs.size)) { heap := h', gens := s.gens, drawn := s.drawn, toks := tk, os := s.os }) :
    wpAny (model prog w) A (pyNext (.ref z)) Q E s :=
  wpAny_bind (wpAny_attempt (wpAny_callSpecial?_slot (hzip hz) F.slot_zip_next (wpAny_call_entry F.slot_zip_next (hzip hz) PySem.F.entry_zip_next (zipH_item hh ne0 ap lz nd nz hz hT hTI hl st fun vs h' tk a b c d e g => wpAny_pure (hQ vs h' tk a b c d e g)))))
theorem zipH_end {prog : Program} {w : World} {A : Around} {E : Value → Shared → Prop} {s : Shared} {z TI TO T : Addr} {f : Bool} {oT : Obj} {t0 : ItT} {ts : List ItT} {Q : Option Value → Shared → Prop} (hh : A.in1.handled = none)
    (nl : t0.2.1 ≠ t0.1) (lz : t0.2.1 ≠ z) (nz : z ≠ t0.1) (hz : IsZipHeld s.heap z TI TO T f) (hT : s.heap.get? T = some oT) (hTI : Tup s.heap TI (Refs (t0 :: ts))) (st : StI s.heap t0 t0.2.2.size)
    (hQ : ∀ (h' : Heap), (∀ (c : Addr) (o : Obj), c ≠ z → c ≠ t0.1 → s.heap.get? c = some o → h'.get? c = some o) → Q none { heap := h', gens := s.gens, drawn := s.drawn, toks := s.toks, os := s.os }) :
    wpAny (model prog w) A (pyNext (.ref z)) Q E s := by
  refine wpAny_bind (wpAny_attempt (wpAny_callSpecial?_slot (hzip hz) F.slot_zip_next (wpAny_call_entry F.slot_zip_next (hzip hz) PySem.F.entry_zip_next ?_)))
  unfold Builtin.«zip.__next__»
  refine wpAny_bind ?_
  show wpAny _ _ (pure _) _ _ _
  refine wpAny_pure ?_
  refine wpAny_bind (wpAny_field hz rfl rfl ?_)
  refine wpAny_bind (wpAny_field hz rfl rfl ?_)
  refine wpAny_bind (wpAny_seqItems hTI rfl ?_)
  refine wpAny_ite_false rfl ?_
  refine wpAny_bind (wpAny_tupleHeld_zip hz hT fun h1 hz1 sb => ?_)
  refine wpAny_ite_false rfl ?_
  refine wpAny_bind ?_
  rw [List.forIn_toArray]
  simp only [Refs, List.map_cons, List.forIn_cons]
  refine wpAny_bind (wpAny_bind (wpAny_holding (wpAny_ite_false rfl (wpAny_bind ((Draws.list hh t0.1 t0.2.1 nl t0.2.2).done _ _ _ (st.keep (fun o ho => (sb.2 _ nz.symm).trans ho) (fun o ho => (sb.2 _ lz).trans ho)) fun h' e k he => ?_)))))
  obtain ⟨o, ho, hc⟩ := he
  refine wpAny_bind (wpAny_isInstance (T := "StopIteration") ⟨o, ho, hc⟩ (by rfl) ?_)
  exact wpAny_ite_true rfl (wpAny_pure (hQ h' fun c o cz ct hco => k c o ct ((sb.2 c cz).trans hco)))
theorem zipH_end2 {prog : Program} {w : World} {A : Around} {E : Value → Shared → Prop} {s : Shared} {z TI TO T : Addr} {f : Bool} {oT : Obj} {t0 t1 : ItT} {ts : List ItT} {n : Nat} {Q : Option Value → Shared → Prop} (hh : A.in1.handled = none)
    (nl0 : t0.2.1 ≠ t0.1) (lz0 : t0.2.1 ≠ z) (nz0 : z ≠ t0.1) (nl : t1.2.1 ≠ t1.1) (lz : t1.2.1 ≠ z) (nz : z ≠ t1.1) (n01 : t1.1 ≠ t0.1) (l01 : t1.2.1 ≠ t0.1) (hz : IsZipHeld s.heap z TI TO T f) (hT : s.heap.get? T = some oT) (hTI : Tup s.heap TI (Refs (t0 :: t1 :: ts))) (st0 : StI s.heap t0 n) (lt0 : n < t0.2.2.size) (st : StI s.heap t1 n) (e1 : n = t1.2.2.size)
    (hQ : ∀ (h' : Heap) (tk : Nat), (∀ (c : Addr) (o : Obj), c ≠ z → c ≠ t0.1 → c ≠ t1.1 → s.heap.get? c = some o → h'.get? c = some o) → Q none { heap := h', gens := s.gens, drawn := s.drawn, toks := tk, os := s.os }) :
    wpAny (model prog w) A (pyNext (.ref z)) Q E s := by
  refine wpAny_bind (wpAny_attempt (wpAny_callSpecial?_slot (hzip hz) F.slot_zip_next (wpAny_call_entry F.slot_zip_next (hzip hz) PySem.F.entry_zip_next ?_)))
  unfold Builtin.«zip.__next__»
  refine wpAny_bind ?_
  show wpAny _ _ (pure _) _ _ _
  refine wpAny_pure ?_
  refine wpAny_bind (wpAny_field hz rfl rfl ?_)
  refine wpAny_bind (wpAny_field hz rfl rfl ?_)
  refine wpAny_bind (wpAny_seqItems hTI rfl ?_)
  refine wpAny_ite_false rfl ?_
  refine wpAny_bind (wpAny_tupleHeld_zip hz hT fun h1 hz1 sb => ?_)
  refine wpAny_ite_false rfl ?_
  refine wpAny_bind ?_
  rw [List.forIn_toArray]
  simp only [Refs, List.map_cons, List.forIn_cons]
  refine wpAny_bind (wpAny_bind (wpAny_holding (wpAny_ite_false rfl (wpAny_bind ((Draws.list hh t0.1 t0.2.1 nl0 t0.2.2).item n _ _ _ lt0 (st0.keep (fun o ho => (sb.2 _ nz0.symm).trans ho) (fun o ho => (sb.2 _ lz0).trans ho)) fun x h2 tk hx s1 sb2 => wpAny_pure ?_)))))
  refine wpAny_pure ?_
  refine wpAny_bind (wpAny_bind (wpAny_holding (wpAny_ite_false rfl (wpAny_bind ((Draws.list hh t1.1 t1.2.1 nl t1.2.2).done _ _ _ (e1 ▸ st.keep (fun o ho => (sb2.2 _ n01).trans ((sb.2 _ nz.symm).trans ho)) (fun o ho => (sb2.2 _ l01).trans ((sb.2 _ lz).trans ho))) fun h' e k he => ?_)))))
  obtain ⟨o, ho, hc⟩ := he
  refine wpAny_bind (wpAny_isInstance (T := "StopIteration") ⟨o, ho, hc⟩ (by rfl) ?_)
  exact wpAny_ite_true rfl (wpAny_pure (hQ h' tk fun c o cz c0 c1 hco => k c o c1 ((sb2.2 c c0).trans ((sb.2 c cz).trans hco))))
def EndAt (its : List ItT) (n : Nat) : Prop := ∃ t0 ts, its = t0 :: ts ∧ (t0.2.2.size = n ∨ (n < t0.2.2.size ∧ ∃ t1 ts', ts = t1 :: ts' ∧ t1.2.2.size = n))
theorem zip_end {prog : Program} {w : World} {A : Around} {E : Value → Shared → Prop} {s : Shared} {z TI TO T : Addr} {f : Bool} {oT : Obj} {its : List ItT} {n : Nat} {Q : Option Value → Shared → Prop} (hh : A.in1.handled = none)
    (ap : Ap its) (lz : ∀ t ∈ its, t.2.1 ≠ z) (nd : (its.map (·.1)).Nodup) (nz : ∀ t ∈ its, z ≠ t.1) (hz : IsZipHeld s.heap z TI TO T f) (hT : s.heap.get? T = some oT) (hTI : Tup s.heap TI (Refs its)) (st : ∀ t ∈ its, StI s.heap t n) (he : EndAt its n)
    (hQ : ∀ (h' : Heap) (tk : Nat), (∀ (c : Addr) (o : Obj), c ≠ z → (∀ t ∈ its, c ≠ t.1) → s.heap.get? c = some o → h'.get? c = some o) → Q none { heap := h', gens := s.gens, drawn := s.drawn, toks := tk, os := s.os }) :
    wpAny (model prog w) A (pyNext (.ref z)) Q E s := by
  obtain ⟨t0, ts, rfl, e | ⟨lt, t1, ts', rfl, e⟩⟩ := he
  · have m0 : t0 ∈ t0 :: ts := List.mem_cons_self ..
    exact zipH_end hh (ap _ m0 _ m0) (lz _ m0) (nz _ m0) hz hT hTI (e ▸ st _ m0) fun h' k => hQ h' _ fun c o cz ct ho => k c o cz (ct _ m0) ho
  · have m0 : t0 ∈ t0 :: t1 :: ts' := List.mem_cons_self ..
    have m1 : t1 ∈ t0 :: t1 :: ts' := List.mem_cons_of_mem _ (List.mem_cons_self ..)
    have ne : t1.1 ≠ t0.1 := fun q => by
      have := (List.nodup_cons.mp (by simpa using nd : (t0.1 :: t1.1 :: ts'.map (·.1)).Nodup)).1
      exact this (q ▸ List.mem_cons_self ..)
    exact zipH_end2 hh (ap _ m0 _ m0) (lz _ m0) (nz _ m0) (ap _ m1 _ m1) (lz _ m1) (nz _ m1) ne (ap _ m1 _ m0) hz hT hTI (st _ m0) lt (st _ m1) e.symm fun h' tk k => hQ h' tk fun c o cz ct ho => k c o cz (ct _ m0) (ct _ m1) ho
theorem zip_loopF {M : Model} {A : Around} {E : Value → Shared → Prop} {i : Nat} {TO : Addr} {body : Value × Nat → Option PySem.Fin × Unit → Sem (ForInStep (Option PySem.Fin × Unit))}
    (hb : ∀ (t : ItT) (k : Nat) (ks : List Value) (s : Shared) (Q : ForInStep (Option PySem.Fin × Unit) → Shared → Prop), t.2.1 ≠ t.1 → t.2.1 ≠ TO → StI s.heap t i → i < t.2.2.size → t.1 ≠ TO → ks.length ≤ sizeLine → Seq s.heap TO ks →
      (∀ (v : Value) (h' : Heap) (tk : Nat), t.2.2[i]? = some v → StI h' t (i + 1) → Seq h' TO (ks.set k v) → h'.objs.size = s.heap.objs.size → (∀ b, b ≠ TO → b ≠ t.1 → h'.get? b = s.heap.get? b) → Q (.yield (none, ())) { heap := h', gens := s.gens, drawn := s.drawn, toks := tk, os := s.os }) →
      wpAny M A (body (.ref t.1, k) (none, ())) Q E s) :
    ∀ (its : List ItT) (k : Nat) (don rest : List Value) (s : Shared) (Q : Option PySem.Fin × Unit → Shared → Prop), Ap its → (∀ t ∈ its, t.2.1 ≠ TO) → don.length = k → rest.length = its.length → k + its.length ≤ sizeLine → (∀ t ∈ its, t.1 ≠ TO) → (its.map (·.1)).Nodup → (∀ t ∈ its, StI s.heap t i ∧ i < t.2.2.size) → Seq s.heap TO (don ++ rest) →
      (∀ (vs : List Value) (h' : Heap) (tk : Nat), Chars i its vs → (∀ t ∈ its, StI h' t (i + 1)) → Seq h' TO (don ++ vs) → h'.objs.size = s.heap.objs.size → (∀ b, b ≠ TO → (∀ t ∈ its, b ≠ t.1) → h'.get? b = s.heap.get? b) → Q (none, ()) { heap := h', gens := s.gens, drawn := s.drawn, toks := tk, os := s.os }) →
      wpAny M A (forIn ((Refs its).zipIdx k) (none, ()) body) Q E s
  | [], k, don, rest, s, Q, _, _, _, hr, _, _, _, _, sq, hQ => by
    have r0 : rest = [] := List.length_eq_zero_iff.mp hr
    subst r0
    simp only [Refs, List.map_nil, List.zipIdx_nil, List.forIn_nil]
    exact wpAny_pure (hQ [] s.heap s.toks rfl (fun t ht => absurd ht (List.not_mem_nil)) sq rfl fun _ _ _ => rfl)
  | t :: ts, k, don, rest, s, Q, ap, lto, hd, hr, hk, nto, nd, st, sq, hQ => by
    have nd1 : t.1 ∉ ts.map (·.1) := (List.nodup_cons.mp (by simpa using nd)).1
    have nd2 : (ts.map (·.1)).Nodup := (List.nodup_cons.mp (by simpa using nd)).2
    have ne : ∀ t' ∈ ts, t'.1 ≠ t.1 := fun t' h q => nd1 (q ▸ List.mem_map_of_mem h)
    have m0 : t ∈ t :: ts := List.mem_cons_self ..
    have mc : ∀ t' ∈ ts, t' ∈ t :: ts := fun t' h => List.mem_cons_of_mem _ h
    obtain ⟨r0, rs, rfl⟩ : ∃ r0 rs, rest = r0 :: rs := by
      cases rest with
      | nil => simp at hr
      | cons a b => exact ⟨a, b, rfl⟩
    simp only [List.length_cons] at hr hk
    simp only [Refs, List.map_cons, List.zipIdx_cons, List.forIn_cons]
    refine wpAny_bind (hb t k _ s _ (ap t m0 t m0) (lto t m0) (st t m0).1 (st t m0).2 (nto t m0) (by rw [List.length_append, List.length_cons]; omega) sq fun v h1 tk hc s1 sq1 sz1 sb => ?_)
    have e1 : (don ++ r0 :: rs).set k v = (don ++ [v]) ++ rs := by
      rw [List.set_append_right _ _ (by omega), hd, Nat.sub_self, List.set_cons_zero, List.append_assoc]
      rfl
    rw [e1] at sq1
    refine zip_loopF hb ts (k + 1) (don ++ [v]) rs _ _ ap.tail (fun t' h' => lto t' (mc t' h')) (by rw [List.length_append, hd]; rfl) (by omega) (by omega) (fun t' h' => nto t' (mc t' h')) nd2 (fun t' h' => ⟨(st t' (mc t' h')).1.keep (fun o ho => (sb _ (nto t' (mc t' h')) (ne t' h')).trans ho) (fun o ho => (sb _ (lto t' (mc t' h')) (ap t' (mc t' h') t m0)).trans ho), (st t' (mc t' h')).2⟩) sq1 fun vs h2 tk2 cv s2 sq2 sz2 b2 => ?_
    refine hQ (v :: vs) h2 tk2 ⟨v, vs, hc, rfl, cv⟩ (fun t' h' => ?_) (by simpa using sq2) (sz2.trans sz1) fun b hb1 hb2 => ?_
    · rcases List.mem_cons.mp h' with q | q
      · subst q
        exact s1.keep (fun o ho => (b2 _ (nto _ m0) (fun t2 ht2 => (ne t2 ht2).symm)).trans ho) (fun o ho => (b2 _ (lto _ m0) (fun t2 ht2 => ap _ m0 t2 (mc t2 ht2))).trans ho)
      · exact s2 t' q
    · exact (b2 b hb1 fun t2 h2 => hb2 t2 (List.mem_cons_of_mem _ h2)).trans (sb b hb1 (hb2 t m0))
theorem zipF_next {prog : Program} {w : World} {A : Around} {E : Value → Shared → Prop} {s : Shared} {z TI TO : Addr} {its : List ItT} {i : Nat} {vs0 : List Value} {Q : Option Value → Shared → Prop} (hh : A.in1.handled = none)
    (ne0 : its ≠ []) (ap : Ap its) (lz : ∀ t ∈ its, t.2.1 ≠ z) (lto : ∀ t ∈ its, t.2.1 ≠ TO) (nd : (its.map (·.1)).Nodup) (nz : ∀ t ∈ its, z ≠ t.1) (nto : ∀ t ∈ its, t.1 ≠ TO) (zto : z ≠ TO) (hz : IsZip s.heap z TI TO .none) (hTI : Tup s.heap TI (Refs its)) (hTO : Seq s.heap TO vs0) (l0 : vs0.length = its.length) (hl : its.length ≤ sizeLine)
    (st : ∀ t ∈ its, StI s.heap t i ∧ i < t.2.2.size)
    (hQ : ∀ (vs : List Value) (h' : Heap) (tk : Nat), Chars i its vs → IsZipHeld h' z TI TO s.heap.objs.size false → (∀ t ∈ its, StI h' t (i + 1)) → Tup h' s.heap.objs.size vs → h'.objs.size = s.heap.objs.size + 1 →
      (∀ (c : Addr) (o : Obj), c ≠ z → c ≠ TO → (∀ t ∈ its, c ≠ t.1) → s.heap.get? c = some o → h'.get? c = some o) → Q (some (.ref s.heap.objs.size)) { heap := h', gens := s.gens, drawn := s.drawn, toks := tk, os := s.os }) :
    wpAny (model prog w) A (pyNext (.ref z)) Q E s := by
  refine wpAny_bind (wpAny_attempt (wpAny_callSpecial?_slot (hzip hz) F.slot_zip_next (wpAny_call_entry F.slot_zip_next (hzip hz) PySem.F.entry_zip_next ?_)))
  unfold Builtin.«zip.__next__»
  refine wpAny_bind ?_
  show wpAny _ _ (pure _) _ _ _
  refine wpAny_pure ?_
  refine wpAny_bind (wpAny_field hz rfl rfl ?_)
  refine wpAny_bind (wpAny_field hz rfl rfl ?_)
  refine wpAny_bind (wpAny_seqItems hTI rfl ?_)
  cases its with
  | nil => exact absurd rfl ne0
  | cons t0 ts =>
  refine wpAny_ite_false rfl ?_
  refine wpAny_bind (wpAny_bind (wpAny_field hz rfl rfl (wpAny_pure ?_)))
  refine wpAny_ite_true rfl ?_
  refine wpAny_bind (wpAny_rule ?_)
  refine wpAny_bind (wpAny_field hz rfl rfl ?_)
  refine wpAny_bind (wpAny_setField_rec hz (Nat.lt_of_lt_of_eq (by decide : 0 < 5) rfl) fun h1 hz1 sb1 => ?_)
  obtain ⟨n0, hTO⟩ := hTO
  refine wpAny_bind ?_
  show wpAny _ _ (forIn ((Refs (t0 :: ts)).zipIdx 0) _ _) _ _ _
  refine zip_loopF (i := i) (TO := TO) (fun t k ks s Q nl nlt st lt nt lk sq kk => ?_) (t0 :: ts) 0 [] vs0 _ _ ap lto rfl l0 (by simpa using hl) nto nd (fun t ht => ⟨(st t ht).1.keep (fun o ho => (sb1.2 _ (nz t ht).symm).trans ho) (fun o ho => (sb1.2 _ (lz t ht)).trans ho), (st t ht).2⟩) ⟨n0, (sb1.2 _ zto.symm).trans hTO⟩ fun vs h2 tk cv s2 sq2 sz2 b2 => ?_
  · refine wpAny_bind (wpAny_onRaise (wpAny_ite_false rfl (wpAny_bind ((Draws.list hh t.1 t.2.1 nl t.2.2).item i s _ _ lt st fun x h' tk hx s1 sb => wpAny_pure ?_))))
    obtain ⟨n, sq⟩ := sq
    have sq' := (sb.2 _ nt.symm).trans sq
    refine wpAny_bind (wpAny_seqItems sq' rfl ?_)
    refine wpAny_bind (wpAny_updateSeq sq' rfl ?_ (by simpa using lk) (by simp; omega))
    refine wpAny_bind (wpAny_letGo (wpAny_pure ?_))
    refine kk x _ tk hx (StI.keep (t := t) s1 (fun o ho => Heap.get?_update_of_ne _ nt.symm ho) (fun o ho => Heap.get?_update_of_ne _ nlt.symm ho)) ⟨n, ?_⟩ ((Heap.size_update ..).trans sb.1) fun b hb1 hb2 => (Heap.get?_update_ne _ _ _ _ hb1).trans (sb.2 b hb2)
    rw [Heap.get?_update_self _ sq' rfl]
    simp [Obj.mapSeq]
  · have lv : vs.length = (t0 :: ts).length := cv.len
    obtain ⟨n2, sq2⟩ := sq2
    refine wpAny_bind (wpAny_seqItems sq2 rfl ?_)
    simp only [List.nil_append]
    refine wpAny_bind (wpAny_newTuple ?_ (by rw [lv]; exact hl))
    have e2 : h2.objs.size = s.heap.objs.size := sz2.trans sb1.1
    have hz2 : (h2.push { cls := .type "tuple", data := .seq vs.toArray }).get? z = _ := Heap.get?_push_of_some _ ((b2 z zto nz).trans hz1)
    refine wpAny_bind (wpAny_bind (wpAny_setField_rec hz2 (Nat.lt_of_lt_of_eq (by decide : 0 < 5) rfl) fun h3 hz3 sb3 => ?_))
    refine wpAny_setField_rec hz3 (Nat.lt_of_lt_of_eq (by decide : 1 < 5) rfl) fun h4 hz4 sb4 => ?_
    have kz : ∀ (c : Addr) (o : Obj), c ≠ z → (h2.push { cls := .type "tuple", data := .seq vs.toArray }).get? c = some o → h4.get? c = some o := fun c o cz ho => (sb4.2 c cz).trans ((sb3.2 c cz).trans ho)
    have zl : z < h2.objs.size := Heap.lt_size ((b2 z zto nz).trans hz1)
    rw [← e2] at hQ
    have kn : ∀ t ∈ t0 :: ts, t.1 ≠ z := fun t ht => (nz t ht).symm
    refine wpAny_pure ⟨_, rfl, wpAny_pure (hQ vs h4 tk cv hz4 (fun t ht => (s2 t ht).keep (fun o ho => kz _ o (kn t ht) (Heap.get?_push_of_some _ ho)) (fun o ho => kz _ o (lz t ht) (Heap.get?_push_of_some _ ho))) (kz _ _ (Nat.ne_of_gt zl) (Heap.get?_push_at rfl rfl)) (by rw [sb4.1, sb3.1, Heap.size_push]) fun c o cz ct ci ho => kz c o cz (Heap.get?_push_of_some _ ((b2 c ct ci).trans ((sb1.2 c cz).trans ho))))⟩
structure ZS (h : Heap) (z TI TO T : Addr) (its : List ItT) (i : Nat) : Prop where
  hz : ∃ f, IsZipHeld h z TI TO T f
  hT : ∃ o, h.get? T = some o
  hTI : Tup h TI (Refs its)
  st : ∀ t ∈ its, StI h t i
structure ZAp (S z TI TO : Addr) (its : List ItT) : Prop where
  ne0 : its ≠ []
  ap : Ap its
  lz : ∀ t ∈ its, t.2.1 ≠ z
  lto : ∀ t ∈ its, t.2.1 ≠ TO
  ls : ∀ t ∈ its, t.2.1 ≠ S
  nd : (its.map (·.1)).Nodup
  nz : ∀ t ∈ its, z ≠ t.1
  nto : ∀ t ∈ its, t.1 ≠ TO
  zto : z ≠ TO
  tiz : TI ≠ z
  tii : ∀ t ∈ its, TI ≠ t.1
  tito : TI ≠ TO
  sz : S ≠ z
  sti : S ≠ TI
  sto : S ≠ TO
  si : ∀ t ∈ its, S ≠ t.1
  hl : its.length ≤ sizeLine
def Got (h : Heap) (its : List ItT) (as : List Addr) : Prop := ∀ j a, as[j]? = some a → ∃ vs, Chars j its vs ∧ Tup h a vs
theorem zip_fill {P : Program} {w : World} {A : Around} {R : Result → Shared → Prop} {S z TI TO : Addr} {its : List ItT} {n : Nat} {h0 : Heap} {g : Array GenState} {d : Drawn} {os : OsState} (hh : A.in1.in1.handled = none) (D : ZAp S z TI TO its) (hn : ∀ t ∈ its, n ≤ t.2.2.size) (he : EndAt its n) (nl : n ≤ sizeLine)
    (lo : Nat) (hlo : z < lo ∧ TI < lo ∧ S < lo ∧ TO < lo ∧ ∀ t ∈ its, t.1 < lo)
    (fin : ∀ (h' : Heap) (tk : Nat) (as : List Addr) (c : Nat), as.length = n → (∀ a ∈ as, lo ≤ a) → Got h' its as → h'.get? S = some { cls := .type "list", data := .seq (as.map Value.ref).toArray c } →
      (∀ b o, b ≠ S → b ≠ z → (∀ t ∈ its, b ≠ t.1) → h0.get? b = some o → h'.get? b = some o) → R (.ok (.ret .none)) { heap := h', gens := g, drawn := d, toks := tk, os := os }) :
    ∀ (left i : Nat) (h : Heap) (tk : Nat) (T : Addr) (as : List Addr) (c : Nat), n - i = left → i ≤ n → ZS h z TI TO T its i → lo ≤ T → (∀ a ∈ as, lo ≤ a) → as.length = i → Got h its as → h.get? S = some { cls := .type "list", data := .seq (as.map Value.ref).toArray c } →
      (∀ b o, b ≠ S → b ≠ z → (∀ t ∈ its, b ≠ t.1) → h0.get? b = some o → h.get? b = some o) → lo ≤ h.objs.size →
      codeAny (model P w) A (.builtin "list.extend.loop" ⟨[.ref S, .ref z, .none], []⟩) R { heap := h, gens := g, drawn := d, toks := tk, os := os } := by
  intro left
  induction left with
  | zero =>
    intro i h tk T as c e0 le zs lT las al got hS fr lh
    obtain rfl : i = n := by omega
    obtain ⟨f, hz⟩ := zs.hz
    obtain ⟨oT, hT⟩ := zs.hT
    refine codeAny_builtin PySem.F.entry_extend_loop ?_
    rw [Around.under_plainId PySem.F.plain_extend_loop _]
    show wpAny _ A.in1 (pyNext (.ref z) >>= _) _ _ _
    refine wpAny_bind (zip_end hh D.ap D.lz D.nd D.nz hz hT zs.hTI zs.st he fun h' tk' k => ?_)
    exact wpAny_pure (fin h' tk' as c al las (fun j a ha => by
      obtain ⟨vs, cv, tu⟩ := got j a ha
      have la := las a (List.mem_of_getElem? ha)
      exact ⟨vs, cv, k a _ (Nat.ne_of_gt (Nat.lt_of_lt_of_le hlo.1 la)) (fun t ht => Nat.ne_of_gt (Nat.lt_of_lt_of_le (hlo.2.2.2.2 t ht) la)) tu⟩) (k S _ D.sz D.si hS) fun b o b1 b2 b3 hb => k b o b2 b3 (fr b o b1 b2 b3 hb))
  | succ left ih =>
    intro i h tk T as c e0 le zs lT las al got hS fr lh
    have lt : i < n := by omega
    obtain ⟨f, hz⟩ := zs.hz
    obtain ⟨oT, hT⟩ := zs.hT
    refine codeAny_builtin PySem.F.entry_extend_loop ?_
    rw [Around.under_plainId PySem.F.plain_extend_loop _]
    show wpAny _ A.in1 (pyNext (.ref z) >>= _) _ _ _
    refine wpAny_bind (zipH_next hh D.ne0 D.ap D.lz D.nd D.nz hz hT zs.hTI D.hl (fun t ht => ⟨zs.st t ht, Nat.lt_of_lt_of_le lt (hn t ht)⟩) fun vs h1 tk1 cv hz1 s1 tu sz k => ?_)
    have hS1 := k S _ D.sz D.si hS
    refine wpAny_bind (wpAny_updateSeq hS1 rfl ?_ (by simp; omega) (by simp; omega))
    have sb := Heap.SameBut.update h1 S (Obj.mapSeq fun x => x.push (.ref h.objs.size))
    have up : ∀ b o, b ≠ S → h1.get? b = some o → (h1.update S (Obj.mapSeq fun x => x.push (.ref h.objs.size))).get? b = some o := fun b o q hb => (sb.2 b q).trans hb
    have Slt : S < h.objs.size := Nat.lt_of_lt_of_le hlo.2.2.1 lh
    refine wpAny_pure ⟨plainId_quiet PySem.F.plain_extend_loop _, ih (i + 1) _ tk1 T (as ++ [h.objs.size]) (c + 1) (by omega) lt ⟨⟨true, up z _ D.sz.symm hz1⟩, ⟨oT, up T _ (Nat.ne_of_gt (Nat.lt_of_lt_of_le hlo.2.2.1 lT)) (k T oT (Nat.ne_of_gt (Nat.lt_of_lt_of_le hlo.1 lT)) (fun t ht => Nat.ne_of_gt (Nat.lt_of_lt_of_le (hlo.2.2.2.2 t ht) lT)) hT)⟩, up TI _ D.sti.symm (k TI _ D.tiz D.tii zs.hTI), fun t ht => (s1 t ht).keep (fun o ho => up t.1 o (D.si t ht).symm ho) (fun o ho => up t.2.1 o (D.ls t ht) ho)⟩ lT ?_ ?_ ?_ ?_ ?_ ?_⟩
    · intro a ha
      rcases List.mem_append.mp ha with q | q
      · exact las a q
      · rw [List.mem_singleton.mp q]; exact lh
    · rw [List.length_append, al]; rfl
    · intro j a ha
      rcases Nat.lt_or_ge j as.length with q | q
      · rw [List.getElem?_append_left q] at ha
        obtain ⟨vs', cv', tu'⟩ := got j a ha
        have la := las a (List.mem_of_getElem? ha)
        exact ⟨vs', cv', up a _ (Nat.ne_of_gt (Nat.lt_of_lt_of_le hlo.2.2.1 la)) (k a _ (Nat.ne_of_gt (Nat.lt_of_lt_of_le hlo.1 la)) (fun t ht => Nat.ne_of_gt (Nat.lt_of_lt_of_le (hlo.2.2.2.2 t ht) la)) tu')⟩
      · rw [List.getElem?_append_right q] at ha
        have j0 : j - as.length = 0 := by
          rcases Nat.eq_zero_or_pos (j - as.length) with q2 | q2
          · exact q2
          · rw [List.getElem?_eq_none (by simp; omega)] at ha
            cases ha
        rw [j0] at ha
        cases ha
        have ej : j = i := by omega
        subst ej
        exact ⟨vs, cv, up _ _ (Nat.ne_of_gt Slt) tu⟩
    · rw [Heap.get?_update_self _ hS1 rfl]
      simp [Obj.mapSeq]
    · exact fun b o b1 b2 b3 hb => up b o b1 (k b o b2 b3 (fr b o b1 b2 b3 hb))
    · rw [sb.1, sz]; exact Nat.le_succ_of_le lh
theorem zip_list_init {P : Program} {w : World} {A : Around} {R : Result → Shared → Prop} {S z TI TO : Addr} {its : List ItT} {n : Nat} {vs0 : List Value} {s : Shared} (hh : A.handled = none) (D : ZAp S z TI TO its) (hn : ∀ t ∈ its, n ≤ t.2.2.size) (he : EndAt its n) (nl : n ≤ sizeLine) (n1 : 1 ≤ n)
    (hz : IsZip s.heap z TI TO .none) (hTI : Tup s.heap TI (Refs its)) (hTO : Seq s.heap TO vs0) (l0 : vs0.length = its.length) (st : ∀ t ∈ its, StI s.heap t 0) (hS : s.heap.get? S = some { cls := .type "list", data := .seq #[] })
    (fin : ∀ (h' : Heap) (tk : Nat) (as : List Addr) (c : Nat), as.length = n → (∀ a ∈ as, s.heap.objs.size ≤ a) → Got h' its as → h'.get? S = some { cls := .type "list", data := .seq (as.map Value.ref).toArray c } →
      (∀ b o, b ≠ S → b ≠ z → b ≠ TO → (∀ t ∈ its, b ≠ t.1) → s.heap.get? b = some o → h'.get? b = some o) → R (.ok (.ret .none)) { heap := h', gens := s.gens, drawn := s.drawn, toks := tk, os := s.os }) :
    wpAny (model P w) A.in1 (Builtin.«list.__init__» { pos := [.ref S, .ref z] }) (fun fin s' => match fin with | .done f => R (.ok f) s' | .again c' => c'.quiet = true ∧ codeAny (model P w) A c' R s') (fun e s' => R (.error e) s') s := by
  have tyZ := hzip hz
  unfold Builtin.«list.__init__»
  refine wpAny_ite_false rfl ?_
  refine wpAny_ite_false rfl ?_
  generalize hE : @Builtin.List.listExtendWith = XE
  wp_walk
  subst hE
  unfold Builtin.List.listExtendWith
  have hS1 : (s.heap.update S (Obj.mapSeq fun x => #[])).get? S = some { cls := .type "list", data := .seq #[] } := by rw [Heap.get?_update_self _ hS rfl]; rfl
  have up : ∀ b o, b ≠ S → s.heap.get? b = some o → (s.heap.update S (Obj.mapSeq fun x => #[])).get? b = some o := fun b o q hb => Heap.get?_update_of_ne _ (Ne.symm q) hb
  have z1 : (s.heap.update S (Obj.mapSeq fun x => #[])).objs.size = s.heap.objs.size := Heap.size_update ..
  generalize (s.heap.update S (Obj.mapSeq fun x => #[])) = h1 at hS1 up z1 ⊢
  have hz1 := up z _ D.sz.symm hz
  have ty1 : Shared.TypeIs { heap := h1, gens := s.gens, drawn := s.drawn, toks := s.toks, os := s.os } (.ref z) "zip" := ⟨_, hz1, rfl⟩
  refine wpAny_bind (wpAny_typeOf ty1 ?_)
  refine wpAny_ite_false (by simp [Builtin.List.listSameRef, D.sz]) ?_
  refine wpAny_bind (wpAny_pyIter_zip hz1 ?_)
  refine wpAny_bind (wpAny_holding ?_)
  unfold Builtin.List.listLengthHint
  refine wpAny_bind (wpAny_specialOf ty1 (r := none) (by rfl) ?_)
  refine wpAny_ite_false rfl ?_
  refine wpAny_ite_false rfl ?_
  refine wpAny_bind (wpAny_specialOf ty1 (r := none) (by rfl) (wpAny_pure ?_))
  refine wpAny_ite_true rfl ?_
  refine wpAny_bind (wpAny_rule ?_)
  unfold Builtin.List.listTouch
  wp_walk
  refine ⟨plainId_quiet PySem.F.plain_extend_loop _, ?_⟩
  have hSa : (h1.update S (Obj.mapSeq fun x => x.push Value.none)).get? S = some { cls := .type "list", data := .seq #[.none] 1 } := by rw [Heap.get?_update_self _ hS1 rfl]; rfl
  have hS2 : ((h1.update S (Obj.mapSeq fun x => x.push Value.none)).update S (Obj.mapSeq fun x => x.pop)).get? S = some { cls := .type "list", data := .seq #[] 2 } := by rw [Heap.get?_update_self _ hSa rfl]; rfl
  have up2 : ∀ b o, b ≠ S → s.heap.get? b = some o → ((h1.update S (Obj.mapSeq fun x => x.push Value.none)).update S (Obj.mapSeq fun x => x.pop)).get? b = some o := fun b o q hb => Heap.get?_update_of_ne _ (Ne.symm q) (Heap.get?_update_of_ne _ (Ne.symm q) (up b o q hb))
  have z2 : ((h1.update S (Obj.mapSeq fun x => x.push Value.none)).update S (Obj.mapSeq fun x => x.pop)).objs.size = s.heap.objs.size := by rw [Heap.size_update, Heap.size_update, z1]
  generalize ((h1.update S (Obj.mapSeq fun x => x.push Value.none)).update S (Obj.mapSeq fun x => x.pop)) = h2 at hS2 up2 z2 ⊢
  obtain ⟨n0, hTO⟩ := hTO
  have Sl : S < h2.objs.size := Heap.lt_size hS2
  have zl : z < h2.objs.size := Heap.lt_size (up2 z _ D.sz.symm hz)
  have TIl : TI < h2.objs.size := Heap.lt_size (up2 TI _ D.sti.symm hTI)
  have TOl : TO < h2.objs.size := Heap.lt_size (up2 TO _ D.sto.symm hTO)
  have st2 : ∀ t ∈ its, StI h2 t 0 := fun t ht => (st t ht).keep (fun o ho => up2 _ o (D.si t ht).symm ho) (fun o ho => up2 _ o (D.ls t ht) ho)
  have il : ∀ t ∈ its, t.1 < h2.objs.size := fun t ht => by
    obtain ⟨⟨o, ho, _⟩, _⟩ := st2 t ht
    exact Heap.lt_size ho
  refine codeAny_builtin PySem.F.entry_extend_loop ?_
  rw [Around.under_plainId PySem.F.plain_extend_loop _]
  show wpAny _ A.in1 (pyNext (.ref z) >>= _) _ _ _
  refine wpAny_bind (zipF_next (i := 0) hh D.ne0 D.ap D.lz D.lto D.nd D.nz D.nto D.zto (up2 z _ D.sz.symm hz) (up2 TI _ D.sti.symm hTI) ⟨n0, up2 TO _ D.sto.symm hTO⟩ l0 D.hl (fun t ht => ⟨st2 t ht, Nat.lt_of_lt_of_le n1 (hn t ht)⟩) fun vs h3 tk cv hz3 s3 tu3 sz3 k3 => ?_)
  have hS3 := k3 S _ D.sz D.sto D.si hS2
  refine wpAny_bind (wpAny_updateSeq hS3 rfl ?_ (by decide) (show (1 : Nat) ≤ sizeLine + 1 by decide))
  have sb := Heap.SameBut.update h3 S (Obj.mapSeq fun x => x.push (.ref h2.objs.size))
  have up4 : ∀ b o, b ≠ S → h3.get? b = some o → (h3.update S (Obj.mapSeq fun x => x.push (.ref h2.objs.size))).get? b = some o := fun b o q hb => (sb.2 b q).trans hb
  have hS4 : (h3.update S (Obj.mapSeq fun x => x.push (.ref h2.objs.size))).get? S = some { cls := .type "list", data := .seq ([h2.objs.size].map Value.ref).toArray 3 } := by rw [Heap.get?_update_self _ hS3 rfl]; rfl
  have sz4 := sb.1.trans sz3
  refine wpAny_pure ⟨plainId_quiet PySem.F.plain_extend_loop _, ?_⟩
  generalize (h3.update S (Obj.mapSeq fun x => x.push (.ref h2.objs.size))) = h4 at sb up4 hS4 sz4 ⊢
  refine zip_fill (h0 := h4) (n := n) hh D hn he nl h2.objs.size ⟨zl, TIl, Sl, TOl, il⟩ (fun h' tk as c al ge gt hs fr => fin h' tk as c al (fun a ha => Nat.le_trans (Nat.le_of_eq z2.symm) (ge a ha)) gt hs fun b o b1 b2 b3 b4 hb => fr b o b1 b2 b4 (up4 b o b1 (k3 b o b2 b3 b4 (up2 b o b1 hb)))) (n - 1) 1 h4 tk h2.objs.size [h2.objs.size] 3 rfl n1 ⟨⟨false, up4 z _ D.sz.symm hz3⟩, ⟨_, up4 _ _ (Nat.ne_of_gt Sl) tu3⟩, up4 TI _ D.sti.symm (k3 TI _ D.tiz D.tito D.tii (up2 TI _ D.sti.symm hTI)), fun t ht => (s3 t ht).keep (fun o ho => up4 t.1 o (D.si t ht).symm ho) (fun o ho => up4 t.2.1 o (D.ls t ht) ho)⟩ (Nat.le_refl _) (fun a ha => by rw [List.mem_singleton.mp ha]; exact Nat.le_refl _) rfl (fun j a ha => ?_) hS4 (fun b o _ _ _ hb => hb) (Nat.le_trans (Nat.le_succ _) (Nat.le_of_eq sz4.symm))
  cases j with
  | zero =>
    cases ha
    exact ⟨vs, cv, up4 _ _ (Nat.ne_of_gt Sl) tu3⟩
  | succ j => simp at ha
theorem call_zip_list {P : Program} {w : World} {A : Around} {E : Value → Shared → Prop} {z TI TO : Addr} {its : List ItT} {n : Nat} {vs0 : List Value} {s : Shared} {Q : Value → Shared → Prop} (hh : A.handled = none) (D : ZAp s.heap.objs.size z TI TO its) (hn : ∀ t ∈ its, n ≤ t.2.2.size) (he : EndAt its n) (nl : n ≤ sizeLine) (n1 : 1 ≤ n)
    (hz : IsZip s.heap z TI TO .none) (hTI : Tup s.heap TI (Refs its)) (hTO : Seq s.heap TO vs0) (l0 : vs0.length = its.length) (st : ∀ t ∈ its, StI s.heap t 0)
    (h : ∀ (h' : Heap) (tk : Nat) (as : List Addr) (c : Nat), as.length = n → (∀ a ∈ as, s.heap.objs.size ≤ a) → Got h' its as → h'.get? s.heap.objs.size = some { cls := .type "list", data := .seq (as.map Value.ref).toArray c } →
      (∀ b o, b ≠ z → b ≠ TO → (∀ t ∈ its, b ≠ t.1) → s.heap.get? b = some o → h'.get? b = some o) → Q (.ref s.heap.objs.size) { heap := h', gens := s.gens, drawn := s.drawn, toks := tk, os := s.os }) :
    wpAny (model P w) A (call (.type "list") [.ref z]) Q E s := by
  have ⟨⟨c_, tl_, mr⟩, md, sb⟩ := And.intro PySem.F.called_list.mro (And.intro PySem.F.called_list.made PySem.F.called_list.sub)
  refine wpAny_call (codeAny_of_tree (show wpAny _ _ (callAny (.type "list") _) _ _ _ from wpAny_pure ⟨Code.quiet_builtin _ (by decide +kernel), codeAny_builtin PySem.F.entry_type_call ?_⟩))
  rw [Around.under_plain (weight_type_call_type "list" [.ref z] []) rfl]
  have ⟨n1', n2, n3⟩ := And.intro PySem.F.called_list.notType (And.intro PySem.F.called_list.canCreate (PySem.F.typeCall_list_1 (.ref z)))
  repeat (any_goals (first | assumption | wp_step))
  refine codeAny_mono (code_list_new (.ref z) (E := E) (Q₁ := fun u y => u = .ref s.heap.objs.size ∧ y = { s with heap := s.heap.push nlO }) ⟨rfl, rfl⟩) fun r y hr => ?_
  rcases r with er | fl
  · exact hr
  rcases fl with _ | _ | _ | u <;> first | exact hr.elim | skip
  obtain ⟨rfl, rfl⟩ := hr
  have atS : (s.heap.push nlO).get? s.heap.objs.size = some nlO := Heap.get?_push_size _ rfl
  have tyS : Shared.TypeIs { s with heap := s.heap.push nlO } (.ref s.heap.objs.size) "list" := ⟨_, atS, rfl⟩
  have ⟨lk, bd⟩ := And.intro PySem.F.called_list.init.lookup (PySem.F.called_list.init.bind (.ref s.heap.objs.size))
  repeat (any_goals (first | assumption | wp_step))
  refine codeAny_mono (codeAny_call_builtin (R := wants (fun r y => r = .none ∧ ∃ (h' : Heap) (tk : Nat) (as : List Addr) (c : Nat), y = { s with heap := h', toks := tk } ∧ as.length = n ∧ (∀ a ∈ as, s.heap.objs.size ≤ a) ∧ Got h' its as ∧ h'.get? s.heap.objs.size = some { cls := .type "list", data := .seq (as.map Value.ref).toArray c } ∧
    ∀ b o, b ≠ z → b ≠ TO → (∀ t ∈ its, b ≠ t.1) → s.heap.get? b = some o → h'.get? b = some o) E) PySem.F.called_list.init.plain PySem.F.entry_list_init (PySem.F.slot_list_init.check _ _ _ _ _ _ _ _ tyS (PySem.F.args_list_init_2 _ _) ?_)) fun r y hr => ?_
  · have pu : ∀ b o, s.heap.get? b = some o → (s.heap.push nlO).get? b = some o := fun b o q => Heap.get?_push_of_some _ q
    obtain ⟨n0, hTO⟩ := hTO
    refine zip_list_init (A := A.in1) (by simp [hh]) D hn he nl n1 (pu z _ hz) (pu TI _ hTI) ⟨n0, pu TO _ hTO⟩ l0 (fun t ht => (st t ht).keep (fun o ho => pu _ o ho) (fun o ho => pu _ o ho)) atS fun h' tk as c al ge gt hs fr => ⟨rfl, h', tk, as, c, rfl, al, fun a ha => Nat.le_of_succ_le (Nat.le_trans (Nat.le_of_eq (Heap.size_push ..).symm) (ge a ha)), gt, hs, fun b o b2 b3 b4 hb => fr b o (Nat.ne_of_lt (Heap.lt_size hb)) b2 b3 b4 (pu b o hb)⟩
  · rcases r with er | fl
    · exact hr
    rcases fl with _ | _ | _ | u <;> first | exact hr.elim | skip
    obtain ⟨rfl, h', tk, as, c, rfl, al, ge, gt, hs, kp⟩ := hr
    repeat (any_goals (first | assumption | wp_step))
    exact h h' tk as c al ge gt hs kp
def mkIts : Nat → List (Addr × Array Value) → List ItT
  | _, [] => []
  | b, x :: xs => (b, x) :: mkIts (b + 1) xs
theorem mkIts_len : ∀ (b : Nat) (xs : List (Addr × Array Value)), (mkIts b xs).length = xs.length
  | _, [] => rfl
  | b, x :: xs => by simp [mkIts, mkIts_len (b + 1) xs]
theorem mkIts_ge : ∀ (b : Nat) (xs : List (Addr × Array Value)), ∀ t ∈ mkIts b xs, ∃ a : Nat, t.1 = a ∧ b ≤ a ∧ a < b + xs.length ∧ (t.2 ∈ xs)
  | _, [], t, h => absurd h List.not_mem_nil
  | b, x :: xs, t, h => by
    rcases List.mem_cons.mp h with q | q
    · subst q
      exact ⟨b, rfl, Nat.le_refl _, by rw [List.length_cons]; omega, List.mem_cons_self ..⟩
    · obtain ⟨a, e, h1, h2, h3⟩ := mkIts_ge (b + 1) xs t q
      exact ⟨a, e, by omega, by rw [List.length_cons]; omega, List.mem_cons_of_mem _ h3⟩
theorem mkIts_nd : ∀ (b : Nat) (xs : List (Addr × Array Value)), ((mkIts b xs).map (·.1)).Nodup
  | _, [] => List.nodup_nil
  | b, x :: xs => by
    refine List.nodup_cons.mpr ⟨fun q => ?_, mkIts_nd (b + 1) xs⟩
    obtain ⟨t, ht, e⟩ := List.mem_map.mp q
    obtain ⟨a, e2, h1, _⟩ := mkIts_ge (b + 1) xs t ht
    have e' : b = a := (e.symm.trans e2)
    omega
theorem iters_loop {prog : Program} {w : World} {A : Around} {E : Value → Shared → Prop} :
    ∀ (xs : List (Addr × Array Value)) (acc : Array Value) (s : Shared) (Q : Array Value → Shared → Prop), (∀ x ∈ xs, s.heap.IsList x.1 x.2) →
      (∀ h' : Heap, h'.objs.size = s.heap.objs.size + xs.length → (∀ b o, s.heap.get? b = some o → h'.get? b = some o) → (∀ t ∈ mkIts s.heap.objs.size xs, StI h' t 0) → Q (acc ++ (Refs (mkIts s.heap.objs.size xs)).toArray) { heap := h', gens := s.gens, drawn := s.drawn, toks := s.toks, os := s.os }) →
      wpAny (model prog w) A (forIn (xs.map fun x => Value.ref x.1) acc fun x its => do
        let it ← holding its.toList (pyIter x)
        pure (ForInStep.yield (its.push it))) Q E s
  | [], acc, s, Q, _, h => by
    simp only [List.map_nil, List.forIn_nil]
    have := h s.heap rfl (fun _ _ q => q) (fun t ht => absurd ht List.not_mem_nil)
    refine wpAny_pure ?_
    simpa [mkIts, Refs] using this
  | x :: xs, acc, s, Q, hl, h => by
    simp only [List.map_cons, List.forIn_cons]
    have l0 := hl x (List.mem_cons_self ..)
    refine wpAny_bind (wpAny_bind (wpAny_holding ((begins_list x.1 x.2).iter prog w A E s _ l0 (wpAny_pure ?_))))
    refine iters_loop xs _ _ _ (fun y hy => (hl y (List.mem_cons_of_mem _ hy)).at fun o ho => Heap.get?_push_of_some _ ho) fun h' hs hk hi => ?_
    have z1 : (s.heap.push { cls := Value.type "list_iterator", data := Data.fields #[Value.ref x.1, Value.int 0 0] }).objs.size = s.heap.objs.size + 1 := Heap.size_push ..
    simp only [z1] at hs hi ⊢
    have := h h' (by rw [hs, List.length_cons]; omega) (fun b o q => hk b o (Heap.get?_push_of_some _ q)) (fun t ht => by
      rcases List.mem_cons.mp ht with q | q
      · subst q
        exact ⟨⟨_, hk _ _ (Heap.get?_push_at rfl rfl), rfl, rfl⟩, l0.at fun o ho => hk _ _ (Heap.get?_push_of_some _ ho)⟩
      · exact hi t q)
    simpa [mkIts, Refs] using this
theorem zip_newN {prog : Program} {w : World} {A : Around} {R : Result → Shared → Prop} {s : Shared} (xs : List (Addr × Array Value)) (hx : ∀ x ∈ xs, s.heap.IsList x.1 x.2) (hl : xs.length ≤ sizeLine)
    (h : ∀ h' : Heap, IsZip h' (s.heap.objs.size + xs.length + 2) (s.heap.objs.size + xs.length) (s.heap.objs.size + xs.length + 1) .none → Tup h' (s.heap.objs.size + xs.length) (Refs (mkIts s.heap.objs.size xs)) → Tup h' (s.heap.objs.size + xs.length + 1) (xs.map fun _ => .none) →
      (∀ t ∈ mkIts s.heap.objs.size xs, StI h' t 0) → h'.objs.size = s.heap.objs.size + xs.length + 3 → (∀ b o, s.heap.get? b = some o → h'.get? b = some o) → R (.ok (.ret (.ref (s.heap.objs.size + xs.length + 2)))) { heap := h', gens := s.gens, drawn := s.drawn, toks := s.toks, os := s.os }) :
    wpAny (model prog w) A.in1 (Builtin.«zip.__new__» { pos := .type "zip" :: xs.map fun x => .ref x.1 }) (fun fin s' => match fin with | .done f => R (.ok f) s' | .again c' => c'.quiet = true ∧ codeAny (model prog w) A c' R s') (fun e s' => R (.error e) s') s := by
  unfold Builtin.«zip.__new__» Builtin.SmallTypes.newClass
  have sb := PySem.F.called_zip.sub
  generalize hE : @Builtin.SmallTypes.iterAll = XE
  wp_walk
  subst hE
  unfold Builtin.SmallTypes.iterAll
  refine wpAny_bind (iters_loop xs #[] s _ hx fun h1 z1 k1 i1 => wpAny_pure ?_)
  simp only [Array.empty_append]
  have lr : (Refs (mkIts s.heap.objs.size xs)).length = xs.length := by rw [Refs, List.length_map, mkIts_len]
  have en : List.map (fun _ => Value.none) (Refs (mkIts s.heap.objs.size xs)) = xs.map fun _ => Value.none := by
    rw [List.map_const', List.map_const', lr]
  refine wpAny_bind (wpAny_newTuple ?_ (by rw [lr]; exact hl))
  rw [en]
  refine wpAny_bind (wpAny_newTuple ?_ (by simpa using hl))
  have z2 : (h1.push { cls := Value.type "tuple", data := Data.seq (Refs (mkIts s.heap.objs.size xs)).toArray }).objs.size = s.heap.objs.size + xs.length + 1 := by rw [Heap.size_push, z1]
  have z3 : ((h1.push { cls := Value.type "tuple", data := Data.seq (Refs (mkIts s.heap.objs.size xs)).toArray }).push { cls := Value.type "tuple", data := Data.seq (xs.map fun _ => Value.none).toArray }).objs.size = s.heap.objs.size + xs.length + 2 := by rw [Heap.size_push, z2]
  unfold Builtin.SmallTypes.newRecord
  wp_walk
  have pz : ∀ b o, s.heap.get? b = some o → ((h1.push { cls := Value.type "tuple", data := Data.seq (Refs (mkIts s.heap.objs.size xs)).toArray }).push { cls := Value.type "tuple", data := Data.seq (xs.map fun _ => Value.none).toArray }).get? b = some o := fun b o q => Heap.get?_push_of_some _ (Heap.get?_push_of_some _ (k1 b o q))
  have t1 := Heap.get?_push_of_some { cls := Value.type "tuple", data := Data.seq (xs.map fun _ => Value.none).toArray } (Heap.get?_push_at (h := h1) (o := { cls := Value.type "tuple", data := Data.seq (Refs (mkIts s.heap.objs.size xs)).toArray }) z1.symm rfl)
  have t2 := Heap.get?_push_at (h := h1.push { cls := Value.type "tuple", data := Data.seq (Refs (mkIts s.heap.objs.size xs)).toArray }) (o := { cls := Value.type "tuple", data := Data.seq (xs.map fun _ => Value.none).toArray }) z2.symm rfl
  simp only [z1, z2, z3]
  exact h _ (Heap.get?_push_at z3.symm rfl) (Heap.get?_push_of_some _ t1) (Heap.get?_push_of_some _ t2) (fun t ht => (i1 t ht).keep (fun o ho => Heap.get?_push_of_some _ (Heap.get?_push_of_some _ (Heap.get?_push_of_some _ ho))) (fun o ho => Heap.get?_push_of_some _ (Heap.get?_push_of_some _ (Heap.get?_push_of_some _ ho)))) (by rw [Heap.size_push, z3]) fun b o q => Heap.get?_push_of_some _ (pz b o q)
theorem zip_beginsN {prog : Program} {w : World} {A : Around} {E : Value → Shared → Prop} {s : Shared} (xs : List (Addr × Array Value)) (hx : ∀ x ∈ xs, s.heap.IsList x.1 x.2) (hl : xs.length ≤ 5) {Q : Value → Shared → Prop}
    (h : ∀ h' : Heap, IsZip h' (s.heap.objs.size + xs.length + 2) (s.heap.objs.size + xs.length) (s.heap.objs.size + xs.length + 1) .none → Tup h' (s.heap.objs.size + xs.length) (Refs (mkIts s.heap.objs.size xs)) → Tup h' (s.heap.objs.size + xs.length + 1) (xs.map fun _ => .none) →
      (∀ t ∈ mkIts s.heap.objs.size xs, StI h' t 0) → h'.objs.size = s.heap.objs.size + xs.length + 3 → (∀ b o, s.heap.get? b = some o → h'.get? b = some o) → Q (.ref (s.heap.objs.size + xs.length + 2)) { heap := h', gens := s.gens, drawn := s.drawn, toks := s.toks, os := s.os }) :
    wpAny (model prog w) A (call (.type "zip") (xs.map fun x => .ref x.1)) Q E s := by
  have lm : (xs.map fun x : Addr × Array Value => Value.ref x.1).length ≤ 5 := by simpa using hl
  refine callType_new (S := fun A R s => (∀ x ∈ xs, s.heap.IsList x.1 x.2) ∧ ∀ h' : Heap, IsZip h' (s.heap.objs.size + xs.length + 2) (s.heap.objs.size + xs.length) (s.heap.objs.size + xs.length + 1) .none → Tup h' (s.heap.objs.size + xs.length) (Refs (mkIts s.heap.objs.size xs)) → Tup h' (s.heap.objs.size + xs.length + 1) (xs.map fun _ => .none) →
      (∀ t ∈ mkIts s.heap.objs.size xs, StI h' t 0) → h'.objs.size = s.heap.objs.size + xs.length + 3 → (∀ b o, s.heap.get? b = some o → h'.get? b = some o) → R (.ok (.ret (.ref (s.heap.objs.size + xs.length + 2)))) { heap := h', gens := s.gens, drawn := s.drawn, toks := s.toks, os := s.os }) F.called_zip (by decide) (tz _) (tz2 _ lm) (fun o => tz3 o _ lm) F.entry_zip_new (fun prog w A R s hS => zip_newN xs hS.1 (Nat.le_trans hl (by decide)) hS.2) ⟨hx, fun h' a b c d e f => ⟨⟨_, a, rfl⟩, h h' a b c d e f⟩⟩
theorem call_zipL {P : Program} {w : World} {A : Around} {E : Value → Shared → Prop} {s : Shared} (xs : List (Addr × Array Value)) (hx : ∀ x ∈ xs, s.heap.IsList x.1 x.2) (x1 : xs ≠ []) (x5 : xs.length ≤ 5) {n : Nat} (hn : ∀ x ∈ xs, n ≤ x.2.size) (he : ∀ b : Nat, EndAt (mkIts b xs) n) (n1 : 1 ≤ n) (nl : n ≤ sizeLine) (hh : A.handled = none) {Q : Value → Shared → Prop}
    (h : ∀ (h' : Heap) (tk : Nat) (L : Addr) (as : List Addr) (c b0 : Nat), s.heap.objs.size ≤ L → (∀ b o, s.heap.get? b = some o → h'.get? b = some o) → as.length = n → (∀ a ∈ as, s.heap.objs.size ≤ a) → Got h' (mkIts b0 xs) as → h'.get? L = some { cls := .type "list", data := .seq (as.map Value.ref).toArray c } → Q (.ref L) { heap := h', gens := s.gens, drawn := s.drawn, toks := tk, os := s.os }) :
    wpAny (model P w) A (call (.type "zip") (xs.map fun x => .ref x.1)) (fun z s' => wpAny (model P w) A (call (.type "list") [z]) Q E s') E s := by
  refine zip_beginsN xs hx x5 fun h1 hz hTI hTO st sz k => ?_
  have ge : ∀ t ∈ mkIts s.heap.objs.size xs, ∃ a : Nat, t.1 = a ∧ s.heap.objs.size ≤ a ∧ a < s.heap.objs.size + xs.length ∧ t.2 ∈ xs := mkIts_ge _ _
  have ap : ∀ (d : Nat) (t : ItT), t ∈ mkIts s.heap.objs.size xs → (s.heap.objs.size + xs.length + d : Nat) ≠ t.1 := fun d t ht q => by
    obtain ⟨a, e, _, h2, _⟩ := ge t ht
    rw [e] at q
    have q' : s.heap.objs.size + xs.length + d = a := q
    omega
  have D : ZAp h1.objs.size (s.heap.objs.size + xs.length + 2) (s.heap.objs.size + xs.length) (s.heap.objs.size + xs.length + 1) (mkIts s.heap.objs.size xs) := by
    rw [sz]
    have ll : ∀ (d : Nat) (t : ItT), t ∈ mkIts s.heap.objs.size xs → t.2.1 ≠ (s.heap.objs.size + d : Nat) := fun d t ht q => by
      obtain ⟨a, _, _, _, hm⟩ := ge t ht
      obtain ⟨o, ho, _⟩ := hx _ hm
      have l9 : t.2.1 < s.heap.objs.size := Heap.lt_size ho
      rw [q] at l9
      have l8 : s.heap.objs.size + d < s.heap.objs.size := l9
      omega
    exact {
      ap := fun t ht t' ht' q => by
        obtain ⟨a, e, h1, _, _⟩ := ge t' ht'
        refine ll (a - s.heap.objs.size) t ht (q.trans (e.trans ?_))
        show a = s.heap.objs.size + (a - s.heap.objs.size)
        omega
      lz := fun t ht => ll (xs.length + 2) t ht
      lto := fun t ht => ll (xs.length + 1) t ht
      ls := fun t ht => ll (xs.length + 3) t ht
      ne0 := fun q => x1 (List.length_eq_zero_iff.mp (by rw [← mkIts_len s.heap.objs.size xs, q]; rfl))
      nd := mkIts_nd _ _
      nz := ap 2
      nto := fun t ht => (ap 1 t ht).symm
      zto := Nat.ne_of_gt (Nat.lt_succ_self _)
      tiz := Nat.ne_of_lt (Nat.lt_add_of_pos_right (by decide))
      tii := ap 0
      tito := Nat.ne_of_lt (Nat.lt_succ_self _)
      sz := Nat.ne_of_gt (Nat.lt_succ_self _)
      sti := Nat.ne_of_gt (Nat.lt_add_of_pos_right (by decide))
      sto := Nat.ne_of_gt (Nat.lt_add_of_pos_right (n := s.heap.objs.size + xs.length + 1) (k := 2) (by decide))
      si := ap 3
      hl := by rw [mkIts_len]; exact Nat.le_trans x5 (by decide) }
  refine call_zip_list hh D (n := n) (vs0 := xs.map fun _ => .none) (fun t ht => ?_) (he _) nl n1 hz hTI ⟨0, hTO⟩ (by rw [List.length_map, mkIts_len]) st fun h' tk as c al ge' gt hs fr => h h' tk _ as c _ (by rw [sz]; exact Nat.le_trans (Nat.le_add_right _ _) (Nat.le_add_right _ _)) (fun b o hb => ?_) al (fun a ha => Nat.le_trans (by rw [sz]; exact Nat.le_trans (Nat.le_add_right _ _) (Nat.le_add_right _ _)) (ge' a ha)) gt hs
  · obtain ⟨a, _, _, _, hx⟩ := ge t ht
    exact hn _ hx
  · have lb : b < s.heap.objs.size := Heap.lt_size hb
    have nb : ∀ d : Nat, b ≠ (s.heap.objs.size + xs.length + d : Nat) := fun d => Nat.ne_of_lt (Nat.lt_of_lt_of_le lb (Nat.le_trans (Nat.le_add_right _ _) (Nat.le_add_right _ _)))
    refine fr b o (nb 2) (nb 1) (fun t ht q => ?_) (k b o hb)
    obtain ⟨a, e, h1, _⟩ := ge t ht
    exact absurd lb (Nat.not_lt_of_le (by rw [q, e]; exact h1))
section
open L2
theorem chars_two {N : Nat} {a b : Addr} {xa xb : Array Value} {j : Nat} {vs : List Value} (h : Chars j (mkIts N [(a, xa), (b, xb)]) vs) : ∃ u v, xa[j]? = some u ∧ xb[j]? = some v ∧ vs = [u, v] := by
  obtain ⟨u, us, hu, rfl, v, us2, hv, rfl, e⟩ := h
  rw [show us2 = [] from e]
  exact ⟨u, v, hu, hv, rfl⟩
def rZip2 (K : PySem.W.Frag) (vs : List V) (H1 : Hp) (Q : VK) : Prop := ∃ (a b : Addr) (xs ys : List V), vs = [V.ref a, V.ref b] ∧ SqL K H1 a xs ∧ SqL K H1 b ys ∧ ys.length ≤ xs.length ∧ 1 ≤ ys.length ∧
  ∀ (L : Addr) (as : List Addr) (H2 : Hp), H1 L = none → (∀ a ∈ as, H1 a = none) → L ∉ as → as.length = ys.length → H2 L = some (.lst (as.map V.ref)) → (∀ (j : Nat) (a : Addr), as[j]? = some a → ∃ x y, xs[j]? = some x ∧ ys[j]? = some y ∧ H2 a = some (.tup [x, y])) → (∀ b, b ≠ L → b ∉ as → H2 b = H1 b) → Q (.ref L) H2
def tZip2 (K : PySem.W.Frag) (ta : TA) : TE := fun σ H Q => ta σ H fun vs H1 => rZip2 K vs H1 Q
theorem pe_zip2 {X : Cx} {K : PySem.W.Frag} (hK : X.K = K) {a b : Expr} {ta : TA} {p p2 q pos : Pos} (hc : X.calm = true) (hg : Gl X "list") (hm : X.mg "list" = none) (hg2 : Gl X "zip") (hm2 : X.mg "zip" = none) (ha : PA X [a, b] ta)
    (hs : starEach [a, b] X.env = (false, eval a X.env) :: starEach [b] X.env := by rfl) (hpl : (backTo q (starEach [b] X.env)).any (·.1) = false := by rfl)
    (na : starEach [.Call (.Name "zip" p2) [a, b] [] q] X.env = (false, eval (.Call (.Name "zip" p2) [a, b] [] q) X.env) :: starEach [] X.env := by rfl) :
    PE X (.Call (.Name "list" p) [.Call (.Name "zip" p2) [a, b] [] q] [] pos) (tZip2 K ta) := by
  subst hK
  refine ⟨fun pins s σ H Q I h => Call_ (ld_blt I hg hm PyProof.Rows.boot_list (PyProof.Rows.callWith_type1 (PyProof.Rows.args_cons ?_ na) na rfl))⟩
  refine Call_ (ld_blt I hg2 hm2 PyProof.Rows.boot_zip (PyProof.Rows.callWith_type1 (thn (ha.run q pins s σ H _ I h) fun us s1 ⟨vs, H1, I1, r1, q1⟩ => ?_) hs hpl))
  obtain ⟨a, b, xs, ys, ex, sa, sb, le, l1, q1⟩ := q1
  subst ex
  cases r1 with
  | cons r rr =>
  cases rr with
  | cons r' rr =>
  cases rr
  cases r
  cases r'
  obtain ⟨ia, ra, pa, za⟩ := I1.list sa
  obtain ⟨ib, rb, pb, zb⟩ := I1.list sb
  have la := ra.length
  have lb := rb.length
  refine thn (call_zipL (n := ys.length) [(a, ia.toArray), (b, ib.toArray)] (fun x hx => ?_) (by simp) (by simp) (fun x hx => ?_) (fun b0 => ?_) l1 (by omega) (I1.ok.hd hc) (Q := fun v s' => EP X pins σ Q v s') fun h' tk L as c b0 gL kp al ge gt hL => ?_) fun v s2 hv => PyProof.Rows.args_nil hv
  · simp only [List.mem_cons, List.not_mem_nil, or_false] at hx
    rcases hx with rfl | rfl
    · exact pa.isList
    · exact pb.isList
  · simp only [List.mem_cons, List.not_mem_nil, or_false] at hx
    rcases hx with rfl | rfl
    · simp; omega
    · simp; omega
  · refine ⟨_, _, rfl, ?_⟩
    by_cases c : xs.length = ys.length
    · exact .inl (by simp; omega)
    · exact .inr ⟨by simp; omega, _, _, rfl, by simp; omega⟩
  have LA : L ∉ as := fun q => by
    obtain ⟨j, ej⟩ := List.getElem?_of_mem q
    obtain ⟨vs, _, tu⟩ := gt j L ej
    rw [show _ = _ from tu] at hL
    simp at hL
  have fresh : ∀ b, s1.heap.objs.size ≤ b → H1 b = none := fun b hb => I1.hok.fresh hb
  have ixd : ∀ b, b ∈ as → as[as.idxOf b]? = some b := fun b hb => by
    rw [List.getElem?_eq_getElem (List.idxOf_lt_length_of_mem hb), List.getElem_idxOf]
  have vr : ∀ as : List Addr, Vals (as.map V.ref) (as.map Value.ref) := fun as => by
    induction as with
    | nil => exact .nil
    | cons a as ih => exact .cons rfl ih
  have two : ∀ (j : Nat) (d : Addr), as[j]? = some d → ∃ x y u v, xs[j]? = some x ∧ ys[j]? = some y ∧ RelV x u ∧ RelV y v ∧ Tup h' d [u, v] := fun j d ej => by
    obtain ⟨vs, cv, tu⟩ := gt j d ej
    obtain ⟨u, v, hu, hv, rfl⟩ := chars_two cv
    have lj : j < as.length := (List.getElem?_eq_some_iff.mp ej).1
    have hu' : ia[j]? = some u := by simpa using hu
    have hv' : ib[j]? = some v := by simpa using hv
    obtain ⟨u2, e1, r1⟩ := ra.get (List.getElem?_eq_getElem (show j < xs.length by omega))
    obtain ⟨v2, e2, r2⟩ := rb.get (List.getElem?_eq_getElem (show j < ys.length by omega))
    rw [hu'] at e1
    rw [hv'] at e2
    cases e1
    cases e2
    exact ⟨_, _, u, v, List.getElem?_eq_getElem (show j < xs.length by omega), List.getElem?_eq_getElem (show j < ys.length by omega), r1, r2, tu⟩
  have HI := turnedMany (t' := tk) (H' := fun d => if d = L then some (.lst (as.map V.ref)) else if d ∈ as then some (.tup [xs.getD (as.idxOf d) .non, ys.getD (as.idxOf d) .non]) else H1 d) I1 kp (fun d u e => by
    have n1 : d ≠ L := fun q => by rw [q, fresh L gL] at e; cases e
    have n2 : d ∉ as := fun q => by rw [fresh d (ge d q)] at e; cases e
    simp [n1, n2, e]) (fun d u e => by
    by_cases q1 : d = L
    · simp only [q1, if_true] at e
      cases e
      refine .inr ⟨q1 ▸ gL, ?_⟩
      exact ⟨by rw [List.length_map, al]; omega, as.map Value.ref, c, vr as, q1 ▸ hL⟩
    · by_cases q2 : d ∈ as
      · simp only [q1, q2, if_true, if_false] at e
        cases e
        obtain ⟨x, y, u, v, e1, e2, r1, r2, tu⟩ := two _ d (ixd d q2)
        rw [List.getD_eq_getElem?_getD, List.getD_eq_getElem?_getD, e1, e2]
        exact .inr ⟨ge d q2, (by show 2 ≤ sizeLine; decide), [u, v], .cons r1 (.cons r2 .nil), ⟨_, tu, rfl, _, rfl⟩⟩
      · simp only [q1, q2, if_false] at e
        exact .inl e)
  refine ⟨.ref L, _, HI, rfl, q1 L as _ (fresh L gL) (fun a ha => fresh a (ge a ha)) LA al (by simp) (fun j d ej => ?_) (fun b n1 n2 => by simp [n1, n2])⟩
  have ma := List.mem_of_getElem? ej
  have nl' : d ≠ L := fun q => LA (q ▸ ma)
  obtain ⟨x, y, u, v, e1, e2, r1, r2, tu⟩ := two j d ej
  obtain ⟨x', y', u', v', e1', e2', r1', r2', tu'⟩ := two _ d (ixd d ma)
  unfold Tup at tu tu'
  rw [tu] at tu'
  have ev : u = u' ∧ v = v' := by simpa using tu'
  obtain ⟨rfl, rfl⟩ := ev
  refine ⟨x, y, e1, e2, ?_⟩
  simp only [nl', ma, if_true, if_false]
  rw [List.getD_eq_getElem?_getD, List.getD_eq_getElem?_getD, e1', e2', RelV.inj r1 r1', RelV.inj r2 r2']
  rfl
theorem repL_zip2 {α β : Type} {ms : List Addr} {H : Hp} {f : α → D} {g : β → D} : ∀ {xs : List α} {ys : List β} {vs us : List V} {as : List Addr}, repL ms H (xs.map f) vs → repL ms H (ys.map g) us → ys.length ≤ xs.length → as.length = ys.length → (∀ a ∈ as, a ∉ ms) →
    (∀ (j : Nat) (a : Addr), as[j]? = some a → ∃ x y, vs[j]? = some x ∧ us[j]? = some y ∧ H a = some (.tup [x, y])) → repL ms H ((List.zip xs ys).map fun p => D.tup [f p.1, g p.2]) (as.map V.ref)
  | xs, [], vs, us, as, r1, r2, l1, l2, na, hk => by
    have : as = [] := List.length_eq_zero_iff.mp l2
    subst this
    simp [repL]
  | [], y :: ys, vs, us, as, r1, r2, l1, l2, na, hk => by simp at l1
  | x :: xs, y :: ys, vs, us, [], r1, r2, l1, l2, na, hk => by simp at l2
  | x :: xs, y :: ys, vs, us, a :: as, r1, r2, l1, l2, na, hk => by
    simp only [List.map_cons, repL] at r1 r2
    obtain ⟨v, vs', rfl, a1, a2⟩ := r1
    obtain ⟨u, us', rfl, b1, b2⟩ := r2
    obtain ⟨x1, y1, e1, e2, ht⟩ := hk 0 a rfl
    cases e1
    cases e2
    simp only [List.zip_cons_cons, List.map_cons, repL, rep]
    exact ⟨_, _, rfl, ⟨a, _, rfl, na a (List.mem_cons_self ..), ht, _, _, rfl, a1, _, _, rfl, b1, rfl⟩, repL_zip2 a2 b2 (by simpa using l1) (by simpa using l2) (fun b hb => na b (List.mem_cons_of_mem _ hb)) (fun j b e => hk (j + 1) b e)⟩
theorem rep_zip2 {K : PySem.W.Frag} {α β : Type} {ms : List Addr} {ps : List PEn} {cs : List (Addr × List V)} {H0 H : Hp} {x y : V} {f : α → D} {g : β → D} {xs : List α} {ys : List β} {Q : VK} (hW : Wd ms ps cs H0 H)
    (h1 : rep ms H (.lst (xs.map f)) x) (h2 : rep ms H (.lst (ys.map g)) y) (hl : ys.length ≤ xs.length ∧ 1 ≤ ys.length)
    (k : ∀ (u : Addr) (H2 : Hp), Rx.Ext H H2 → rep ms H2 (.lst ((List.zip xs ys).map fun p => D.tup [f p.1, g p.2])) (.ref u) → Q (.ref u) H2) : rZip2 K [x, y] H Q := by
  simp only [rep] at h1 h2
  obtain ⟨a, vs, rfl, _, ha, r1⟩ := h1
  obtain ⟨b, us, rfl, _, hb, r2⟩ := h2
  have l1 := repL_len r1
  have l2 := repL_len r2
  rw [List.length_map] at l1 l2
  refine ⟨a, b, vs, us, rfl, .inl (.inl ha), .inl (.inl hb), by omega, by omega, fun L as H2 nL nA LA al hL hA hS => ?_⟩
  have e : Rx.Ext H H2 := by
    refine ⟨fun c o _ hc => ?_, fun _ h => absurd h List.not_mem_nil, fun c hc => ?_⟩
    · rw [hS c (fun z => by rw [z, nL] at hc; cases hc) (fun z => by rw [nA c z] at hc; cases hc)]
      exact hc
    · by_cases z : c = L
      · rw [z, hL]; simp
      · by_cases z2 : c ∈ as
        · obtain ⟨j, ej⟩ := List.getElem?_of_mem z2
          obtain ⟨_, _, _, _, ht⟩ := hA j c ej
          rw [ht]; simp
        · rw [hS c z z2]; exact hc
  refine k L H2 e ?_
  simp only [rep]
  exact ⟨L, _, rfl, fun z => hW.tr L z nL, hL, repL_zip2 (repL_ext e r1) (repL_ext e r2) hl.1 (by omega) (fun c hc z => hW.tr c z (nA c hc)) hA⟩
end
end Rx.Z2
namespace Rx
open PySem PySem.Spec PyProof.Rows L2
end Rx
namespace Rx
open PySem PySem.Spec PyProof.Rows L2
section
variable {ms : List Addr} {ps : List PEn} {H0 H H' : Hp} {L : Addr} {ks : List L2.Key} {ds : List D} {vs : List V} {u : V}
theorem rep_dctAt (h : rep ms H (.dct ks ds) u) : ∃ (L : Addr) (vs : List V), u = .ref L ∧ L ∉ ms ∧ H L = some (.dK (ks.zip vs)) ∧ ks.length = vs.length ∧ repL ms H ds vs := by
  rw [rep] at h
  exact h
theorem mo_freshR (w : Wd ms ps [] H0 H) (nl : H L = none) (hL : H' L = some (.dK (ks.zip vs))) (hl : ks.length = vs.length) (hr : repL ms H' ds vs) (hn : noMs ds = true) : MutO (L :: ms) ps H0 H' L (.dct ks ds) := by
  refine ⟨List.mem_cons_self, pot_new w nl, wd_none w nl, vs, hL, hl, repL_liftO dr_here ?_ ds vs hn hr⟩
  rw [hL]
  trivial
end
end Rx
namespace Rx
open PySem PySem.Spec PyProof.Rows L2
section
variable {X : Cx} {op op' : CmpOp} {ops : List CmpOp} {e e' a : Expr} {es : List Expr} {r : R2} {t ta : TE} {F : V → TE} {pos : Pos}
structure CH (X : Cx) (ops : List CmpOp) (es : List Expr) (F : V → TE) : Prop where
  asV : ∀ (pos : Pos) (pins : List (Addr × Obj)) (s : Shared) (σ : L2.St) (H : Hp) (x : V) (v : Value) (Q : VK), Inv X pins σ H s → RelV x v → F x σ H Q →
    wpAny (model X.prog X.w) X.A (compareChain pos v ops (evalEach es X.env)) (EP X pins σ Q) X.xe s
  asT : ∀ (pos : Pos) (pins : List (Addr × Obj)) (s : Shared) (σ : L2.St) (H : Hp) (x : V) (v : Value) (Q : Bool → Hp → Prop), Inv X pins σ H s → RelV x v → F x σ H (fun z H' => ∃ k, z = .bl k ∧ Q k H') →
    wpAny (model X.prog X.w) X.A (testChain pos v ops (evalEach es X.env)) (TP X pins σ Q) X.xe s
def fEnd (r : R2) (t : TE) : V → TE := fun x σ H Q => t σ H fun y H1 => r x y H1 Q
def fLink (r : R2) (t : TE) (F : V → TE) : V → TE := fun x σ H Q => t σ H fun y H1 => r x y H1 fun z H2 => ∃ k, z = .bl k ∧ (if k = true then F y σ H2 Q else Q (.bl false) H2)
theorem ch_end (h : OpR X (compareOp op) r) (p : PE X e t) : CH X [op] [e] (fEnd r t) where
  asV := by
    intro pos pins s σ H x v Q I rx hF
    apply chain_last
    apply thn (p.run pins s σ H _ I hF)
    rintro u s1 ⟨y, H1, I1, ry, hy⟩
    exact h pins s1 σ H1 x y v u Q I1 rx ry hy
  asT := by
    intro pos pins s σ H x v Q I rx hF
    apply test_last
    apply thn (p.run pins s σ H _ I hF)
    rintro u s1 ⟨y, H1, I1, ry, hy⟩
    apply thn (h pins s1 σ H1 x y v u _ I1 rx ry hy)
    rintro c s2 ⟨z, H2, I2, rz, k, rfl, hk⟩
    cases rz
    exact wpAny_truthy_bool ⟨H2, I2, hk⟩
theorem ch_link (h : OpR X (compareOp op) r) (p : PE X e t) (c : CH X (op' :: ops) (e' :: es) F) : CH X (op :: op' :: ops) (e :: e' :: es) (fLink r t F) where
  asV := by
    intro pos pins s σ H x v Q I rx hF
    apply chain_link
    apply thn (p.run pins s σ H _ I hF)
    rintro u s1 ⟨y, H1, I1, ry, hy⟩
    apply thn (h pins s1 σ H1 x y v u _ I1 rx ry hy)
    rintro b s2 ⟨z, H2, I2, rz, k, rfl, hk⟩
    cases rz
    apply wpAny_truthy_bool
    cases k
    · exact ite_ff ⟨.bl false, H2, I2, rfl, hk⟩
    · exact ite_tt (c.asV pos pins s2 σ H2 y u Q I2 ry hk)
  asT := by
    intro pos pins s σ H x v Q I rx hF
    apply test_link
    apply thn (p.run pins s σ H _ I hF)
    rintro u s1 ⟨y, H1, I1, ry, hy⟩
    apply thn (h pins s1 σ H1 x y v u _ I1 rx ry hy)
    rintro b s2 ⟨z, H2, I2, rz, k, rfl, hk⟩
    cases rz
    apply wpAny_truthy_bool
    cases k
    · obtain ⟨j, ej, hj⟩ := hk
      cases ej
      exact ite_ff ⟨H2, I2, hj⟩
    · exact ite_tt (c.asT pos pins s2 σ H2 y u Q I2 ry hk)
def tChN (ta : TE) (F : V → TE) : TE := fun σ H Q => ta σ H fun x H1 => F x σ H1 Q
theorem pt_chN (c : CH X (op :: op' :: ops) (e :: e' :: es) F) (p : PE X a ta) (hm : lastMarks (op :: op' :: ops) (e :: e' :: es) = false := by with_unfolding_all rfl) : PT X (.Compare a (op :: op' :: ops) (e :: e' :: es) pos) (tTest (tChN ta F)) := by
  constructor
  intro pins s σ H Q I hF
  refine isTrue_chain ?_ hm
  apply thn (p.run pins s σ H _ I hF)
  rintro v s1 ⟨x, H1, I1, rx, hx⟩
  exact c.asT pos pins s1 σ H1 x v Q I1 rx hx
end
end Rx
namespace Wm
open PySem PySem.Spec PyProof.Rows L2

abbrev L (z : Str) : List Nat := z.cps.toList
theorem len_L (z : Str) : z.length = (L z).length := by
  show z.cps.size = z.cps.toList.length
  simp
theorem L_mk (l : List Nat) : L ⟨l.toArray⟩ = l := by simp [L]
theorem L_ext {a b : Str} (h : L a = L b) : a = b := ext_toList h
theorem L_app (a b : Str) : L (a ++ b) = L a ++ L b := by
  show (a.cps ++ b.cps).toList = _
  simp [L]
theorem L_empty : L ("" : Str) = [] := by decide +kernel
theorem L_one (c : Nat) : L ⟨#[c]⟩ = [c] := by simp [L]
theorem h_mk : ("h" : Str) = ⟨#[104]⟩ := by decide +kernel
theorem a_mk : ("a" : Str) = ⟨#[97]⟩ := by decide +kernel
theorem eqS {a b : Str} : decide (V.str a = V.str b) = decide (L a = L b) := by
  by_cases h : a = b
  · subst h
    simp
  · rw [decide_eq_false (fun z => h (V.str.inj z)), decide_eq_false (fun z => h (L_ext z))]
theorem eqI {a b : Int} : decide (V.int a = V.int b) = decide (a = b) := by
  by_cases h : a = b
  · subst h
    simp
  · rw [decide_eq_false (fun z => h (V.int.inj z)), decide_eq_false h]

def cn (c : Nat) (l : List Nat) : Int := ((l.count c : Nat) : Int)
theorem cn_nil (c : Nat) : cn c [] = 0 := rfl
theorem cn_app (c : Nat) (a b : List Nat) : cn c (a ++ b) = cn c a + cn c b := by
  unfold cn
  rw [List.count_append]
  omega
theorem cn_cons (c x : Nat) (l : List Nat) : cn c (x :: l) = (if x = c then 1 else 0) + cn c l := by
  unfold cn
  rw [List.count_cons]
  by_cases h : x = c
  · simp [h]
    omega
  · simp [h]
theorem cn_pos (c : Nat) (l : List Nat) : 0 ≤ cn c l := by
  unfold cn
  omega
theorem cn_le (c : Nat) (l : List Nat) : cn c l ≤ l.length := by
  unfold cn
  have := List.count_le_length (a := c) (l := l)
  omega
theorem cnt_cn (c : Nat) : ∀ l : List Nat, cnt c l = cn c l
  | [] => by rw [cn_nil]; rfl
  | x :: l => by rw [cn_cons, cnt_cons, cnt_cn c l]
theorem count_h (x : Str) : Txt.count x ("h" : Str) = cn 104 (L x) := by rw [h_mk, count_cnt, cnt_cn]
theorem count_a (x : Str) : Txt.count x ("a" : Str) = cn 97 (L x) := by rw [a_mk, count_cnt, cnt_cn]
theorem marks_all : ∀ l : List Nat, (∀ c ∈ l, c = 104 ∨ c = 97) → cn 104 l + cn 97 l = l.length
  | [], _ => rfl
  | x :: l, h => by
    have ih := marks_all l fun c hc => h c (List.mem_cons_of_mem _ hc)
    rw [cn_cons, cn_cons, List.length_cons]
    rcases h x List.mem_cons_self with e | e <;> subst e <;> simp <;> omega

theorem cut_take (z : Str) {k : Int} (h : 0 ≤ k) : L (cutS z none (some k)) = (L z).take k.toNat := by
  unfold cutS
  rw [L_mk, HT.sIx_none, List.drop_zero, Nat.sub_zero]
  show List.take (if k < 0 then _ else min k.toNat z.length) z.cps.toList = _
  rw [if_neg (by omega)]
  rw [len_L]
  exact (List.take_eq_take_min).symm
theorem join_L (ys : List Str) : L (Txt.join ("" : Str) ys) = (ys.map L).flatten := by
  rw [TL.join_eq]
  show TL.tl (Str.join _ _) = _
  rw [TL.tl_join]
  show TL.joinL (L ("" : Str)) _ = _
  rw [L_empty]
  show _ = (ys.map TL.tl).flatten
  generalize ys.map TL.tl = ls
  induction ls with
  | nil => rfl
  | cons p ls ih =>
    cases ls with
    | nil => simp [TL.joinL]
    | cons q r =>
      show p ++ ([] ++ TL.joinL [] (q :: r)) = _
      rw [ih]
      simp

def cyc (m : List Nat) (k : Nat) : List Nat := (List.range k).map fun j => m.getD (j % m.length) 0
theorem cyc_len (m : List Nat) (k : Nat) : (cyc m k).length = k := by simp [cyc]
theorem cyc_get (m : List Nat) {k j : Nat} (h : j < k) : (cyc m k)[j]? = some (m.getD (j % m.length) 0) := by
  simp [cyc, List.getElem?_map, List.getElem?_range h]
theorem cyc_get' {m : List Nat} (hm : 0 < m.length) {k j : Nat} (h : j < k) : (cyc m k)[j]? = m[j % m.length]? := by
  rw [cyc_get m h]
  have := Nat.mod_lt j hm
  rw [List.getD_eq_getElem?_getD, List.getElem?_eq_getElem this]
  rfl
theorem cyc_take (m : List Nat) {k j : Nat} (h : j ≤ k) : (cyc m k).take j = cyc m j := by
  unfold cyc
  rw [← List.map_take, List.take_range, Nat.min_eq_left h]
theorem cyc_full {m : List Nat} : cyc m m.length = m := by
  apply List.ext_getElem?
  intro j
  by_cases h : j < m.length
  · rw [cyc_get' (by omega) h, Nat.mod_eq_of_lt h]
  · rw [List.getElem?_eq_none (by rw [cyc_len]; omega), List.getElem?_eq_none (by omega)]
theorem cyc_add {m : List Nat} (hm : 0 < m.length) (k : Nat) : cyc m (m.length + k) = m ++ cyc m k := by
  apply List.ext_getElem?
  intro j
  by_cases h : j < m.length
  · rw [cyc_get' hm (by omega), List.getElem?_append_left h, Nat.mod_eq_of_lt h]
  · rw [List.getElem?_append_right (by omega)]
    by_cases h2 : j < m.length + k
    · rw [cyc_get' hm h2, cyc_get' hm (by omega), Nat.mod_eq_sub_mod (by omega)]
    · rw [List.getElem?_eq_none (by rw [cyc_len]; omega), List.getElem?_eq_none (by rw [cyc_len]; omega)]
def cyn (c : Nat) (m : List Nat) (k : Nat) : Int := ((k / m.length : Nat) : Int) * cn c m + cn c (m.take (k % m.length))
theorem cyn_eq (c : Nat) {m : List Nat} (hm : 0 < m.length) : ∀ k : Nat, cn c (cyc m k) = cyn c m k := by
  intro k
  induction k using Nat.strongRecOn with
  | ind k ih =>
    by_cases h : k < m.length
    · unfold cyn
      rw [Nat.div_eq_of_lt h, Nat.mod_eq_of_lt h]
      have e : cyc m k = m.take k := by
        have := cyc_take m (Nat.le_of_lt h)
        rw [cyc_full] at this
        exact this.symm
      rw [e]
      show _ = ((0 : Nat) : Int) * _ + _
      omega
    · obtain ⟨j, rfl⟩ : ∃ j, k = m.length + j := ⟨k - m.length, by omega⟩
      rw [cyc_add hm, cn_app, ih j (by omega)]
      unfold cyn
      rw [Nat.add_mod_left, Nat.add_div_left _ hm]
      rw [show (((j / m.length + 1 : Nat) : Int)) = ((j / m.length : Nat) : Int) + 1 by omega, Int.add_mul]
      omega
theorem cyn_mul (c : Nat) {m : List Nat} (hm : 0 < m.length) (k : Nat) : cyn c m (k * m.length) = (k : Int) * cn c m := by
  unfold cyn
  rw [Nat.mul_div_cancel _ hm, Nat.mul_mod_left, List.take_zero, cn_nil]
  omega

def row (h m t : List Nat) (n : Nat) : List Nat := h ++ cyc m (n - h.length - t.length) ++ t
section
variable {h m t : List Nat} {n : Nat}
theorem row_len (hn : h.length + t.length ≤ n) : (row h m t n).length = n := by
  unfold row
  rw [List.length_append, List.length_append, cyc_len]
  omega
theorem row_head {j : Nat} (hj : j < h.length) : (row h m t n)[j]? = h[j]? := by
  unfold row
  rw [List.append_assoc, List.getElem?_append_left hj]
theorem row_mid {j : Nat} (hm : 0 < m.length) (hn : h.length + t.length ≤ n) (h1 : h.length ≤ j) (h2 : j < n - t.length) : (row h m t n)[j]? = m[(j - h.length) % m.length]? := by
  unfold row
  rw [List.append_assoc, List.getElem?_append_right h1, List.getElem?_append_left (by rw [cyc_len]; omega), cyc_get' hm (by omega)]
theorem row_tail {j : Nat} (hn : h.length + t.length ≤ n) (h1 : n - t.length ≤ j) : (row h m t n)[j]? = t[j - (n - t.length)]? := by
  unfold row
  rw [List.getElem?_append_right (by rw [List.length_append, cyc_len]; omega)]
  congr 1
  rw [List.length_append, cyc_len]
  omega
theorem cn_succ (c : Nat) {l : List Nat} {i x : Nat} (hx : l[i]? = some x) : cn c (l.take (i + 1)) = cn c (l.take i) + (if x = c then 1 else 0) := by
  rw [List.take_add_one, hx, cn_app]
  show _ + cn c [x] = _
  rw [cn_cons, cn_nil]
  omega
end

theorem cyc_end {m : List Nat} (hm : 0 < m.length) (k : Nat) : cyc m (k * m.length) ++ m = cyc m ((k + 1) * m.length) := by
  apply List.ext_getElem?
  intro j
  by_cases h : j < k * m.length
  · rw [List.getElem?_append_left (by rw [cyc_len]; exact h), cyc_get' hm h, cyc_get' hm (by rw [Nat.succ_mul]; omega)]
  · rw [List.getElem?_append_right (by rw [cyc_len]; omega), cyc_len]
    by_cases h2 : j < (k + 1) * m.length
    · rw [cyc_get' hm h2]
      rw [Nat.succ_mul] at h2
      obtain ⟨i, rfl⟩ : ∃ i, j = i + k * m.length := ⟨j - k * m.length, by omega⟩
      rw [Nat.add_mul_mod_self_right, Nat.mod_eq_of_lt (by omega)]
      congr 1
      omega
    · rw [List.getElem?_eq_none (by rw [Nat.succ_mul] at h2; omega), List.getElem?_eq_none (by rw [cyc_len]; omega)]

section
open Rx
variable {α β S : Type}
theorem mapC_ok {body : α → (β → Prop) → Prop} {k : List β → Prop} (g : α → β) : ∀ {xs : List α} {acc : List β}, (∀ x ∈ xs, ∀ k' : β → Prop, k' (g x) → body x k') → k (acc ++ xs.map g) → mapC body xs acc k
  | [], acc, _, q => by
    rw [List.map_nil, List.append_nil] at q
    exact q
  | x :: xs, acc, h, q => h x List.mem_cons_self _ (mapC_ok g (fun y hy => h y (List.mem_cons_of_mem _ hy)) (by rw [List.append_assoc]; exact q))
theorem mapC_any {body : α → (β → Prop) → Prop} {k : List β → Prop} (P : β → Prop) : ∀ {xs : List α} {acc : List β}, (∀ x ∈ xs, ∀ k' : β → Prop, (∀ y, P y → k' y) → body x k') → (∀ ys : List β, ys.length = xs.length → (∀ y ∈ ys, P y) → k (acc ++ ys)) → mapC body xs acc k
  | [], acc, _, q => by
    have := q [] rfl (fun _ h => absurd h List.not_mem_nil)
    rw [List.append_nil] at this
    exact this
  | x :: xs, acc, h, q => h x List.mem_cons_self _ fun y hy => mapC_any P (fun z hz => h z (List.mem_cons_of_mem _ hz)) fun ys hl hp => by
    rw [List.append_assoc]
    exact q (y :: ys) (congrArg Nat.succ hl) fun z hz => by
      rcases List.mem_cons.mp hz with e | hz
      · rw [e]
        exact hy
      · exact hp z hz
theorem filC_ok {body : α → (Option β → Prop) → Prop} {k : List β → Prop} (g : α → Option β) : ∀ {xs : List α} {acc : List β}, (∀ x ∈ xs, ∀ k' : Option β → Prop, k' (g x) → body x k') → k (acc ++ xs.filterMap g) → filC body xs acc k
  | [], acc, _, q => by
    rw [List.filterMap_nil, List.append_nil] at q
    exact q
  | x :: xs, acc, h, q => h x List.mem_cons_self _ (by
    show match g x with | some y => filC body xs (acc ++ [y]) k | none => filC body xs acc k
    cases e : g x with
    | none => exact filC_ok g (fun y hy => h y (List.mem_cons_of_mem _ hy)) (by rw [List.filterMap_cons_none e] at q; exact q)
    | some y => exact filC_ok g (fun y hy => h y (List.mem_cons_of_mem _ hy)) (by rw [List.filterMap_cons_some e] at q; rw [List.append_assoc]; exact q))
theorem forC_ok {body : α → S → (S → Prop) → Prop} {k : S → Prop} (I : S → Prop) : ∀ {xs : List α} {s0 : S}, (∀ x ∈ xs, ∀ (s : S) (k' : S → Prop), I s → (∀ s', I s' → k' s') → body x s k') → I s0 → (∀ s, I s → k s) → forC body xs s0 k
  | [], s0, _, i, q => q s0 i
  | x :: xs, s0, h, i, q => h x List.mem_cons_self s0 _ i fun s' i' => forC_ok I (fun y hy => h y (List.mem_cons_of_mem _ hy)) i' q
theorem rangeI_mem {lo hi x : Int} (h : x ∈ rangeI lo hi) : lo ≤ x ∧ x < hi := by
  unfold rangeI at h
  obtain ⟨i, hi', e⟩ := List.mem_map.mp h
  have := List.mem_range.mp hi'
  omega
end
end Wm

namespace Lw
open PySem PySem.Spec PyProof.Rows L2 Rx
abbrev St := L2.St
theorem sc_draw : FnScope ["_law_pot_here", "_law_many", "_law_digit"] ["_law_pot_here", "_law_many"] (defScope s_draw) := ⟨rfl, rfl, rfl, by decide +kernel, rfl, by decide +kernel, by decide +kernel⟩
theorem sc_pick : FnScope ["_law_pot_here", "_law_some"] ["_law_pot_here", "_law_some"] (defScope s_pick) := ⟨rfl, rfl, rfl, by decide +kernel, rfl, by decide +kernel, by decide +kernel⟩
theorem sc_marks : FnScope ["_law_pot_here", "_law_many", "_law_turn"] ["_law_pot_here", "_law_many"] (defScope s_marks) := ⟨rfl, rfl, rfl, by decide +kernel, rfl, by decide +kernel, by decide +kernel⟩
theorem sc_model : FnScope ["_law_pot_here", "_law_found"] ["_law_pot_here"] (defScope s_model) := ⟨rfl, rfl, rfl, by decide +kernel, rfl, by decide +kernel, by decide +kernel⟩
theorem sc_drawn : FnScope ["_law_pot_here", "_law_model_here"] ["_law_pot_here"] (defScope s_drawn) := ⟨rfl, rfl, rfl, by decide +kernel, rfl, by decide +kernel, by decide +kernel⟩
theorem sc_is_marks : FnScope ["value"] ["value"] (defScope s_is_marks) := ⟨rfl, rfl, rfl, by decide +kernel, rfl, by decide +kernel, by decide +kernel⟩
theorem sc_check_part : FnScope ["marks"] ["marks"] (defScope s_check_part) := ⟨rfl, rfl, rfl, by decide +kernel, rfl, by decide +kernel, by decide +kernel⟩
theorem sc_Word_init : FnScope ["self", "head", "middle", "tail"] ["self", "head", "middle", "tail"] (defScope s_Word_init) := ⟨rfl, rfl, rfl, by decide +kernel, rfl, by decide +kernel, by decide +kernel⟩
theorem sc_is_integer : FnScope ["value"] ["value"] (defScope s_is_integer) := ⟨rfl, rfl, rfl, by decide +kernel, rfl, by decide +kernel, by decide +kernel⟩
theorem sc_Rule_init : FnScope ["self", "step", "word", "stander", "turned"] ["self", "step", "word", "stander", "turned"] (defScope s_Rule_init) := ⟨rfl, rfl, rfl, by decide +kernel, rfl, by decide +kernel, by decide +kernel⟩
theorem sc_made : FnScope ["_law_model_here", "_law_word"] ["_law_model_here"] (defScope s_made) := ⟨rfl, rfl, rfl, by decide +kernel, rfl, by decide +kernel, by decide +kernel⟩
theorem sc_fewest : FnScope ["_law_model_here"] ["_law_model_here"] (defScope s_fewest) := ⟨rfl, rfl, rfl, by decide +kernel, rfl, by decide +kernel, by decide +kernel⟩
theorem sc_great : FnScope ["_law_pot_here", "_law_model_here", "_law_places"] ["_law_pot_here", "_law_model_here"] (defScope s_great) := ⟨rfl, rfl, rfl, by decide +kernel, rfl, by decide +kernel, by decide +kernel⟩
theorem sc_team : FnScope ["_law_pot_here", "_law_model_here", "_law_n", "_law_far"] ["_law_pot_here", "_law_model_here", "_law_n"] (defScope s_team) := ⟨rfl, rfl, rfl, by decide +kernel, rfl, by decide +kernel, by decide +kernel⟩
theorem sc_edge : FnScope ["_law_pot_here", "_law_model_here", "_law_n", "_law_team_now", "_law_ring", "_law_size_now", "_law_goal", "_law_way", "_law_found"] ["_law_pot_here", "_law_model_here", "_law_n", "_law_team_now"] (defScope s_edge) := ⟨rfl, rfl, rfl, by decide +kernel, rfl, by decide +kernel, by decide +kernel⟩
theorem sc_round : FnScope ["_law_pot_here", "_law_model_here", "_law_n", "_law_team_now", "_law_far"] ["_law_pot_here", "_law_model_here", "_law_n", "_law_team_now"] (defScope s_round) := ⟨rfl, rfl, rfl, by decide +kernel, rfl, by decide +kernel, by decide +kernel⟩
theorem sc_Word_least : FnScope ["self"] ["self"] (defScope s_Word_least) := ⟨rfl, rfl, rfl, by decide +kernel, rfl, by decide +kernel, by decide +kernel⟩
theorem sc_Rule_least_size : FnScope ["self"] ["self"] (defScope s_Rule_least_size) := ⟨rfl, rfl, rfl, by decide +kernel, rfl, by decide +kernel, by decide +kernel⟩
theorem sc_is_size : FnScope ["rule", "value"] ["rule", "value"] (defScope s_is_size) := ⟨rfl, rfl, rfl, by decide +kernel, rfl, by decide +kernel, by decide +kernel⟩
theorem sc_check_size : FnScope ["rule", "size"] ["rule", "size"] (defScope s_check_size) := ⟨rfl, rfl, rfl, by decide +kernel, rfl, by decide +kernel, by decide +kernel⟩
theorem sc_is_count : FnScope ["value"] ["value"] (defScope s_is_count) := ⟨rfl, rfl, rfl, by decide +kernel, rfl, by decide +kernel, by decide +kernel⟩
theorem sc_check_team : FnScope ["team", "teams"] ["team", "teams"] (defScope s_check_team) := ⟨rfl, rfl, rfl, by decide +kernel, rfl, by decide +kernel, by decide +kernel⟩
theorem sc_check_along : FnScope ["rule", "size", "team"] ["rule", "size", "team"] (defScope s_check_along) := ⟨rfl, rfl, rfl, by decide +kernel, rfl, by decide +kernel, by decide +kernel⟩
theorem sc_check_day : FnScope ["day", "rounds"] ["day", "rounds"] (defScope s_check_day) := ⟨rfl, rfl, rfl, by decide +kernel, rfl, by decide +kernel, by decide +kernel⟩
theorem sc_Rule_stander : FnScope ["self"] ["self"] (defScope s_Rule_stander) := ⟨rfl, rfl, rfl, by decide +kernel, rfl, by decide +kernel, by decide +kernel⟩
theorem sc_Rule_step : FnScope ["self"] ["self"] (defScope s_Rule_step) := ⟨rfl, rfl, rfl, by decide +kernel, rfl, by decide +kernel, by decide +kernel⟩
theorem sc_Rule_word : FnScope ["self"] ["self"] (defScope s_Rule_word) := ⟨rfl, rfl, rfl, by decide +kernel, rfl, by decide +kernel, by decide +kernel⟩
theorem sc_Word_head : FnScope ["self"] ["self"] (defScope s_Word_head) := ⟨rfl, rfl, rfl, by decide +kernel, rfl, by decide +kernel, by decide +kernel⟩
theorem sc_Word_tail : FnScope ["self"] ["self"] (defScope s_Word_tail) := ⟨rfl, rfl, rfl, by decide +kernel, rfl, by decide +kernel, by decide +kernel⟩
theorem sc_stretches : FnScope ["word", "places", "head", "inner", "lasts", "last"] ["word", "places"] (defScope s_stretches) := ⟨rfl, rfl, rfl, by decide +kernel, rfl, by decide +kernel, by decide +kernel⟩
theorem sc_check_seats : FnScope ["rule", "size", "team", "day"] ["rule", "size", "team", "day"] (defScope s_check_seats) := ⟨rfl, rfl, rfl, by decide +kernel, rfl, by decide +kernel, by decide +kernel⟩
theorem sc_stander_mark : FnScope ["rule", "day"] ["rule", "day"] (defScope s_stander_mark) := ⟨rfl, rfl, rfl, by decide +kernel, rfl, by decide +kernel, by decide +kernel⟩
theorem sc_seat : FnScope ["rule", "size", "team", "day", "place"] ["rule", "size", "team", "day"] (defScope s_seat) := ⟨rfl, rfl, rfl, by decide +kernel, rfl, by decide +kernel, by decide +kernel⟩
theorem sc_contrary_marks : FnScope ["marks", "mark"] ["marks"] (defScope s_contrary_marks) := ⟨rfl, rfl, rfl, by decide +kernel, rfl, by decide +kernel, by decide +kernel⟩
theorem sc_check_places : FnScope ["word", "places"] ["word", "places"] (defScope s_check_places) := ⟨rfl, rfl, rfl, by decide +kernel, rfl, by decide +kernel, by decide +kernel⟩
theorem sc_Word_mark : FnScope ["self", "places", "place", "ahead"] ["self", "places", "place"] (defScope s_Word_mark) := ⟨rfl, rfl, rfl, by decide +kernel, rfl, by decide +kernel, by decide +kernel⟩
theorem sc_Rule_turned : FnScope ["self"] ["self"] (defScope s_Rule_turned) := ⟨rfl, rfl, rfl, by decide +kernel, rfl, by decide +kernel, by decide +kernel⟩
theorem sc_turned_if : FnScope ["rule", "day", "marks"] ["rule", "day", "marks"] (defScope s_turned_if) := ⟨rfl, rfl, rfl, by decide +kernel, rfl, by decide +kernel, by decide +kernel⟩
theorem sc_mark_at : FnScope ["rule", "size", "at", "day", "mark"] ["rule", "size", "at", "day"] (defScope s_mark_at) := ⟨rfl, rfl, rfl, by decide +kernel, rfl, by decide +kernel, by decide +kernel⟩
theorem sc_mark_of : FnScope ["rule", "size", "team", "day"] ["rule", "size", "team", "day"] (defScope s_mark_of) := ⟨rfl, rfl, rfl, by decide +kernel, rfl, by decide +kernel, by decide +kernel⟩
theorem sc_marks_from : FnScope ["rule", "size", "team", "first", "last", "behind", "day"] ["rule", "size", "team", "first", "last"] (defScope s_marks_from) := ⟨rfl, rfl, rfl, by decide +kernel, rfl, by decide +kernel, by decide +kernel⟩
theorem sc_row : FnScope ["rule", "size", "team", "ring", "step", "begin", "told", "lap", "low", "high", "first", "last"] ["rule", "size", "team"] (defScope s_row) := ⟨rfl, rfl, rfl, by decide +kernel, rfl, by decide +kernel, by decide +kernel⟩
theorem sc_compared : FnScope ["marks", "others", "at", "mark"] ["marks", "others"] (defScope s_compared) := ⟨rfl, rfl, rfl, by decide +kernel, rfl, by decide +kernel, by decide +kernel⟩
theorem sc_likeness : FnScope ["pieces", "told", "nexts", "length", "marks", "behind", "_"] ["pieces"] (defScope s_likeness) := ⟨rfl, rfl, rfl, by decide +kernel, rfl, by decide +kernel, by decide +kernel⟩
theorem sc_times_said : FnScope ["marks", "mark", "many", "turns", "rest"] ["marks", "mark", "many"] (defScope s_times_said) := ⟨rfl, rfl, rfl, by decide +kernel, rfl, by decide +kernel, by decide +kernel⟩
theorem sc_times_until : FnScope ["pieces", "mark", "many", "times", "left", "length", "marks", "here"] ["pieces", "mark", "many"] (defScope s_times_until) := ⟨rfl, rfl, rfl, by decide +kernel, rfl, by decide +kernel, by decide +kernel⟩
theorem sc_position_said : FnScope ["marks", "mark", "number", "turns", "rest", "positions", "at", "said"] ["marks", "mark", "number"] (defScope s_position_said) := ⟨rfl, rfl, rfl, by decide +kernel, rfl, by decide +kernel, by decide +kernel⟩
theorem sc_position_of : FnScope ["pieces", "mark", "number", "left", "ahead", "length", "marks", "times"] ["pieces", "mark", "number"] (defScope s_position_of) := ⟨rfl, rfl, rfl, by decide +kernel, rfl, by decide +kernel, by decide +kernel⟩
theorem sc_stay_at : FnScope ["rule", "size", "team", "day", "alike", "ended", "first"] ["rule", "size", "team", "day"] (defScope s_stay_at) := ⟨rfl, rfl, rfl, by decide +kernel, rfl, by decide +kernel, by decide +kernel⟩
theorem sc_stander : FnScope ["_law_model_here", "_law_k"] ["_law_model_here", "_law_k"] (defScope s_stander) := ⟨rfl, rfl, rfl, by decide +kernel, rfl, by decide +kernel, by decide +kernel⟩
theorem sc_contrary : FnScope ["_law_sign_here"] ["_law_sign_here"] (defScope s_contrary) := ⟨rfl, rfl, rfl, by decide +kernel, rfl, by decide +kernel, by decide +kernel⟩
theorem sc_at : FnScope ["_law_model_here", "_law_places", "_law_k", "_law_head", "_law_tail"] ["_law_model_here", "_law_places", "_law_k"] (defScope s_at) := ⟨rfl, rfl, rfl, by decide +kernel, rfl, by decide +kernel, by decide +kernel⟩
theorem sc_sign : FnScope ["_law_model_here", "_law_n", "_law_team_now", "_law_k", "_law_spot", "_law_is_front", "_law_sign_here"] ["_law_model_here", "_law_n", "_law_team_now", "_law_k"] (defScope s_sign) := ⟨rfl, rfl, rfl, by decide +kernel, rfl, by decide +kernel, by decide +kernel⟩
theorem sc_ends_right : FnScope ["_law_model_here", "_law_n", "_law_team_now", "_law_stay", "_law_begin", "_law_end", "_law_sign_here"] ["_law_model_here", "_law_n", "_law_team_now", "_law_stay"] (defScope s_ends_right) := ⟨rfl, rfl, rfl, by decide +kernel, rfl, by decide +kernel, by decide +kernel⟩
theorem sc_check_rounds : FnScope ["size", "rounds"] ["size", "rounds"] (defScope s_check_rounds) := ⟨rfl, rfl, rfl, by decide +kernel, rfl, by decide +kernel, by decide +kernel⟩
theorem sc_breaks_until : FnScope ["rule", "size", "team", "rounds"] ["rule", "size", "team", "rounds"] (defScope s_breaks_until) := ⟨rfl, rfl, rfl, by decide +kernel, rfl, by decide +kernel, by decide +kernel⟩
theorem sc_homes_until : FnScope ["rule", "size", "team", "rounds"] ["rule", "size", "team", "rounds"] (defScope s_homes_until) := ⟨rfl, rfl, rfl, by decide +kernel, rfl, by decide +kernel, by decide +kernel⟩
theorem sc_stay_right : FnScope ["_law_pot_here", "_law_model_here", "_law_made_here", "_law_n", "_law_team_now", "_law_spot", "_law_stay", "_law_begin", "_law_end", "_law_long_one", "_law_homes", "_law_inner", "_law_k"] ["_law_pot_here", "_law_model_here", "_law_made_here", "_law_n", "_law_team_now", "_law_spot"] (defScope s_stay_right) := ⟨rfl, rfl, rfl, by decide +kernel, rfl, by decide +kernel, by decide +kernel⟩
theorem sc_right : FnScope ["_law_pot_here", "_law_turn", "_law_model_here", "_law_made_here", "_law_n", "_law_more", "_law_team_now", "_law_spot"] ["_law_pot_here"] (defScope s_right) := ⟨rfl, rfl, rfl, by decide +kernel, rfl, by decide +kernel, by decide +kernel⟩
theorem sc_pot : FnScope ["_law_script", "_law_k", "_law_seed"] ["_law_script", "_law_k"] (defScope s_pot) := ⟨rfl, rfl, rfl, by decide +kernel, rfl, by decide +kernel, by decide +kernel⟩
theorem sc_law : FnScope ["_law_script", "_law_k"] ["_law_script"] (defScope s_law) := ⟨rfl, rfl, rfl, by decide +kernel, rfl, by decide +kernel, by decide +kernel⟩
def wd_CONTRARIES : List (Str × Str) := [("h", "a"), ("a", "h")]
def wd_CONTRARY_STANDERS : List (Str × Str) := [("home", "away"), ("away", "home"), ("even", "odd"), ("odd", "even")]
def wd_STANDER_MARKS : List (Str × Str) := [("home", "hh"), ("away", "aa"), ("even", "ha"), ("odd", "ah")]
structure Ad where
  a_draw : Addr
  d_draw : FuncData
  a_pick : Addr
  d_pick : FuncData
  a_marks : Addr
  d_marks : FuncData
  a_model : Addr
  d_model : FuncData
  a_drawn : Addr
  d_drawn : FuncData
  a_is_marks : Addr
  d_is_marks : FuncData
  a_check_part : Addr
  d_check_part : FuncData
  a_Word_init : Addr
  d_Word_init : FuncData
  a_is_integer : Addr
  d_is_integer : FuncData
  a_Rule_init : Addr
  d_Rule_init : FuncData
  a_made : Addr
  d_made : FuncData
  a_fewest : Addr
  d_fewest : FuncData
  a_great : Addr
  d_great : FuncData
  a_team : Addr
  d_team : FuncData
  a_edge : Addr
  d_edge : FuncData
  a_round : Addr
  d_round : FuncData
  a_Word_least : Addr
  d_Word_least : FuncData
  a_Rule_least_size : Addr
  d_Rule_least_size : FuncData
  a_is_size : Addr
  d_is_size : FuncData
  a_check_size : Addr
  d_check_size : FuncData
  a_is_count : Addr
  d_is_count : FuncData
  a_check_team : Addr
  d_check_team : FuncData
  a_check_along : Addr
  d_check_along : FuncData
  a_check_day : Addr
  d_check_day : FuncData
  a_Rule_stander : Addr
  d_Rule_stander : FuncData
  a_Rule_step : Addr
  d_Rule_step : FuncData
  a_Rule_word : Addr
  d_Rule_word : FuncData
  a_Word_head : Addr
  d_Word_head : FuncData
  a_Word_tail : Addr
  d_Word_tail : FuncData
  a_stretches : Addr
  d_stretches : FuncData
  a_check_seats : Addr
  d_check_seats : FuncData
  a_stander_mark : Addr
  d_stander_mark : FuncData
  a_seat : Addr
  d_seat : FuncData
  a_contrary_marks : Addr
  d_contrary_marks : FuncData
  a_check_places : Addr
  d_check_places : FuncData
  a_Word_mark : Addr
  d_Word_mark : FuncData
  a_Rule_turned : Addr
  d_Rule_turned : FuncData
  a_turned_if : Addr
  d_turned_if : FuncData
  a_mark_at : Addr
  d_mark_at : FuncData
  a_mark_of : Addr
  d_mark_of : FuncData
  a_marks_from : Addr
  d_marks_from : FuncData
  a_row : Addr
  d_row : FuncData
  a_compared : Addr
  d_compared : FuncData
  a_likeness : Addr
  d_likeness : FuncData
  a_times_said : Addr
  d_times_said : FuncData
  a_times_until : Addr
  d_times_until : FuncData
  a_position_said : Addr
  d_position_said : FuncData
  a_position_of : Addr
  d_position_of : FuncData
  a_stay_at : Addr
  d_stay_at : FuncData
  a_stander : Addr
  d_stander : FuncData
  a_contrary : Addr
  d_contrary : FuncData
  a_at : Addr
  d_at : FuncData
  a_sign : Addr
  d_sign : FuncData
  a_ends_right : Addr
  d_ends_right : FuncData
  a_check_rounds : Addr
  d_check_rounds : FuncData
  a_breaks_until : Addr
  d_breaks_until : FuncData
  a_homes_until : Addr
  d_homes_until : FuncData
  a_stay_right : Addr
  d_stay_right : FuncData
  a_right : Addr
  d_right : FuncData
  a_pot : Addr
  d_pot : FuncData
  a_law : Addr
  d_law : FuncData
  c_Word : Addr
  c_Rule : Addr
  pa_Rule_least_size : Addr
  pa_Rule_stander : Addr
  pa_Rule_step : Addr
  pa_Rule_turned : Addr
  pa_Rule_word : Addr
  pa_Word_head : Addr
  pa_Word_least : Addr
  pa_Word_tail : Addr
  wd_CONTRARIES : Addr
  wd_CONTRARY_STANDERS : Addr
  wd_STANDER_MARKS : Addr
abbrev Ad.tbs (A : Ad) : List PEn := []
structure Txt (w : World) (K : PySem.W.Frag) (mg : Str → Option Value) (A : Ad) : Prop where
  nd_tb : (A.tbs.map Prod.fst).Nodup
  F_draw : Fun K "_law_draw" "_law_draw" s_draw A.a_draw A.d_draw
  b_draw : Binds K A.d_draw ["_law_pot_here", "_law_many"] []
  g_draw : mg "_law_draw" = some (.ref A.a_draw)
  F_pick : Fun K "_law_pick" "_law_pick" s_pick A.a_pick A.d_pick
  b_pick : Binds K A.d_pick ["_law_pot_here", "_law_some"] []
  g_pick : mg "_law_pick" = some (.ref A.a_pick)
  F_marks : Fun K "_law_marks" "_law_marks" s_marks A.a_marks A.d_marks
  b_marks : Binds K A.d_marks ["_law_pot_here", "_law_many"] []
  g_marks : mg "_law_marks" = some (.ref A.a_marks)
  F_model : Fun K "_law_model" "_law_model" s_model A.a_model A.d_model
  b_model : Binds K A.d_model ["_law_pot_here"] []
  g_model : mg "_law_model" = some (.ref A.a_model)
  F_drawn : Fun K "_law_drawn" "_law_drawn" s_drawn A.a_drawn A.d_drawn
  b_drawn : Binds K A.d_drawn ["_law_pot_here"] []
  g_drawn : mg "_law_drawn" = some (.ref A.a_drawn)
  F_is_marks : Fun K "is_marks" "is_marks" s_is_marks A.a_is_marks A.d_is_marks
  b_is_marks : Binds K A.d_is_marks ["value"] []
  g_is_marks : mg "is_marks" = some (.ref A.a_is_marks)
  F_check_part : Fun K "_check_part" "_check_part" s_check_part A.a_check_part A.d_check_part
  b_check_part : Binds K A.d_check_part ["marks"] []
  g_check_part : mg "_check_part" = some (.ref A.a_check_part)
  F_Word_init : Fun K "__init__" "Word.__init__" s_Word_init A.a_Word_init A.d_Word_init
  b_Word_init : Binds K A.d_Word_init ["self", "head", "middle", "tail"] []
  F_is_integer : Fun K "is_integer" "is_integer" s_is_integer A.a_is_integer A.d_is_integer
  b_is_integer : Binds K A.d_is_integer ["value"] []
  g_is_integer : mg "is_integer" = some (.ref A.a_is_integer)
  F_Rule_init : FunD K "__init__" "Rule.__init__" (defArgs s_Rule_init) (defBody s_Rule_init) (defScope s_Rule_init) [V.bl false] [] A.a_Rule_init A.d_Rule_init
  b_Rule_init : Binds K A.d_Rule_init ["self", "step", "word", "stander", "turned"] []
  F_made : Fun K "_law_made" "_law_made" s_made A.a_made A.d_made
  b_made : Binds K A.d_made ["_law_model_here"] []
  g_made : mg "_law_made" = some (.ref A.a_made)
  F_fewest : Fun K "_law_fewest" "_law_fewest" s_fewest A.a_fewest A.d_fewest
  b_fewest : Binds K A.d_fewest ["_law_model_here"] []
  g_fewest : mg "_law_fewest" = some (.ref A.a_fewest)
  F_great : Fun K "_law_great" "_law_great" s_great A.a_great A.d_great
  b_great : Binds K A.d_great ["_law_pot_here", "_law_model_here"] []
  g_great : mg "_law_great" = some (.ref A.a_great)
  F_team : Fun K "_law_team" "_law_team" s_team A.a_team A.d_team
  b_team : Binds K A.d_team ["_law_pot_here", "_law_model_here", "_law_n"] []
  g_team : mg "_law_team" = some (.ref A.a_team)
  F_edge : Fun K "_law_edge" "_law_edge" s_edge A.a_edge A.d_edge
  b_edge : Binds K A.d_edge ["_law_pot_here", "_law_model_here", "_law_n", "_law_team_now"] []
  g_edge : mg "_law_edge" = some (.ref A.a_edge)
  F_round : Fun K "_law_round" "_law_round" s_round A.a_round A.d_round
  b_round : Binds K A.d_round ["_law_pot_here", "_law_model_here", "_law_n", "_law_team_now"] []
  g_round : mg "_law_round" = some (.ref A.a_round)
  F_Word_least : Fun K "least" "Word.least" s_Word_least A.a_Word_least A.d_Word_least
  b_Word_least : Binds K A.d_Word_least ["self"] []
  p_Word_least : PropOf K A.c_Word "least" A.pa_Word_least A.a_Word_least
  F_Rule_least_size : Fun K "least_size" "Rule.least_size" s_Rule_least_size A.a_Rule_least_size A.d_Rule_least_size
  b_Rule_least_size : Binds K A.d_Rule_least_size ["self"] []
  p_Rule_least_size : PropOf K A.c_Rule "least_size" A.pa_Rule_least_size A.a_Rule_least_size
  F_is_size : Fun K "is_size" "is_size" s_is_size A.a_is_size A.d_is_size
  b_is_size : Binds K A.d_is_size ["rule", "value"] []
  g_is_size : mg "is_size" = some (.ref A.a_is_size)
  F_check_size : Fun K "check_size" "check_size" s_check_size A.a_check_size A.d_check_size
  b_check_size : Binds K A.d_check_size ["rule", "size"] []
  g_check_size : mg "check_size" = some (.ref A.a_check_size)
  F_is_count : Fun K "is_count" "is_count" s_is_count A.a_is_count A.d_is_count
  b_is_count : Binds K A.d_is_count ["value"] []
  g_is_count : mg "is_count" = some (.ref A.a_is_count)
  F_check_team : Fun K "check_team" "check_team" s_check_team A.a_check_team A.d_check_team
  b_check_team : Binds K A.d_check_team ["team", "teams"] []
  g_check_team : mg "check_team" = some (.ref A.a_check_team)
  F_check_along : Fun K "_check" "_check" s_check_along A.a_check_along A.d_check_along
  b_check_along : Binds K A.d_check_along ["rule", "size", "team"] []
  g_check_along : mg "check_along" = some (.ref A.a_check_along)
  F_check_day : Fun K "check_day" "check_day" s_check_day A.a_check_day A.d_check_day
  b_check_day : Binds K A.d_check_day ["day", "rounds"] []
  g_check_day : mg "check_day" = some (.ref A.a_check_day)
  F_Rule_stander : Fun K "stander" "Rule.stander" s_Rule_stander A.a_Rule_stander A.d_Rule_stander
  b_Rule_stander : Binds K A.d_Rule_stander ["self"] []
  p_Rule_stander : PropOf K A.c_Rule "stander" A.pa_Rule_stander A.a_Rule_stander
  F_Rule_step : Fun K "step" "Rule.step" s_Rule_step A.a_Rule_step A.d_Rule_step
  b_Rule_step : Binds K A.d_Rule_step ["self"] []
  p_Rule_step : PropOf K A.c_Rule "step" A.pa_Rule_step A.a_Rule_step
  F_Rule_word : Fun K "word" "Rule.word" s_Rule_word A.a_Rule_word A.d_Rule_word
  b_Rule_word : Binds K A.d_Rule_word ["self"] []
  p_Rule_word : PropOf K A.c_Rule "word" A.pa_Rule_word A.a_Rule_word
  F_Word_head : Fun K "head" "Word.head" s_Word_head A.a_Word_head A.d_Word_head
  b_Word_head : Binds K A.d_Word_head ["self"] []
  p_Word_head : PropOf K A.c_Word "head" A.pa_Word_head A.a_Word_head
  F_Word_tail : Fun K "tail" "Word.tail" s_Word_tail A.a_Word_tail A.d_Word_tail
  b_Word_tail : Binds K A.d_Word_tail ["self"] []
  p_Word_tail : PropOf K A.c_Word "tail" A.pa_Word_tail A.a_Word_tail
  F_stretches : Fun K "_stretches" "_stretches" s_stretches A.a_stretches A.d_stretches
  b_stretches : Binds K A.d_stretches ["word", "places"] []
  g_stretches : mg "_stretches" = some (.ref A.a_stretches)
  F_check_seats : Fun K "_check" "_check" s_check_seats A.a_check_seats A.d_check_seats
  b_check_seats : Binds K A.d_check_seats ["rule", "size", "team", "day"] []
  g_check_seats : mg "check_seats" = some (.ref A.a_check_seats)
  F_stander_mark : Fun K "stander_mark" "stander_mark" s_stander_mark A.a_stander_mark A.d_stander_mark
  b_stander_mark : Binds K A.d_stander_mark ["rule", "day"] []
  g_stander_mark : mg "stander_mark" = some (.ref A.a_stander_mark)
  F_seat : Fun K "_seat" "_seat" s_seat A.a_seat A.d_seat
  b_seat : Binds K A.d_seat ["rule", "size", "team", "day"] []
  g_seat : mg "_seat" = some (.ref A.a_seat)
  F_contrary_marks : Fun K "contrary_marks" "contrary_marks" s_contrary_marks A.a_contrary_marks A.d_contrary_marks
  b_contrary_marks : Binds K A.d_contrary_marks ["marks"] []
  g_contrary_marks : mg "contrary_marks" = some (.ref A.a_contrary_marks)
  F_check_places : Fun K "_check_places" "_check_places" s_check_places A.a_check_places A.d_check_places
  b_check_places : Binds K A.d_check_places ["word", "places"] []
  g_check_places : mg "_check_places" = some (.ref A.a_check_places)
  F_Word_mark : Fun K "mark" "Word.mark" s_Word_mark A.a_Word_mark A.d_Word_mark
  b_Word_mark : Binds K A.d_Word_mark ["self", "places", "place"] []
  m_Word_mark : Meth K A.c_Word "mark" A.a_Word_mark
  F_Rule_turned : Fun K "turned" "Rule.turned" s_Rule_turned A.a_Rule_turned A.d_Rule_turned
  b_Rule_turned : Binds K A.d_Rule_turned ["self"] []
  p_Rule_turned : PropOf K A.c_Rule "turned" A.pa_Rule_turned A.a_Rule_turned
  F_turned_if : Fun K "_turned_if" "_turned_if" s_turned_if A.a_turned_if A.d_turned_if
  b_turned_if : Binds K A.d_turned_if ["rule", "day", "marks"] []
  g_turned_if : mg "_turned_if" = some (.ref A.a_turned_if)
  F_mark_at : Fun K "_mark_at" "_mark_at" s_mark_at A.a_mark_at A.d_mark_at
  b_mark_at : Binds K A.d_mark_at ["rule", "size", "at", "day"] []
  g_mark_at : mg "_mark_at" = some (.ref A.a_mark_at)
  F_mark_of : Fun K "mark_of" "mark_of" s_mark_of A.a_mark_of A.d_mark_of
  b_mark_of : Binds K A.d_mark_of ["rule", "size", "team", "day"] []
  g_mark_of : mg "mark_of" = some (.ref A.a_mark_of)
  F_marks_from : Fun K "_marks_from" "_marks_from" s_marks_from A.a_marks_from A.d_marks_from
  b_marks_from : Binds K A.d_marks_from ["rule", "size", "team", "first", "last"] []
  g_marks_from : mg "_marks_from" = some (.ref A.a_marks_from)
  F_row : Fun K "_row" "_row" s_row A.a_row A.d_row
  b_row : Binds K A.d_row ["rule", "size", "team"] []
  g_row : mg "_row" = some (.ref A.a_row)
  F_compared : Fun K "_compared" "_compared" s_compared A.a_compared A.d_compared
  b_compared : Binds K A.d_compared ["marks", "others"] []
  g_compared : mg "_compared" = some (.ref A.a_compared)
  F_likeness : Fun K "likeness" "likeness" s_likeness A.a_likeness A.d_likeness
  b_likeness : Binds K A.d_likeness ["pieces"] []
  g_likeness : mg "likeness" = some (.ref A.a_likeness)
  F_times_said : Fun K "times_said" "times_said" s_times_said A.a_times_said A.d_times_said
  b_times_said : Binds K A.d_times_said ["marks", "mark", "many"] []
  g_times_said : mg "times_said" = some (.ref A.a_times_said)
  F_times_until : Fun K "times_until" "times_until" s_times_until A.a_times_until A.d_times_until
  b_times_until : Binds K A.d_times_until ["pieces", "mark", "many"] []
  g_times_until : mg "times_until" = some (.ref A.a_times_until)
  F_position_said : Fun K "_position_said" "_position_said" s_position_said A.a_position_said A.d_position_said
  b_position_said : Binds K A.d_position_said ["marks", "mark", "number"] []
  g_position_said : mg "_position_said" = some (.ref A.a_position_said)
  F_position_of : Fun K "position_of" "position_of" s_position_of A.a_position_of A.d_position_of
  b_position_of : Binds K A.d_position_of ["pieces", "mark", "number"] []
  g_position_of : mg "position_of" = some (.ref A.a_position_of)
  F_stay_at : Fun K "stay_at" "stay_at" s_stay_at A.a_stay_at A.d_stay_at
  b_stay_at : Binds K A.d_stay_at ["rule", "size", "team", "day"] []
  g_stay_at : mg "stay_at" = some (.ref A.a_stay_at)
  F_stander : Fun K "_law_stander" "_law_stander" s_stander A.a_stander A.d_stander
  b_stander : Binds K A.d_stander ["_law_model_here", "_law_k"] []
  g_stander : mg "_law_stander" = some (.ref A.a_stander)
  F_contrary : Fun K "_law_contrary" "_law_contrary" s_contrary A.a_contrary A.d_contrary
  b_contrary : Binds K A.d_contrary ["_law_sign_here"] []
  g_contrary : mg "_law_contrary" = some (.ref A.a_contrary)
  F_at : Fun K "_law_at" "_law_at" s_at A.a_at A.d_at
  b_at : Binds K A.d_at ["_law_model_here", "_law_places", "_law_k"] []
  g_at : mg "_law_at" = some (.ref A.a_at)
  F_sign : Fun K "_law_sign" "_law_sign" s_sign A.a_sign A.d_sign
  b_sign : Binds K A.d_sign ["_law_model_here", "_law_n", "_law_team_now", "_law_k"] []
  g_sign : mg "_law_sign" = some (.ref A.a_sign)
  F_ends_right : Fun K "_law_ends_right" "_law_ends_right" s_ends_right A.a_ends_right A.d_ends_right
  b_ends_right : Binds K A.d_ends_right ["_law_model_here", "_law_n", "_law_team_now", "_law_stay"] []
  g_ends_right : mg "_law_ends_right" = some (.ref A.a_ends_right)
  F_check_rounds : Fun K "_check_rounds" "_check_rounds" s_check_rounds A.a_check_rounds A.d_check_rounds
  b_check_rounds : Binds K A.d_check_rounds ["size", "rounds"] []
  g_check_rounds : mg "_check_rounds" = some (.ref A.a_check_rounds)
  F_breaks_until : Fun K "breaks_until" "breaks_until" s_breaks_until A.a_breaks_until A.d_breaks_until
  b_breaks_until : Binds K A.d_breaks_until ["rule", "size", "team", "rounds"] []
  g_breaks_until : mg "breaks_until" = some (.ref A.a_breaks_until)
  F_homes_until : Fun K "homes_until" "homes_until" s_homes_until A.a_homes_until A.d_homes_until
  b_homes_until : Binds K A.d_homes_until ["rule", "size", "team", "rounds"] []
  g_homes_until : mg "homes_until" = some (.ref A.a_homes_until)
  F_stay_right : Fun K "_law_stay_right" "_law_stay_right" s_stay_right A.a_stay_right A.d_stay_right
  b_stay_right : Binds K A.d_stay_right ["_law_pot_here", "_law_model_here", "_law_made_here", "_law_n", "_law_team_now", "_law_spot"] []
  g_stay_right : mg "_law_stay_right" = some (.ref A.a_stay_right)
  F_right : Fun K "_law_right" "_law_right" s_right A.a_right A.d_right
  b_right : Binds K A.d_right ["_law_pot_here"] []
  g_right : mg "_law_right" = some (.ref A.a_right)
  F_pot : Fun K "_law_pot" "_law_pot" s_pot A.a_pot A.d_pot
  b_pot : Binds K A.d_pot ["_law_script", "_law_k"] []
  g_pot : mg "_law_pot" = some (.ref A.a_pot)
  F_law : Fun K "law" "law" s_law A.a_law A.d_law
  b_law : Binds K A.d_law ["_law_script"] []
  g_law : mg "law" = some (.ref A.a_law)
  cl_Word : Cls K A.c_Word
  g_Word : mg "Word" = some (.ref A.c_Word)
  mk_Word : Mk K A.c_Word A.a_Word_init
  na_Word__head : NoAttr K A.c_Word "_head"
  na_Word__middle : NoAttr K A.c_Word "_middle"
  na_Word__tail : NoAttr K A.c_Word "_tail"
  cl_Rule : Cls K A.c_Rule
  g_Rule : mg "Rule" = some (.ref A.c_Rule)
  mk_Rule : Mk K A.c_Rule A.a_Rule_init
  na_Rule__step : NoAttr K A.c_Rule "_step"
  na_Rule__word : NoAttr K A.c_Rule "_word"
  na_Rule__stander : NoAttr K A.c_Rule "_stander"
  na_Rule__turned : NoAttr K A.c_Rule "_turned"
  g_CONTRARIES : mg "CONTRARIES" = some (.ref A.wd_CONTRARIES)
  kd_CONTRARIES : ∀ z c : Str, wd_CONTRARIES.lookup z = some c → KDct K w A.wd_CONTRARIES z (.str c)
  g_CONTRARY_STANDERS : mg "CONTRARY_STANDERS" = some (.ref A.wd_CONTRARY_STANDERS)
  kd_CONTRARY_STANDERS : ∀ z c : Str, wd_CONTRARY_STANDERS.lookup z = some c → KDct K w A.wd_CONTRARY_STANDERS z (.str c)
  g_STANDER_MARKS : mg "STANDER_MARKS" = some (.ref A.wd_STANDER_MARKS)
  kd_STANDER_MARKS : ∀ z c : Str, wd_STANDER_MARKS.lookup z = some c → KDct K w A.wd_STANDER_MARKS z (.str c)
  lo_CONTRARY_STANDERS : (A.wd_CONTRARY_STANDERS == sysModules) = false
  z_abs : mg "abs" = none
  z_all : mg "all" = none
  z_any : mg "any" = none
  z_bool : mg "bool" = none
  z_dict : mg "dict" = none
  z_divmod : mg "divmod" = none
  z_enumerate : mg "enumerate" = none
  z_int : mg "int" = none
  z_isinstance : mg "isinstance" = none
  z_len : mg "len" = none
  z_list : mg "list" = none
  z_max : mg "max" = none
  z_min : mg "min" = none
  z_range : mg "range" = none
  z_repr : mg "repr" = none
  z_set : mg "set" = none
  z_sorted : mg "sorted" = none
  z_str : mg "str" = none
  z_sum : mg "sum" = none
  z_tuple : mg "tuple" = none
  z_zip : mg "zip" = none
  c_MARKS_TOLD : ∃ u, mg "MARKS_TOLD" = some u ∧ RelV (.int 12) u
  c_MOST_MARKS : ∃ u, mg "MOST_MARKS" = some u ∧ RelV (.int 4) u
  c_MOST_STEP : ∃ u, mg "MOST_STEP" = some u ∧ RelV (.int 7) u
  c_OTHER : ∃ u, mg "OTHER" = some u ∧ RelV (.str "o") u
  c_SAME : ∃ u, mg "SAME" = some u ∧ RelV (.str "s") u
abbrev ns_Word : List Str := ["_head", "_middle", "_tail"]
theorem nd_Word : ns_Word.Nodup := by decide +kernel
abbrev eWord (A : Ad) (x : (Str × Str × Str)) : D := .ins A.c_Word ns_Word [(D.v (V.str x.1)), (D.v (V.str x.2.1)), (D.v (V.str x.2.2))]
abbrev ns_Rule : List Str := ["_step", "_word", "_stander", "_turned"]
theorem nd_Rule : ns_Rule.Nodup := by decide +kernel
abbrev eRule (A : Ad) (x : (Int × (Str × Str × Str) × Str × Bool)) : D := .ins A.c_Rule ns_Rule [(D.v (V.int x.1)), (eWord A x.2.1), (D.v (V.str x.2.2.1)), (D.v (V.bl x.2.2.2))]
/-! ### draws: any number below the size -/
def M_draw (x_size : Int) (KM : Int → Prop) : Prop := (0 < x_size ∧ x_size < 1073741824) ∧ ∀ d : Int, 0 ≤ d → d < x_size → KM d
def sp_draw (A : Ad) : Sp := fun vs H Q _ => ∃ (ms : List Addr) (ap : Addr) (x_size : Int) (KM : Int → Prop), vs = [.ref ap, V.int x_size] ∧ Wd ms [(ap, none)] [] H H ∧ M_draw x_size KM ∧ ∀ (r : Int) (u : V) (H1 : Hp), KM r → Ret [(ap, none)] H H1 → rep ms H1 (D.v (V.int r)) u → Q u H1
theorem ret_pot1 {H : Hp} {ap : Addr} {o : HO} {i j : Int} (ha : H ap = some o) (hj : j.natAbs < 4294967296) : Ret [(ap, none)] H (upd H ap (.lst [.int i, .int j])) := by
  refine ⟨fun a u n h => ?_, fun a h => ?_, fun a h => ?_⟩
  · rw [upd_ne (fun z => n (by rw [z]; exact List.mem_singleton.mpr rfl))]
    exact h
  · rw [List.mem_singleton.mp h]
    exact (⟨i, j, upd_same, hj⟩ : PotH _ _)
  · by_cases e : a = ap
    · rw [e, upd_same]
      exact fun z => nomatch z
    · rw [upd_ne e]
      exact h
theorem ret_pot2 {H : Hp} {ap p : Addr} {o u : HO} {i j : Int} (ha : H ap = some o) (np : H p = none) (hj : j.natAbs < 4294967296) : Ret [(ap, none)] H (upd (upd H p u) ap (.lst [.int i, .int j])) := by
  have e := Rx.Ext.new (o := u) np
  have h2 := ret_pot1 (i := i) (j := j) (e.keep ha) hj
  exact ⟨fun a w n h => h2.kp a w n (e.keep h), h2.pot, fun a h => h2.grow a (e.grow a h)⟩
theorem ok_draw {P : Program} {w : World} {K : PySem.W.Frag} {mg : Str → Option Value} {base : Heap} {A : Ad} (T : Txt w K mg A) : FnOk P w K mg base CX0 1 A.a_draw A.d_draw ["_law_pot_here", "_law_many"] (sp_draw A) := by
  refine T.F_draw.ok sc_draw (fun vs H Q E h => ?_) (fun cdv A_ outer s_ H_0 vs Q E hr h => ?_)
  · obtain ⟨ms, ap, x_size, KM, rfl, _⟩ := h
    rfl
  · obtain ⟨ms, ap, n, KM, rfl, hW, ⟨⟨n0, n1⟩, hM⟩, hQ⟩ := h
    obtain ⟨i, j, hp, hj⟩ : PotH _ ap := hW.pot (ap, none) (List.mem_singleton.mpr rfl)
    refine ⟨_, pss_cons (ps_if (pt_cmpR op_gt (pe_ix ix_list (pv 0) pe_int (fun _ _ => rfl)) pe_int (nomark _))
        (pss_cons (ps_asg (pe_callB call_divmod (by rfl) T.z_divmod (by decide +kernel) (pa_cons (pe_ix ix_list (pv 0) pe_int (fun _ _ => rfl)) (pa_cons (pv 1) pa_nil)))
            (pg_tup rfl (pgs_cons (pg_sub (pv 0) pe_int set_list) (pgs_cons (pg_name (i := 2) sc_draw.nd rfl (.inl rfl)) pgs_nil)))) (pss_one (ps_ret (pv 2)))) pss_nil)
      (pss_cons (ps_asg (pe_op op_mod (pe_callTy call_int1 (by rfl) T.z_int (by decide +kernel) (pa_cons (pe_op op_add (pe_op op_mul (pe_ix ix_list (pv 0) pe_int (fun _ _ => rfl)) pe_int) pe_int) pa_nil)) pe_int) (pg_sub (pv 0) pe_int set_list))
      (pss_one (ps_ret (pe_op op_mod (pe_callTy call_int1 (by rfl) T.z_int (by decide +kernel) (pa_cons (pe_op op_fdiv (pe_op op_mod (pe_callTy call_int1 (by rfl) T.z_int (by decide +kernel)
          (pa_cons (pe_op op_mul (pe_ix ix_list (pv 0) pe_int (fun _ _ => rfl)) (pe_ix ix_list (pv 0) pe_int (fun _ _ => rfl))) pa_nil)) pe_int) pe_int) pa_nil)) (pv 1))))), ?_⟩
    refine ⟨_, rfl, ap, _, 0, .int i, rfl, rfl, .inl (.inl hp), rfl, _, _, rfl, rfl, _, rfl, ?_⟩
    refine ite2 (fun c => ?_) (fun c => ?_)
    · refine ⟨_, rfl, ap, _, 0, .int i, rfl, rfl, .inl (.inl hp), rfl, _, rfl, _, _, rfl, ⟨n0, n1⟩, fun p np => ?_⟩
      have npa : ap ≠ p := ne_of_none hp np
      refine ⟨p, _, rfl, .inl (.inl upd_same), rfl, _, _, rfl, _, rfl, ap, _, 0, 0, rfl, rfl, (by rw [upd_ne npa]; exact hp), rfl, _, _, rfl, rfl, _, rfl, ?_⟩
      exact hQ (i % n) _ _ (hM _ (Int.emod_nonneg _ (by omega)) (Int.emod_lt_of_pos _ n0)) (ret_pot2 hp np hj) rep_v
    · refine ⟨_, rfl, ap, _, 1, .int j, rfl, rfl, .inl (.inl hp), rfl, _, _, rfl, rfl, .inr ⟨by decide, by decide⟩, _, _, rfl, rfl, .inl ⟨_, rfl, _, _, rfl, rfl, (by show (0 : Int) < 2147483629; decide), ?_⟩⟩
      refine ⟨_, rfl, ap, _, 1, 1, rfl, rfl, hp, rfl, ?_⟩
      refine ⟨_, rfl, ap, _, 1, _, rfl, rfl, .inl (.inl upd_same), rfl, _, rfl, ap, _, 1, _, rfl, rfl, .inl (.inl upd_same), rfl, _, _, rfl, rfl, .inl ⟨?_, ?_⟩, .inl ⟨_, rfl, _, _, rfl, rfl, (by show (0 : Int) < 2147483497; decide), _, _, rfl, rfl, ⟨by decide, by decide⟩, .inl ⟨_, rfl, _, rfl, _, _, rfl, rfl, n0, ?_⟩⟩⟩
      · omega
      · omega
      · refine hQ _ _ _ (hM _ (Int.emod_nonneg _ (by omega)) (Int.emod_lt_of_pos _ n0)) (ret_pot1 (i := i) hp ?_) rep_v
        omega

def M_pick (x_some : (List Int)) (KM : Int → Prop) : Prop :=
  (M_draw (x_some.length : Int) fun r1 => (0 ≤ r1 ∧ ∃ g7 : Int.toNat r1 < x_some.length, ∀ x9, x9 = x_some[Int.toNat r1]'g7 → (KM x9)))
def sp_pick (A : Ad) : Sp := fun vs H Q _ => ∃ (ms : List Addr) (ap : Addr) (v_some : V) (x_some : (List Int)) (KM : Int → Prop), vs = [.ref ap, v_some] ∧ Wd ms [(ap, none)] [] H H ∧ rep ms H (D.lst (x_some.map (fun y_ : Int => (D.v (V.int y_))))) v_some ∧ M_pick x_some KM ∧ ∀ (r : Int) (u : V) (H1 : Hp), KM r → Ret [(ap, none)] H H1 → rep ms H1 (D.v (V.int r)) u → Q u H1
set_option maxHeartbeats 16000000 in
theorem ok_pick {P : Program} {w : World} {K : PySem.W.Frag} {mg : Str → Option Value} {base : Heap} {A : Ad} (T : Txt w K mg A) : FnOk P w K mg base CX0 2 A.a_pick A.d_pick ["_law_pot_here", "_law_some"] (sp_pick A) := by
  refine T.F_pick.ok sc_pick (fun vs H Q E h => ?_) (fun cdv A_ outer s_ H_0 vs Q E hr h => ?_)
  · obtain ⟨ms, ap, v_some, x_some, KM, rfl, _⟩ := h
    rfl
  · obtain ⟨ms, ap, v_some, x_some, KM, rfl, hW, h_some, hM, hQ⟩ := h
    unfold M_pick at hM
    refine ⟨_, (pss_one (ps_ret (pe_ix (ix_listK (K := K) rfl) (pv 1) (pe_call (ok_draw T) (hr.mono (by decide)) (by rfl) T.g_draw T.F_draw.kp T.b_draw .nil pass0 (pa_cons (pv 0) (pa_cons (pe_callB (call_lenK (K := K) rfl) (by rfl) T.z_len PySem.boot_len (pa_cons (pv 1) pa_nil)) pa_nil))) (fun _ _ => rfl)))), ?_⟩
    refine ⟨_, rfl, ?_⟩
    refine ⟨_, rfl, ?_⟩
    refine ⟨_, rfl, ?_⟩
    apply rep_lenL (e := (fun y_ : Int => (D.v (V.int y_)))) (xs := x_some) h_some
    refine ⟨ms, ap, (x_some.length : Int), _, rfl, hW.enterP, hM, fun r1 u4 H5 hM e3 h2 => ?_⟩
    replace h_some := rep_ret hW e3 h_some
    replace hW := hW.retP e3
    obtain rfl := of_v h2
    obtain ⟨g6, g7, hM⟩ := hM
    apply rep_ixL (e := (fun y_ : Int => (D.v (V.int y_)))) (xs := x_some) h_some g6 g7
    intro u10 h8
    obtain ⟨x9, x9e⟩ : ∃ x_, x_ = x_some[Int.toNat r1]'g7 := ⟨_, rfl⟩
    rw [← x9e] at h8
    replace hM := hM x9 x9e
    obtain rfl := of_v h8
    exact hQ x9 _ _ hM hW.out rep_v
def M_pick_pls (x_some : (List Str)) (KM : Str → Prop) : Prop :=
  (M_draw (x_some.length : Int) fun r1 => (0 ≤ r1 ∧ ∃ g7 : Int.toNat r1 < x_some.length, ∀ x9, x9 = x_some[Int.toNat r1]'g7 → (KM x9)))
def sp_pick_pls (A : Ad) : Sp := fun vs H Q _ => ∃ (ms : List Addr) (ap : Addr) (v_some : V) (x_some : (List Str)) (KM : Str → Prop), vs = [.ref ap, v_some] ∧ Wd ms [(ap, none)] [] H H ∧ rep ms H (D.lst (x_some.map (fun y_ : Str => (D.v (V.str y_))))) v_some ∧ M_pick_pls x_some KM ∧ ∀ (r : Str) (u : V) (H1 : Hp), KM r → Ret [(ap, none)] H H1 → rep ms H1 (D.v (V.str r)) u → Q u H1
set_option maxHeartbeats 16000000 in
theorem ok_pick_pls {P : Program} {w : World} {K : PySem.W.Frag} {mg : Str → Option Value} {base : Heap} {A : Ad} (T : Txt w K mg A) : FnOk P w K mg base CX0 2 A.a_pick A.d_pick ["_law_pot_here", "_law_some"] (sp_pick_pls A) := by
  refine T.F_pick.ok sc_pick (fun vs H Q E h => ?_) (fun cdv A_ outer s_ H_0 vs Q E hr h => ?_)
  · obtain ⟨ms, ap, v_some, x_some, KM, rfl, _⟩ := h
    rfl
  · obtain ⟨ms, ap, v_some, x_some, KM, rfl, hW, h_some, hM, hQ⟩ := h
    unfold M_pick_pls at hM
    refine ⟨_, (pss_one (ps_ret (pe_ix (ix_listK (K := K) rfl) (pv 1) (pe_call (ok_draw T) (hr.mono (by decide)) (by rfl) T.g_draw T.F_draw.kp T.b_draw .nil pass0 (pa_cons (pv 0) (pa_cons (pe_callB (call_lenK (K := K) rfl) (by rfl) T.z_len PySem.boot_len (pa_cons (pv 1) pa_nil)) pa_nil))) (fun _ _ => rfl)))), ?_⟩
    refine ⟨_, rfl, ?_⟩
    refine ⟨_, rfl, ?_⟩
    refine ⟨_, rfl, ?_⟩
    apply rep_lenL (e := (fun y_ : Str => (D.v (V.str y_)))) (xs := x_some) h_some
    refine ⟨ms, ap, (x_some.length : Int), _, rfl, hW.enterP, hM, fun r1 u4 H5 hM e3 h2 => ?_⟩
    replace h_some := rep_ret hW e3 h_some
    replace hW := hW.retP e3
    obtain rfl := of_v h2
    obtain ⟨g6, g7, hM⟩ := hM
    apply rep_ixL (e := (fun y_ : Str => (D.v (V.str y_)))) (xs := x_some) h_some g6 g7
    intro u10 h8
    obtain ⟨x9, x9e⟩ : ∃ x_, x_ = x_some[Int.toNat r1]'g7 := ⟨_, rfl⟩
    rw [← x9e] at h8
    replace hM := hM x9 x9e
    obtain rfl := of_v h8
    exact hQ x9 _ _ hM hW.out rep_v
def M_marks (x_many : Int) (KM : Str → Prop) : Prop :=
  ((rangeI (0 : Int) x_many).length < 100000 ∧ mapC (fun (x12 : Int) (k5 : Str → Prop) => (M_pick_pls ([("h" : Str), ("a" : Str)] : List Str) fun r24 => (k5 r24))) (rangeI (0 : Int) x_many) [] fun ys34 => ((ys34.map (·.length)).sum + ys34.length * ("" : Str).length ≤ 16777216 ∧ (KM (Txt.join ("" : Str) ys34))))
def sp_marks (A : Ad) : Sp := fun vs H Q _ => ∃ (ms : List Addr) (ap : Addr) (x_many : Int) (KM : Str → Prop), vs = [.ref ap, V.int x_many] ∧ Wd ms [(ap, none)] [] H H ∧ M_marks x_many KM ∧ ∀ (r : Str) (u : V) (H1 : Hp), KM r → Ret [(ap, none)] H H1 → rep ms H1 (D.v (V.str r)) u → Q u H1
set_option maxHeartbeats 16000000 in
theorem ok_marks {P : Program} {w : World} {K : PySem.W.Frag} {mg : Str → Option Value} {base : Heap} {A : Ad} (T : Txt w K mg A) : FnOk P w K mg base CX0 3 A.a_marks A.d_marks ["_law_pot_here", "_law_many"] (sp_marks A) := by
  refine T.F_marks.ok sc_marks (fun vs H Q E h => ?_) (fun cdv A_ outer s_ H_0 vs Q E hr h => ?_)
  · obtain ⟨ms, ap, x_many, KM, rfl, _⟩ := h
    rfl
  · obtain ⟨ms, ap, x_many, KM, rfl, hW, hM, hQ⟩ := h
    unfold M_marks at hM
    refine ⟨_, (pss_one (ps_ret (pe_joinK (K := K) rfl pe_str (pe_lc (own := [("_law_turn", 2)]) (g := gName 2) rfl sc_marks.nd (pi_rangeW1 (by rfl) T.z_range (pa_cons (pv 1) pa_nil)) (blkOk_by (N := ["_law_pot_here", "_law_many", "_law_turn"]) (sc := defScope s_marks) (by decide +kernel)) (fun _ _ _ _ _ => pg_name (i := 2) sc_marks.nd rfl (by first | exact Or.inl rfl | exact Or.inr rfl)) (fun _ _ _ _ _ => pts_nil) (fun _ _ _ _ _ => (pe_call (ok_pick_pls T) (hr.mono (by decide)) (by rfl) T.g_pick T.F_pick.kp T.b_pick .nil pass0 (pa_cons (pv 0) (pa_cons (pe_lst (pa_cons pe_str (pa_cons pe_str pa_nil))) pa_nil)))))))), ?_⟩
    refine ⟨⟨_, rfl⟩, ?_⟩
    refine ⟨_, rfl, ?_⟩
    refine ⟨_, rfl, ?_⟩
    refine fun L1 nl2 => ?_
    have nm16 := nm_new hW nl2
    refine lc_rangeG (L := L1) (fun n_ ys_ h_ => Wd (L1 :: ms) [(ap, none)] [] H_0 h_ ∧ Keep (L1 :: ms) H_0 h_ ∧ MutO (L1 :: ms) [(ap, none)] H_0 h_ L1 (D.lst (ys_.map (fun y_ : Str => (D.v (V.str y_))))) ∧ ys_.length ≤ n_) (lo := (0 : Int)) (hi := x_many) (N := Int.toNat x_many) (by simp) hM ⟨wd_cell hW nl2, keep_cell nl2 Keep.refl, mo_newL (ds := []) hW nl2 repL_nil, Nat.le_refl _⟩ ?_ ?_
    · skip
      rintro x12  n3 ys4 k5 H17 hn ⟨hW, hk6, mu7, ln8⟩ hM Nx11 hN9
      refine ⟨rfl, ?_⟩
      refine tyes_of ?_
      refine ⟨_, rfl, ?_⟩
      refine ⟨(by show 2 ≤ sizeLine; decide), ?_⟩
      intro p18 n22
      have e19 := Rx.Ext.new (H := H17) (o := (HO.lst [V.str ("h" : Str), V.str ("a" : Str)])) n22
      have hp20 : upd H17 p18 (HO.lst [V.str ("h" : Str), V.str ("a" : Str)]) p18 = some (HO.lst [V.str ("h" : Str), V.str ("a" : Str)]) := upd_same
      generalize upd H17 p18 (HO.lst [V.str ("h" : Str), V.str ("a" : Str)]) = H23 at e19 hp20 ⊢
      have h21 : rep (L1 :: ms) H23 (D.lst (([("h" : Str), ("a" : Str)] : List Str).map (fun y_ : Str => (D.v (V.str y_))))) (.ref p18) := rep_lst_mk hW n22 e19 hp20 (repL_cons rep_v (repL_cons rep_v repL_nil))
      replace hk6 := keep_ext e19 hk6
      replace mu7 := mo_ext e19 mu7
      replace hW := hW.ret0 e19
      refine ⟨(L1 :: ms), ap, _, ([("h" : Str), ("a" : Str)] : List Str), _, rfl, hW.enterP, h21, hM, fun r24 u27 H28 hM e26 h25 => ?_⟩
      replace hk6 := keep_ret hW e26 hk6
      replace h21 := rep_ret hW e26 h21
      replace mu7 := mo_ret hW e26 mu7
      replace hW := hW.retP e26
      obtain rfl := of_v h25
      refine mo_end mu7 hn (by rw [List.length_map]; exact ln8) fun vs29 hr30 => ?_
      have mk32 := mo_setL mu7 (repL_snoc (e := (fun y_ : Str => (D.v (V.str y_)))) (xs := ys4) (y := r24) hr30 rep_v)
      replace hk6 := keep_put (o := .lst (vs29 ++ [V.str r24])) mu7.im hk6
      replace h21 := rep_put (o := .lst (vs29 ++ [V.str r24])) mu7.im h21
      replace hW := wd_put (o := .lst (vs29 ++ [V.str r24])) hW mu7
      replace mu7 := mk32
      generalize upd H28 L1 (.lst (vs29 ++ [V.str r24])) = H33 at *
      replace mu7 : MutO (L1 :: ms) [(ap, none)] H_0 H33 L1 (D.lst ((ys4 ++ [r24]).map (fun y_ : Str => (D.v (V.str y_))))) := mu7
      clear mk32
      exact hN9 r24 _ hM ⟨hW, hk6, mu7, by rw [List.length_append]; exact Nat.add_le_add_right ln8 1⟩
    · skip
      rintro n3 ys34 H35 hM ⟨hW, hk6, mu7, ln8⟩
      clear hk6 ln8
      have h36 := mo_rep_dr dr_here nm16 mu7
      replace hW := wd_dr dr_here mu7.hp hW
      clear mu7
      obtain ⟨g37, hM⟩ := hM
      apply rep_join (a := ("" : Str)) (ys := ys34) h36 g37
      exact hQ (Txt.join ("" : Str) ys34) _ _ hM hW.out rep_v
def M_model (KM : (Int × Str × Str × Str × Str × Bool) → Prop) : Prop :=
  (M_pick ([(1 : Int), (-(1 : Int)), (2 : Int), (-(2 : Int)), (3 : Int), (-(3 : Int)), (4 : Int), (-(4 : Int)), (5 : Int), (-(5 : Int)), (6 : Int), (-(6 : Int)), (7 : Int), (-(7 : Int))] : List Int) fun r12 => (M_draw (5 : Int) fun r19 => (M_marks r19 fun r24 => (M_draw (4 : Int) fun r34 => (M_marks ((1 : Int) + r34) fun r39 => (M_draw (5 : Int) fun r49 => (M_marks r49 fun r54 => (M_pick_pls ([("home" : Str), ("away" : Str), ("even" : Str), ("odd" : Str)] : List Str) fun r70 => (M_draw (2 : Int) fun r80 => (KM (r12, r24, r39, r54, r70, (decide (V.int r80 = V.int (1 : Int))))))))))))))
def sp_model (A : Ad) : Sp := fun vs H Q _ => ∃ (ms : List Addr) (ap : Addr) (KM : (Int × Str × Str × Str × Str × Bool) → Prop), vs = [.ref ap] ∧ Wd ms [(ap, none)] [] H H ∧ M_model  KM ∧ ∀ (r : (Int × Str × Str × Str × Str × Bool)) (u : V) (H1 : Hp), KM r → Ret [(ap, none)] H H1 → rep ms H1 (D.dct [(Sum.inr ("step" : Str) : Key), (Sum.inr ("head" : Str) : Key), (Sum.inr ("middle" : Str) : Key), (Sum.inr ("tail" : Str) : Key), (Sum.inr ("stander" : Str) : Key), (Sum.inr ("turned" : Str) : Key)] [(D.v (V.int r.1)), (D.v (V.str r.2.1)), (D.v (V.str r.2.2.1)), (D.v (V.str r.2.2.2.1)), (D.v (V.str r.2.2.2.2.1)), (D.v (V.bl r.2.2.2.2.2))]) u → (∀ p_, u = V.ref p_ → H p_ = none) → Q u H1
set_option maxHeartbeats 16000000 in
theorem ok_model {P : Program} {w : World} {K : PySem.W.Frag} {mg : Str → Option Value} {base : Heap} {A : Ad} (T : Txt w K mg A) : FnOk P w K mg base CX0 4 A.a_model A.d_model ["_law_pot_here"] (sp_model A) := by
  refine T.F_model.ok sc_model (fun vs H Q E h => ?_) (fun cdv A_ outer s_ H_0 vs Q E hr h => ?_)
  · obtain ⟨ms, ap, KM, rfl, _⟩ := h
    rfl
  · obtain ⟨ms, ap, KM, rfl, hW, hM, hQ⟩ := h
    unfold M_model at hM
    refine ⟨_, (pss_cons (ps_set (i := 1) sc_model.nd rfl (by first | exact Or.inl rfl | exact Or.inr rfl) (pe_disp (pps_cons pe_str (pe_call (ok_pick T) (hr.mono (by decide)) (by rfl) T.g_pick T.F_pick.kp T.b_pick .nil pass0 (pa_cons (pv 0) (pa_cons (pe_lst (pa_cons pe_int (pa_cons (pe_un un_neg pe_int) (pa_cons pe_int (pa_cons (pe_un un_neg pe_int) (pa_cons pe_int (pa_cons (pe_un un_neg pe_int) (pa_cons pe_int (pa_cons (pe_un un_neg pe_int) (pa_cons pe_int (pa_cons (pe_un un_neg pe_int) (pa_cons pe_int (pa_cons (pe_un un_neg pe_int) (pa_cons pe_int (pa_cons (pe_un un_neg pe_int) pa_nil))))))))))))))) pa_nil))) pps_nil) rfl rfl (by simp) (by decide))) (pss_cons (ps_asg (pe_call (ok_marks T) (hr.mono (by decide)) (by rfl) T.g_marks T.F_marks.kp T.b_marks .nil pass0 (pa_cons (pv 0) (pa_cons (pe_call (ok_draw T) (hr.mono (by decide)) (by rfl) T.g_draw T.F_draw.kp T.b_draw .nil pass0 (pa_cons (pv 0) (pa_cons pe_int pa_nil))) pa_nil))) (pg_sub (pv 1) pe_str (set_dict (hu_of hr)))) (pss_cons (ps_asg (pe_call (ok_marks T) (hr.mono (by decide)) (by rfl) T.g_marks T.F_marks.kp T.b_marks .nil pass0 (pa_cons (pv 0) (pa_cons (pe_op op_add pe_int (pe_call (ok_draw T) (hr.mono (by decide)) (by rfl) T.g_draw T.F_draw.kp T.b_draw .nil pass0 (pa_cons (pv 0) (pa_cons pe_int pa_nil)))) pa_nil))) (pg_sub (pv 1) pe_str (set_dict (hu_of hr)))) (pss_cons (ps_asg (pe_call (ok_marks T) (hr.mono (by decide)) (by rfl) T.g_marks T.F_marks.kp T.b_marks .nil pass0 (pa_cons (pv 0) (pa_cons (pe_call (ok_draw T) (hr.mono (by decide)) (by rfl) T.g_draw T.F_draw.kp T.b_draw .nil pass0 (pa_cons (pv 0) (pa_cons pe_int pa_nil))) pa_nil))) (pg_sub (pv 1) pe_str (set_dict (hu_of hr)))) (pss_cons (ps_asg (pe_call (ok_pick_pls T) (hr.mono (by decide)) (by rfl) T.g_pick T.F_pick.kp T.b_pick .nil pass0 (pa_cons (pv 0) (pa_cons (pe_lst (pa_cons pe_str (pa_cons pe_str (pa_cons pe_str (pa_cons pe_str pa_nil))))) pa_nil))) (pg_sub (pv 1) pe_str (set_dict (hu_of hr)))) (pss_cons (ps_asg (pe_cmpR op_eq (pe_call (ok_draw T) (hr.mono (by decide)) (by rfl) T.g_draw T.F_draw.kp T.b_draw .nil pass0 (pa_cons (pv 0) (pa_cons pe_int pa_nil))) pe_int (nomark _)) (pg_sub (pv 1) pe_str (set_dict (hu_of hr)))) (pss_one (ps_ret (pv 1))))))))), ?_⟩
    intro L1 nl2
    have nm3 := nm_new hW nl2
    have mu4 := mo_nilD hW nl2
    replace hW := wd_cell (o := .dK []) hW nl2
    generalize upd H_0 L1 (.dK []) = H5 at *
    replace mu4 : MutO (L1 :: ms) [(ap, none)] H_0 H5 L1 (D.dct [] []) := mu4
    refine ⟨_, rfl, ?_⟩
    refine ⟨_, rfl, ?_⟩
    refine ⟨_, rfl, ?_⟩
    refine ⟨_, rfl, ?_⟩
    refine ⟨_, rfl, ?_⟩
    refine ⟨_, rfl, ?_⟩
    refine ⟨_, rfl, ?_⟩
    refine ⟨_, rfl, ?_⟩
    refine ⟨(by show 14 ≤ sizeLine; decide), ?_⟩
    intro p6 n10
    have e7 := Rx.Ext.new (H := H5) (o := (HO.lst [V.int (1 : Int), V.int (-(1 : Int)), V.int (2 : Int), V.int (-(2 : Int)), V.int (3 : Int), V.int (-(3 : Int)), V.int (4 : Int), V.int (-(4 : Int)), V.int (5 : Int), V.int (-(5 : Int)), V.int (6 : Int), V.int (-(6 : Int)), V.int (7 : Int), V.int (-(7 : Int))])) n10
    have hp8 : upd H5 p6 (HO.lst [V.int (1 : Int), V.int (-(1 : Int)), V.int (2 : Int), V.int (-(2 : Int)), V.int (3 : Int), V.int (-(3 : Int)), V.int (4 : Int), V.int (-(4 : Int)), V.int (5 : Int), V.int (-(5 : Int)), V.int (6 : Int), V.int (-(6 : Int)), V.int (7 : Int), V.int (-(7 : Int))]) p6 = some (HO.lst [V.int (1 : Int), V.int (-(1 : Int)), V.int (2 : Int), V.int (-(2 : Int)), V.int (3 : Int), V.int (-(3 : Int)), V.int (4 : Int), V.int (-(4 : Int)), V.int (5 : Int), V.int (-(5 : Int)), V.int (6 : Int), V.int (-(6 : Int)), V.int (7 : Int), V.int (-(7 : Int))]) := upd_same
    generalize upd H5 p6 (HO.lst [V.int (1 : Int), V.int (-(1 : Int)), V.int (2 : Int), V.int (-(2 : Int)), V.int (3 : Int), V.int (-(3 : Int)), V.int (4 : Int), V.int (-(4 : Int)), V.int (5 : Int), V.int (-(5 : Int)), V.int (6 : Int), V.int (-(6 : Int)), V.int (7 : Int), V.int (-(7 : Int))]) = H11 at e7 hp8 ⊢
    have h9 : rep (L1 :: ms) H11 (D.lst (([(1 : Int), (-(1 : Int)), (2 : Int), (-(2 : Int)), (3 : Int), (-(3 : Int)), (4 : Int), (-(4 : Int)), (5 : Int), (-(5 : Int)), (6 : Int), (-(6 : Int)), (7 : Int), (-(7 : Int))] : List Int).map (fun y_ : Int => (D.v (V.int y_))))) (.ref p6) := rep_lst_mk hW n10 e7 hp8 (repL_cons rep_v (repL_cons rep_v (repL_cons rep_v (repL_cons rep_v (repL_cons rep_v (repL_cons rep_v (repL_cons rep_v (repL_cons rep_v (repL_cons rep_v (repL_cons rep_v (repL_cons rep_v (repL_cons rep_v (repL_cons rep_v (repL_cons rep_v repL_nil))))))))))))))
    replace mu4 := mo_ext e7 mu4
    replace hW := hW.ret0 e7
    refine ⟨(L1 :: ms), ap, _, ([(1 : Int), (-(1 : Int)), (2 : Int), (-(2 : Int)), (3 : Int), (-(3 : Int)), (4 : Int), (-(4 : Int)), (5 : Int), (-(5 : Int)), (6 : Int), (-(6 : Int)), (7 : Int), (-(7 : Int))] : List Int), _, rfl, hW.enterP, h9, hM, fun r12 u15 H16 hM e14 h13 => ?_⟩
    replace h9 := rep_ret hW e14 h9
    replace mu4 := mo_ret hW e14 mu4
    replace hW := hW.retP e14
    obtain rfl := of_v h13
    refine ⟨mo_dK0 mu4, List.zip [(Sum.inr ("step" : Str) : Key)] [V.int r12], rfl, (by show 1 ≤ 15; decide), ?_⟩
    rw [merge_zip (ks := [(Sum.inr ("step" : Str) : Key)]) (vs := [V.int r12]) rfl (by decide +kernel)]
    have mk17 := mo_setD (ks := [(Sum.inr ("step" : Str) : Key)]) (vs := [V.int r12]) mu4 rfl (repL_cons rep_v repL_nil)
    replace h9 := rep_put (o := .dK (List.zip [(Sum.inr ("step" : Str) : Key)] [V.int r12])) mu4.im h9
    replace hW := wd_put (o := .dK (List.zip [(Sum.inr ("step" : Str) : Key)] [V.int r12])) hW mu4
    replace mu4 := mk17
    generalize upd H16 L1 (.dK (List.zip [(Sum.inr ("step" : Str) : Key)] [V.int r12])) = H18 at *
    replace mu4 : MutO (L1 :: ms) [(ap, none)] H_0 H18 L1 (D.dct [(Sum.inr ("step" : Str) : Key)] [(D.v (V.int r12))]) := mu4
    clear mk17
    refine ⟨_, rfl, ?_⟩
    refine ⟨_, rfl, ?_⟩
    refine ⟨(L1 :: ms), ap, (5 : Int), _, rfl, hW.enterP, hM, fun r19 u22 H23 hM e21 h20 => ?_⟩
    replace h9 := rep_ret hW e21 h9
    replace mu4 := mo_ret hW e21 mu4
    replace hW := hW.retP e21
    obtain rfl := of_v h20
    refine ⟨(L1 :: ms), ap, r19, _, rfl, hW.enterP, hM, fun r24 u27 H28 hM e26 h25 => ?_⟩
    replace h9 := rep_ret hW e26 h9
    replace mu4 := mo_ret hW e26 mu4
    replace hW := hW.retP e26
    obtain rfl := of_v h25
    refine ⟨_, rfl, ?_⟩
    apply mo_putU (k := (Sum.inr ("head" : Str) : Key)) mu4 (nin_of (by decide +kernel)) (by show 1 < 16777216; decide)
    intro vs29 hl30 hr31
    have mk32 := mo_setD (ks := [(Sum.inr ("step" : Str) : Key)] ++ [(Sum.inr ("head" : Str) : Key)]) mu4 (by rw [List.length_append, List.length_append, hl30]; rfl) (repL_app hr31 (repL_one (rep_v (x := V.str r24))))
    replace h9 := rep_put (o := .dK (List.zip ([(Sum.inr ("step" : Str) : Key)] ++ [(Sum.inr ("head" : Str) : Key)]) (vs29 ++ [V.str r24]))) mu4.im h9
    replace hW := wd_put (o := .dK (List.zip ([(Sum.inr ("step" : Str) : Key)] ++ [(Sum.inr ("head" : Str) : Key)]) (vs29 ++ [V.str r24]))) hW mu4
    replace mu4 := mk32
    generalize upd H28 L1 (.dK (List.zip ([(Sum.inr ("step" : Str) : Key)] ++ [(Sum.inr ("head" : Str) : Key)]) (vs29 ++ [V.str r24]))) = H33 at *
    replace mu4 : MutO (L1 :: ms) [(ap, none)] H_0 H33 L1 (D.dct [(Sum.inr ("step" : Str) : Key), (Sum.inr ("head" : Str) : Key)] [(D.v (V.int (r12, r24).1)), (D.v (V.str (r12, r24).2))]) := mu4
    clear mk32
    refine ⟨_, rfl, ?_⟩
    refine ⟨_, rfl, ?_⟩
    refine ⟨(L1 :: ms), ap, (4 : Int), _, rfl, hW.enterP, hM, fun r34 u37 H38 hM e36 h35 => ?_⟩
    replace h9 := rep_ret hW e36 h9
    replace mu4 := mo_ret hW e36 mu4
    replace hW := hW.retP e36
    obtain rfl := of_v h35
    refine ⟨_, _, rfl, rfl, ?_⟩
    refine ⟨(L1 :: ms), ap, ((1 : Int) + r34), _, rfl, hW.enterP, hM, fun r39 u42 H43 hM e41 h40 => ?_⟩
    replace h9 := rep_ret hW e41 h9
    replace mu4 := mo_ret hW e41 mu4
    replace hW := hW.retP e41
    obtain rfl := of_v h40
    refine ⟨_, rfl, ?_⟩
    apply mo_putU (k := (Sum.inr ("middle" : Str) : Key)) mu4 (nin_of (by decide +kernel)) (by show 2 < 16777216; decide)
    intro vs44 hl45 hr46
    have mk47 := mo_setD (ks := [(Sum.inr ("step" : Str) : Key), (Sum.inr ("head" : Str) : Key)] ++ [(Sum.inr ("middle" : Str) : Key)]) mu4 (by rw [List.length_append, List.length_append, hl45]; rfl) (repL_app hr46 (repL_one (rep_v (x := V.str r39))))
    replace h9 := rep_put (o := .dK (List.zip ([(Sum.inr ("step" : Str) : Key), (Sum.inr ("head" : Str) : Key)] ++ [(Sum.inr ("middle" : Str) : Key)]) (vs44 ++ [V.str r39]))) mu4.im h9
    replace hW := wd_put (o := .dK (List.zip ([(Sum.inr ("step" : Str) : Key), (Sum.inr ("head" : Str) : Key)] ++ [(Sum.inr ("middle" : Str) : Key)]) (vs44 ++ [V.str r39]))) hW mu4
    replace mu4 := mk47
    generalize upd H43 L1 (.dK (List.zip ([(Sum.inr ("step" : Str) : Key), (Sum.inr ("head" : Str) : Key)] ++ [(Sum.inr ("middle" : Str) : Key)]) (vs44 ++ [V.str r39]))) = H48 at *
    replace mu4 : MutO (L1 :: ms) [(ap, none)] H_0 H48 L1 (D.dct [(Sum.inr ("step" : Str) : Key), (Sum.inr ("head" : Str) : Key), (Sum.inr ("middle" : Str) : Key)] [(D.v (V.int (r12, r24, r39).1)), (D.v (V.str (r12, r24, r39).2.1)), (D.v (V.str (r12, r24, r39).2.2))]) := mu4
    clear mk47
    refine ⟨_, rfl, ?_⟩
    refine ⟨_, rfl, ?_⟩
    refine ⟨(L1 :: ms), ap, (5 : Int), _, rfl, hW.enterP, hM, fun r49 u52 H53 hM e51 h50 => ?_⟩
    replace h9 := rep_ret hW e51 h9
    replace mu4 := mo_ret hW e51 mu4
    replace hW := hW.retP e51
    obtain rfl := of_v h50
    refine ⟨(L1 :: ms), ap, r49, _, rfl, hW.enterP, hM, fun r54 u57 H58 hM e56 h55 => ?_⟩
    replace h9 := rep_ret hW e56 h9
    replace mu4 := mo_ret hW e56 mu4
    replace hW := hW.retP e56
    obtain rfl := of_v h55
    refine ⟨_, rfl, ?_⟩
    apply mo_putU (k := (Sum.inr ("tail" : Str) : Key)) mu4 (nin_of (by decide +kernel)) (by show 3 < 16777216; decide)
    intro vs59 hl60 hr61
    have mk62 := mo_setD (ks := [(Sum.inr ("step" : Str) : Key), (Sum.inr ("head" : Str) : Key), (Sum.inr ("middle" : Str) : Key)] ++ [(Sum.inr ("tail" : Str) : Key)]) mu4 (by rw [List.length_append, List.length_append, hl60]; rfl) (repL_app hr61 (repL_one (rep_v (x := V.str r54))))
    replace h9 := rep_put (o := .dK (List.zip ([(Sum.inr ("step" : Str) : Key), (Sum.inr ("head" : Str) : Key), (Sum.inr ("middle" : Str) : Key)] ++ [(Sum.inr ("tail" : Str) : Key)]) (vs59 ++ [V.str r54]))) mu4.im h9
    replace hW := wd_put (o := .dK (List.zip ([(Sum.inr ("step" : Str) : Key), (Sum.inr ("head" : Str) : Key), (Sum.inr ("middle" : Str) : Key)] ++ [(Sum.inr ("tail" : Str) : Key)]) (vs59 ++ [V.str r54]))) hW mu4
    replace mu4 := mk62
    generalize upd H58 L1 (.dK (List.zip ([(Sum.inr ("step" : Str) : Key), (Sum.inr ("head" : Str) : Key), (Sum.inr ("middle" : Str) : Key)] ++ [(Sum.inr ("tail" : Str) : Key)]) (vs59 ++ [V.str r54]))) = H63 at *
    replace mu4 : MutO (L1 :: ms) [(ap, none)] H_0 H63 L1 (D.dct [(Sum.inr ("step" : Str) : Key), (Sum.inr ("head" : Str) : Key), (Sum.inr ("middle" : Str) : Key), (Sum.inr ("tail" : Str) : Key)] [(D.v (V.int (r12, r24, r39, r54).1)), (D.v (V.str (r12, r24, r39, r54).2.1)), (D.v (V.str (r12, r24, r39, r54).2.2.1)), (D.v (V.str (r12, r24, r39, r54).2.2.2))]) := mu4
    clear mk62
    refine ⟨_, rfl, ?_⟩
    refine ⟨(by show 4 ≤ sizeLine; decide), ?_⟩
    intro p64 n68
    have e65 := Rx.Ext.new (H := H63) (o := (HO.lst [V.str ("home" : Str), V.str ("away" : Str), V.str ("even" : Str), V.str ("odd" : Str)])) n68
    have hp66 : upd H63 p64 (HO.lst [V.str ("home" : Str), V.str ("away" : Str), V.str ("even" : Str), V.str ("odd" : Str)]) p64 = some (HO.lst [V.str ("home" : Str), V.str ("away" : Str), V.str ("even" : Str), V.str ("odd" : Str)]) := upd_same
    generalize upd H63 p64 (HO.lst [V.str ("home" : Str), V.str ("away" : Str), V.str ("even" : Str), V.str ("odd" : Str)]) = H69 at e65 hp66 ⊢
    have h67 : rep (L1 :: ms) H69 (D.lst (([("home" : Str), ("away" : Str), ("even" : Str), ("odd" : Str)] : List Str).map (fun y_ : Str => (D.v (V.str y_))))) (.ref p64) := rep_lst_mk hW n68 e65 hp66 (repL_cons rep_v (repL_cons rep_v (repL_cons rep_v (repL_cons rep_v repL_nil))))
    replace h9 := rep_ext e65 h9
    replace mu4 := mo_ext e65 mu4
    replace hW := hW.ret0 e65
    refine ⟨(L1 :: ms), ap, _, ([("home" : Str), ("away" : Str), ("even" : Str), ("odd" : Str)] : List Str), _, rfl, hW.enterP, h67, hM, fun r70 u73 H74 hM e72 h71 => ?_⟩
    replace h9 := rep_ret hW e72 h9
    replace h67 := rep_ret hW e72 h67
    replace mu4 := mo_ret hW e72 mu4
    replace hW := hW.retP e72
    obtain rfl := of_v h71
    refine ⟨_, rfl, ?_⟩
    apply mo_putU (k := (Sum.inr ("stander" : Str) : Key)) mu4 (nin_of (by decide +kernel)) (by show 4 < 16777216; decide)
    intro vs75 hl76 hr77
    have mk78 := mo_setD (ks := [(Sum.inr ("step" : Str) : Key), (Sum.inr ("head" : Str) : Key), (Sum.inr ("middle" : Str) : Key), (Sum.inr ("tail" : Str) : Key)] ++ [(Sum.inr ("stander" : Str) : Key)]) mu4 (by rw [List.length_append, List.length_append, hl76]; rfl) (repL_app hr77 (repL_one (rep_v (x := V.str r70))))
    replace h9 := rep_put (o := .dK (List.zip ([(Sum.inr ("step" : Str) : Key), (Sum.inr ("head" : Str) : Key), (Sum.inr ("middle" : Str) : Key), (Sum.inr ("tail" : Str) : Key)] ++ [(Sum.inr ("stander" : Str) : Key)]) (vs75 ++ [V.str r70]))) mu4.im h9
    replace h67 := rep_put (o := .dK (List.zip ([(Sum.inr ("step" : Str) : Key), (Sum.inr ("head" : Str) : Key), (Sum.inr ("middle" : Str) : Key), (Sum.inr ("tail" : Str) : Key)] ++ [(Sum.inr ("stander" : Str) : Key)]) (vs75 ++ [V.str r70]))) mu4.im h67
    replace hW := wd_put (o := .dK (List.zip ([(Sum.inr ("step" : Str) : Key), (Sum.inr ("head" : Str) : Key), (Sum.inr ("middle" : Str) : Key), (Sum.inr ("tail" : Str) : Key)] ++ [(Sum.inr ("stander" : Str) : Key)]) (vs75 ++ [V.str r70]))) hW mu4
    replace mu4 := mk78
    generalize upd H74 L1 (.dK (List.zip ([(Sum.inr ("step" : Str) : Key), (Sum.inr ("head" : Str) : Key), (Sum.inr ("middle" : Str) : Key), (Sum.inr ("tail" : Str) : Key)] ++ [(Sum.inr ("stander" : Str) : Key)]) (vs75 ++ [V.str r70]))) = H79 at *
    replace mu4 : MutO (L1 :: ms) [(ap, none)] H_0 H79 L1 (D.dct [(Sum.inr ("step" : Str) : Key), (Sum.inr ("head" : Str) : Key), (Sum.inr ("middle" : Str) : Key), (Sum.inr ("tail" : Str) : Key), (Sum.inr ("stander" : Str) : Key)] [(D.v (V.int (r12, r24, r39, r54, r70).1)), (D.v (V.str (r12, r24, r39, r54, r70).2.1)), (D.v (V.str (r12, r24, r39, r54, r70).2.2.1)), (D.v (V.str (r12, r24, r39, r54, r70).2.2.2.1)), (D.v (V.str (r12, r24, r39, r54, r70).2.2.2.2))]) := mu4
    clear mk78
    refine ⟨_, rfl, ?_⟩
    refine ⟨(L1 :: ms), ap, (2 : Int), _, rfl, hW.enterP, hM, fun r80 u83 H84 hM e82 h81 => ?_⟩
    replace h9 := rep_ret hW e82 h9
    replace h67 := rep_ret hW e82 h67
    replace mu4 := mo_ret hW e82 mu4
    replace hW := hW.retP e82
    obtain rfl := of_v h81
    refine ⟨rfl, ?_⟩
    refine ⟨_, rfl, ?_⟩
    apply mo_putU (k := (Sum.inr ("turned" : Str) : Key)) mu4 (nin_of (by decide +kernel)) (by show 5 < 16777216; decide)
    intro vs85 hl86 hr87
    have mk88 := mo_setD (ks := [(Sum.inr ("step" : Str) : Key), (Sum.inr ("head" : Str) : Key), (Sum.inr ("middle" : Str) : Key), (Sum.inr ("tail" : Str) : Key), (Sum.inr ("stander" : Str) : Key)] ++ [(Sum.inr ("turned" : Str) : Key)]) mu4 (by rw [List.length_append, List.length_append, hl86]; rfl) (repL_app hr87 (repL_one (rep_v (x := V.bl (decide (V.int r80 = V.int (1 : Int)))))))
    replace h9 := rep_put (o := .dK (List.zip ([(Sum.inr ("step" : Str) : Key), (Sum.inr ("head" : Str) : Key), (Sum.inr ("middle" : Str) : Key), (Sum.inr ("tail" : Str) : Key), (Sum.inr ("stander" : Str) : Key)] ++ [(Sum.inr ("turned" : Str) : Key)]) (vs85 ++ [V.bl (decide (V.int r80 = V.int (1 : Int)))]))) mu4.im h9
    replace h67 := rep_put (o := .dK (List.zip ([(Sum.inr ("step" : Str) : Key), (Sum.inr ("head" : Str) : Key), (Sum.inr ("middle" : Str) : Key), (Sum.inr ("tail" : Str) : Key), (Sum.inr ("stander" : Str) : Key)] ++ [(Sum.inr ("turned" : Str) : Key)]) (vs85 ++ [V.bl (decide (V.int r80 = V.int (1 : Int)))]))) mu4.im h67
    replace hW := wd_put (o := .dK (List.zip ([(Sum.inr ("step" : Str) : Key), (Sum.inr ("head" : Str) : Key), (Sum.inr ("middle" : Str) : Key), (Sum.inr ("tail" : Str) : Key), (Sum.inr ("stander" : Str) : Key)] ++ [(Sum.inr ("turned" : Str) : Key)]) (vs85 ++ [V.bl (decide (V.int r80 = V.int (1 : Int)))]))) hW mu4
    replace mu4 := mk88
    generalize upd H84 L1 (.dK (List.zip ([(Sum.inr ("step" : Str) : Key), (Sum.inr ("head" : Str) : Key), (Sum.inr ("middle" : Str) : Key), (Sum.inr ("tail" : Str) : Key), (Sum.inr ("stander" : Str) : Key)] ++ [(Sum.inr ("turned" : Str) : Key)]) (vs85 ++ [V.bl (decide (V.int r80 = V.int (1 : Int)))]))) = H89 at *
    replace mu4 : MutO (L1 :: ms) [(ap, none)] H_0 H89 L1 (D.dct [(Sum.inr ("step" : Str) : Key), (Sum.inr ("head" : Str) : Key), (Sum.inr ("middle" : Str) : Key), (Sum.inr ("tail" : Str) : Key), (Sum.inr ("stander" : Str) : Key), (Sum.inr ("turned" : Str) : Key)] [(D.v (V.int (r12, r24, r39, r54, r70, (decide (V.int r80 = V.int (1 : Int)))).1)), (D.v (V.str (r12, r24, r39, r54, r70, (decide (V.int r80 = V.int (1 : Int)))).2.1)), (D.v (V.str (r12, r24, r39, r54, r70, (decide (V.int r80 = V.int (1 : Int)))).2.2.1)), (D.v (V.str (r12, r24, r39, r54, r70, (decide (V.int r80 = V.int (1 : Int)))).2.2.2.1)), (D.v (V.str (r12, r24, r39, r54, r70, (decide (V.int r80 = V.int (1 : Int)))).2.2.2.2.1)), (D.v (V.bl (r12, r24, r39, r54, r70, (decide (V.int r80 = V.int (1 : Int)))).2.2.2.2.2))]) := mu4
    clear mk88
    refine ⟨_, rfl, ?_⟩
    have hfr_ := mu4.h0
    have h90 := mo_rep_dr dr_here nm3 mu4
    replace hW := wd_dr dr_here mu4.hp hW
    replace h9 := rep_dr dr_here h9
    replace h67 := rep_dr dr_here h67
    clear mu4
    exact hQ (r12, r24, r39, r54, r70, (decide (V.int r80 = V.int (1 : Int)))) _ _ hM hW.out h90 (fun _ z_ => by cases z_; exact hfr_)
def M_drawn (KM : (Int × Str × Str × Str × Str × Bool) → Prop) : Prop :=
  (M_model  fun r1 => (M_draw (4 : Int) fun r15 => (if (decide ((0 : Int) < r15)) = true then (M_pick_pls ([("h" : Str), ("a" : Str), ("ha" : Str), ("ah" : Str), ("hhaa" : Str), ("haah" : Str), ("haha" : Str), ("hha" : Str)] : List Str) fun r26 => (KM (r1.1, r1.2.1, r26, r1.2.2.2.1, r1.2.2.2.2.1, r1.2.2.2.2.2))) else (KM r1))))
def sp_drawn (A : Ad) : Sp := fun vs H Q _ => ∃ (ms : List Addr) (ap : Addr) (KM : (Int × Str × Str × Str × Str × Bool) → Prop), vs = [.ref ap] ∧ Wd ms [(ap, none)] [] H H ∧ M_drawn  KM ∧ ∀ (r : (Int × Str × Str × Str × Str × Bool)) (u : V) (H1 : Hp), KM r → Ret [(ap, none)] H H1 → rep ms H1 (D.dct [(Sum.inr ("step" : Str) : Key), (Sum.inr ("head" : Str) : Key), (Sum.inr ("middle" : Str) : Key), (Sum.inr ("tail" : Str) : Key), (Sum.inr ("stander" : Str) : Key), (Sum.inr ("turned" : Str) : Key)] [(D.v (V.int r.1)), (D.v (V.str r.2.1)), (D.v (V.str r.2.2.1)), (D.v (V.str r.2.2.2.1)), (D.v (V.str r.2.2.2.2.1)), (D.v (V.bl r.2.2.2.2.2))]) u → Q u H1
set_option maxHeartbeats 16000000 in
theorem ok_drawn {P : Program} {w : World} {K : PySem.W.Frag} {mg : Str → Option Value} {base : Heap} {A : Ad} (T : Txt w K mg A) : FnOk P w K mg base CX0 5 A.a_drawn A.d_drawn ["_law_pot_here"] (sp_drawn A) := by
  refine T.F_drawn.ok sc_drawn (fun vs H Q E h => ?_) (fun cdv A_ outer s_ H_0 vs Q E hr h => ?_)
  · obtain ⟨ms, ap, KM, rfl, _⟩ := h
    rfl
  · obtain ⟨ms, ap, KM, rfl, hW, hM, hQ⟩ := h
    unfold M_drawn at hM
    refine ⟨_, (pss_cons (ps_set (i := 1) sc_drawn.nd rfl (by first | exact Or.inl rfl | exact Or.inr rfl) (pe_call (ok_model T) (hr.mono (by decide)) (by rfl) T.g_model T.F_model.kp T.b_model .nil pass0 (pa_cons (pv 0) pa_nil))) (pss_cons (ps_if (pt_cmpR op_gt (pe_call (ok_draw T) (hr.mono (by decide)) (by rfl) T.g_draw T.F_draw.kp T.b_draw .nil pass0 (pa_cons (pv 0) (pa_cons pe_int pa_nil))) pe_int (nomark _)) (pss_one (ps_asg (pe_call (ok_pick_pls T) (hr.mono (by decide)) (by rfl) T.g_pick T.F_pick.kp T.b_pick .nil pass0 (pa_cons (pv 0) (pa_cons (pe_lst (pa_cons pe_str (pa_cons pe_str (pa_cons pe_str (pa_cons pe_str (pa_cons pe_str (pa_cons pe_str (pa_cons pe_str (pa_cons pe_str pa_nil))))))))) pa_nil))) (pg_sub (pv 1) pe_str (set_dict (hu_of hr))))) pss_nil) (pss_one (ps_ret (pv 1))))), ?_⟩
    refine ⟨_, rfl, ?_⟩
    refine ⟨ms, ap, _, rfl, hW.enterP, hM, fun r1 u4 H5 hM e3 h2 hfr6 => ?_⟩
    obtain ⟨L7, vs8, rfl, nm10, hv11, hl12, hr13⟩ := rep_dctAt h2
    have nl9 := hfr6 L7 rfl
    have mu14 := mo_freshR hW nl9 hv11 hl12 hr13 (by rfl)
    replace hW := wd_fresh (hW.retP e3) hv11
    refine ⟨_, rfl, ?_⟩
    refine ⟨(L7 :: ms), ap, (4 : Int), _, rfl, hW.enterP, hM, fun r15 u18 H19 hM e17 h16 => ?_⟩
    replace mu14 := mo_ret hW e17 mu14
    replace hW := hW.retP e17
    obtain rfl := of_v h16
    refine ⟨_, _, rfl, rfl, ?_⟩
    refine ⟨_, rfl, ?_⟩
    refine ite3 hM (fun hM => ?_) (fun hM => ?_)
    · skip
      refine ⟨_, rfl, ?_⟩
      refine ⟨(by show 8 ≤ sizeLine; decide), ?_⟩
      intro p20 n24
      have e21 := Rx.Ext.new (H := H19) (o := (HO.lst [V.str ("h" : Str), V.str ("a" : Str), V.str ("ha" : Str), V.str ("ah" : Str), V.str ("hhaa" : Str), V.str ("haah" : Str), V.str ("haha" : Str), V.str ("hha" : Str)])) n24
      have hp22 : upd H19 p20 (HO.lst [V.str ("h" : Str), V.str ("a" : Str), V.str ("ha" : Str), V.str ("ah" : Str), V.str ("hhaa" : Str), V.str ("haah" : Str), V.str ("haha" : Str), V.str ("hha" : Str)]) p20 = some (HO.lst [V.str ("h" : Str), V.str ("a" : Str), V.str ("ha" : Str), V.str ("ah" : Str), V.str ("hhaa" : Str), V.str ("haah" : Str), V.str ("haha" : Str), V.str ("hha" : Str)]) := upd_same
      generalize upd H19 p20 (HO.lst [V.str ("h" : Str), V.str ("a" : Str), V.str ("ha" : Str), V.str ("ah" : Str), V.str ("hhaa" : Str), V.str ("haah" : Str), V.str ("haha" : Str), V.str ("hha" : Str)]) = H25 at e21 hp22 ⊢
      have h23 : rep (L7 :: ms) H25 (D.lst (([("h" : Str), ("a" : Str), ("ha" : Str), ("ah" : Str), ("hhaa" : Str), ("haah" : Str), ("haha" : Str), ("hha" : Str)] : List Str).map (fun y_ : Str => (D.v (V.str y_))))) (.ref p20) := rep_lst_mk hW n24 e21 hp22 (repL_cons rep_v (repL_cons rep_v (repL_cons rep_v (repL_cons rep_v (repL_cons rep_v (repL_cons rep_v (repL_cons rep_v (repL_cons rep_v repL_nil))))))))
      replace mu14 := mo_ext e21 mu14
      replace hW := hW.ret0 e21
      refine ⟨(L7 :: ms), ap, _, ([("h" : Str), ("a" : Str), ("ha" : Str), ("ah" : Str), ("hhaa" : Str), ("haah" : Str), ("haha" : Str), ("hha" : Str)] : List Str), _, rfl, hW.enterP, h23, hM, fun r26 u29 H30 hM e28 h27 => ?_⟩
      replace h23 := rep_ret hW e28 h23
      replace mu14 := mo_ret hW e28 mu14
      replace hW := hW.retP e28
      obtain rfl := of_v h27
      refine ⟨_, rfl, ?_⟩
      apply mo_putO (k := (Sum.inr ("middle" : Str) : Key)) 2 mu14 (by decide +kernel) rfl (by show 6 < 16777216; decide)
      intro vs31 hl32 hr33
      have mk34 := mo_setD (ks := [(Sum.inr ("step" : Str) : Key), (Sum.inr ("head" : Str) : Key), (Sum.inr ("middle" : Str) : Key), (Sum.inr ("tail" : Str) : Key), (Sum.inr ("stander" : Str) : Key), (Sum.inr ("turned" : Str) : Key)]) mu14 hl32 (repL_setD 2 hr33 rep_v)
      replace h23 := rep_put (o := .dK (List.zip [(Sum.inr ("step" : Str) : Key), (Sum.inr ("head" : Str) : Key), (Sum.inr ("middle" : Str) : Key), (Sum.inr ("tail" : Str) : Key), (Sum.inr ("stander" : Str) : Key), (Sum.inr ("turned" : Str) : Key)] (vs31.set 2 (V.str r26)))) mu14.im h23
      replace hW := wd_put (o := .dK (List.zip [(Sum.inr ("step" : Str) : Key), (Sum.inr ("head" : Str) : Key), (Sum.inr ("middle" : Str) : Key), (Sum.inr ("tail" : Str) : Key), (Sum.inr ("stander" : Str) : Key), (Sum.inr ("turned" : Str) : Key)] (vs31.set 2 (V.str r26)))) hW mu14
      replace mu14 := mk34
      generalize upd H30 L7 (.dK (List.zip [(Sum.inr ("step" : Str) : Key), (Sum.inr ("head" : Str) : Key), (Sum.inr ("middle" : Str) : Key), (Sum.inr ("tail" : Str) : Key), (Sum.inr ("stander" : Str) : Key), (Sum.inr ("turned" : Str) : Key)] (vs31.set 2 (V.str r26)))) = H35 at *
      replace mu14 : MutO (L7 :: ms) [(ap, none)] H_0 H35 L7 (D.dct [(Sum.inr ("step" : Str) : Key), (Sum.inr ("head" : Str) : Key), (Sum.inr ("middle" : Str) : Key), (Sum.inr ("tail" : Str) : Key), (Sum.inr ("stander" : Str) : Key), (Sum.inr ("turned" : Str) : Key)] [(D.v (V.int (r1.1, r1.2.1, r26, r1.2.2.2.1, r1.2.2.2.2.1, r1.2.2.2.2.2).1)), (D.v (V.str (r1.1, r1.2.1, r26, r1.2.2.2.1, r1.2.2.2.2.1, r1.2.2.2.2.2).2.1)), (D.v (V.str (r1.1, r1.2.1, r26, r1.2.2.2.1, r1.2.2.2.2.1, r1.2.2.2.2.2).2.2.1)), (D.v (V.str (r1.1, r1.2.1, r26, r1.2.2.2.1, r1.2.2.2.2.1, r1.2.2.2.2.2).2.2.2.1)), (D.v (V.str (r1.1, r1.2.1, r26, r1.2.2.2.1, r1.2.2.2.2.1, r1.2.2.2.2.2).2.2.2.2.1)), (D.v (V.bl (r1.1, r1.2.1, r26, r1.2.2.2.1, r1.2.2.2.2.1, r1.2.2.2.2.2).2.2.2.2.2))]) := mu14
      clear mk34
      have h36 := mo_rep_dr dr_here nm10 mu14
      replace hW := wd_dr dr_here mu14.hp hW
      replace h23 := rep_dr dr_here h23
      clear mu14
      refine ⟨_, rfl, ?_⟩
      exact hQ (r1.1, r1.2.1, r26, r1.2.2.2.1, r1.2.2.2.2.1, r1.2.2.2.2.2) _ _ hM hW.out h36
    · skip
      have h37 := mo_rep_dr dr_here nm10 mu14
      replace hW := wd_dr dr_here mu14.hp hW
      clear mu14
      refine ⟨_, rfl, ?_⟩
      exact hQ r1 _ _ hM hW.out h37
def M_is_marks (x_value : Str) (KM : Bool → Prop) : Prop :=
  (x_value.length ≤ sizeLine ∧ (KM (decide (V.int ((Txt.count x_value ("h" : Str) : Int) + (Txt.count x_value ("a" : Str) : Int)) = V.int (x_value.length : Int)))))
def sp_is_marks (A : Ad) : Sp := fun vs H Q _ => ∃ (ms : List Addr) (x_value : Str) (KM : Bool → Prop), vs = [V.str x_value] ∧ Wd ms [] [] H H ∧ M_is_marks x_value KM ∧ ∀ (r : Bool) (u : V) (H1 : Hp), KM r → Ret [] H H1 → rep ms H1 (D.v (V.bl r)) u → Q u H1
set_option maxHeartbeats 16000000 in
theorem ok_is_marks {P : Program} {w : World} {K : PySem.W.Frag} {mg : Str → Option Value} {base : Heap} {A : Ad} (T : Txt w K mg A) : FnOk P w K mg base CX0 1 A.a_is_marks A.d_is_marks ["value"] (sp_is_marks A) := by
  refine T.F_is_marks.ok sc_is_marks (fun vs H Q E h => ?_) (fun cdv A_ outer s_ H_0 vs Q E hr h => ?_)
  · obtain ⟨ms, x_value, KM, rfl, _⟩ := h
    rfl
  · obtain ⟨ms, x_value, KM, rfl, hW, hM, hQ⟩ := h
    unfold M_is_marks at hM
    refine ⟨_, (pss_one (ps_ret (pe_and (pe_callB (call_isiK (K := K) rfl) (by rfl) T.z_isinstance (by decide +kernel) (pa_cons (pv 0) (pa_cons (pe_bltn (v := .ty "str") (by rfl) T.z_str (by decide +kernel) rfl) pa_nil))) (pe_one (pe_cmpR op_eq (pe_op op_add (pe_m1 PySem.F.slot_str_count PySem.F.type_str_count mt_count (pv 0) pe_str) (pe_m1 PySem.F.slot_str_count PySem.F.type_str_count mt_count (pv 0) pe_str)) (pe_callB call_len_str (by rfl) T.z_len PySem.boot_len (pa_cons (pv 0) pa_nil)) (nomark _)))))), ?_⟩
    refine ⟨_, rfl, ?_⟩
    refine ⟨_, _, _, _, true, rfl, .ty _, .base (.str _), kit_ty (by decide +kernel), ?_⟩
    refine ⟨_, rfl, ?_⟩
    refine iteT ?_
    refine ⟨_, rfl, ?_⟩
    refine ⟨⟨_, rfl⟩, ?_⟩
    refine ⟨_, _, rfl, rfl, ?_⟩
    refine ⟨_, rfl, ?_⟩
    refine ⟨⟨_, rfl⟩, ?_⟩
    refine ⟨_, _, rfl, rfl, ?_⟩
    refine ⟨_, _, rfl, rfl, ?_⟩
    refine ⟨_, rfl, ?_⟩
    obtain ⟨g1, hM⟩ := hM
    refine ⟨_, rfl, g1, ?_⟩
    refine ⟨rfl, ?_⟩
    exact hQ (decide (V.int ((Txt.count x_value ("h" : Str) : Int) + (Txt.count x_value ("a" : Str) : Int)) = V.int (x_value.length : Int))) _ _ hM hW.out rep_v
def M_check_part (x_marks : Str) (KM : Unit → Prop) : Prop :=
  (M_is_marks x_marks fun r1 => (if (!r1) = true then False else (x_marks.length ≤ sizeLine ∧ (if (decide ((4 : Int) < (x_marks.length : Int))) = true then False else (KM ())))))
def sp_check_part (A : Ad) : Sp := fun vs H Q _ => ∃ (ms : List Addr) (x_marks : Str) (KM : Unit → Prop), vs = [V.str x_marks] ∧ Wd ms [] [] H H ∧ M_check_part x_marks KM ∧ ∀ (r : Unit) (u : V) (H1 : Hp), KM r → Ret [] H H1 → rep ms H1 (D.v V.non) u → Q u H1
set_option maxHeartbeats 16000000 in
theorem ok_check_part {P : Program} {w : World} {K : PySem.W.Frag} {mg : Str → Option Value} {base : Heap} {A : Ad} (T : Txt w K mg A) : FnOk P w K mg base CX0 2 A.a_check_part A.d_check_part ["marks"] (sp_check_part A) := by
  refine T.F_check_part.ok sc_check_part (fun vs H Q E h => ?_) (fun cdv A_ outer s_ H_0 vs Q E hr h => ?_)
  · obtain ⟨ms, x_marks, KM, rfl, _⟩ := h
    rfl
  · obtain ⟨ms, x_marks, KM, rfl, hW, hM, hQ⟩ := h
    unfold M_check_part at hM
    refine ⟨_, (pss_one (ps_if (PW.pt (pw_or (pt_not (pt_val (pe_call (ok_is_marks T) (hr.mono (by decide)) (by rfl) T.g_is_marks T.F_is_marks.kp T.b_is_marks .nil pass0 (pa_cons (pv 0) pa_nil)))) (pw_or1 (pt_cmpR op_gt (pe_callB call_len_str (by rfl) T.z_len PySem.boot_len (pa_cons (pv 0) pa_nil)) (C8.pe_gc (by rfl) T.c_MOST_MARKS) (nomark _))))) (pss_one ps_never) pss_nil)), ?_⟩
    refine ⟨_, rfl, ?_⟩
    refine ⟨ms, x_marks, _, rfl, hW.enter0, hM, fun r1 u4 H5 hM e3 h2 => ?_⟩
    replace hW := hW.ret0 e3
    obtain rfl := of_v h2
    refine ⟨_, rfl, ?_⟩
    refine ite3 hM (fun hM => ?_) (fun hM => ?_)
    · skip
      refine iteT ?_
      exact hM
    · skip
      refine ⟨_, rfl, ?_⟩
      obtain ⟨g6, hM⟩ := hM
      refine ⟨_, rfl, g6, ?_⟩
      refine ⟨_, _, rfl, rfl, ?_⟩
      refine ⟨_, rfl, ?_⟩
      refine ite3 hM (fun hM => ?_) (fun hM => ?_)
      · skip
        exact hM
      · skip
        exact hQ () _ _ hM hW.out rep_v
def M_Word_init (x_head : Str) (x_middle : Str) (x_tail : Str) (KM : (Str × Str × Str) → Prop) : Prop :=
  (M_check_part x_head fun r1 => (M_check_part x_middle fun r6 => (if (decide (V.str x_middle = V.str ("" : Str))) = true then False else (M_check_part x_tail fun r11 => (KM (x_head, x_middle, x_tail))))))
def sp_Word_init (A : Ad) : Sp := fun vs H Q _ => ∃ (ms : List Addr) (p_ dx_ : Addr) (x_head : Str) (x_middle : Str) (x_tail : Str) (KM : (Str × Str × Str) → Prop), vs = [.ref p_, V.str x_head, V.str x_middle, V.str x_tail] ∧ Wd ms [] [] H H ∧ p_ ∈ ms ∧ H p_ = some (.ins A.c_Word dx_ []) ∧ M_Word_init x_head x_middle x_tail KM ∧ ∀ (r : (Str × Str × Str)) (us : List V) (H1 : Hp), KM r → KpI p_ H H1 → H1 p_ = some (.ins A.c_Word dx_ (List.zip ns_Word us)) → ns_Word.length = us.length → repL ms H1 [(D.v (V.str r.1)), (D.v (V.str r.2.1)), (D.v (V.str r.2.2))] us → Q .non H1
set_option maxHeartbeats 16000000 in
theorem ok_Word_init {P : Program} {w : World} {K : PySem.W.Frag} {mg : Str → Option Value} {base : Heap} {A : Ad} (T : Txt w K mg A) : FnOk P w K mg base CX0 3 A.a_Word_init A.d_Word_init ["self", "head", "middle", "tail"] (sp_Word_init A) := by
  refine T.F_Word_init.ok sc_Word_init (fun vs H Q E h => ?_) (fun cdv A_ outer s_ H_0 vs Q E hr h => ?_)
  · obtain ⟨ms, p_, dx_, x_head, x_middle, x_tail, KM, rfl, _⟩ := h
    rfl
  · obtain ⟨ms, p_, dx_, x_head, x_middle, x_tail, KM, rfl, hW, pm_, hp, hM, hQ⟩ := h
    unfold M_Word_init at hM
    have hK := ki_refl (p := p_) (H := H_0)
    replace hp : H_0 p_ = some (.ins A.c_Word dx_ (List.zip ([] : List Str) ([] : List V))) := hp
    refine ⟨_, (pss_cons (ps_expr (pe_call (ok_check_part T) (hr.mono (by decide)) (by rfl) T.g_check_part T.F_check_part.kp T.b_check_part .nil pass0 (pa_cons (pv 1) pa_nil))) (pss_cons (ps_expr (pe_call (ok_check_part T) (hr.mono (by decide)) (by rfl) T.g_check_part T.F_check_part.kp T.b_check_part .nil pass0 (pa_cons (pv 2) pa_nil))) (pss_cons (ps_if (pt_cmpR op_eq (pv 2) pe_str (nomark _)) (pss_one ps_never) pss_nil) (pss_cons (ps_expr (pe_call (ok_check_part T) (hr.mono (by decide)) (by rfl) T.g_check_part T.F_check_part.kp T.b_check_part .nil pass0 (pa_cons (pv 3) pa_nil))) (pss_cons (ps_fld (pv 0) (pv 1) rfl) (pss_cons (ps_fld (pv 0) (pv 2) rfl) (pss_one (ps_fld (pv 0) (pv 3) rfl)))))))), ?_⟩
    refine ⟨_, rfl, ?_⟩
    refine ⟨ms, x_head, _, rfl, hW.enter0, hM, fun r1 u4 H5 hM e3 h2 => ?_⟩
    replace hp := Rx.Ext.keep e3 hp
    replace hW := hW.ret0 e3
    obtain rfl := of_v h2
    refine ⟨_, rfl, ?_⟩
    refine ⟨ms, x_middle, _, rfl, hW.enter0, hM, fun r6 u9 H10 hM e8 h7 => ?_⟩
    replace hp := Rx.Ext.keep e8 hp
    replace hW := hW.ret0 e8
    obtain rfl := of_v h7
    refine ⟨_, rfl, ?_⟩
    refine ⟨rfl, ?_⟩
    refine ⟨_, rfl, ?_⟩
    refine ite3 hM (fun hM => ?_) (fun hM => ?_)
    · skip
      exact hM
    · skip
      refine ⟨_, rfl, ?_⟩
      refine ⟨ms, x_tail, _, rfl, hW.enter0, hM, fun r11 u14 H15 hM e13 h12 => ?_⟩
      replace hp := Rx.Ext.keep e13 hp
      replace hW := hW.ret0 e13
      obtain rfl := of_v h12
      refine ⟨_, rfl, ?_⟩
      refine ⟨_, rfl, p_, A.c_Word, dx_, _, rfl, hp, T.cl_Word, T.na_Word__head, (by first | decide | simp), ?_⟩
      have z16 : putF ("_head" : Str) (V.str x_head) (List.zip ([] : List Str) ([] : List V)) = List.zip [("_head" : Str)] [V.str x_head] := putF_zip (ns := ([] : List Str)) (us := ([] : List V)) rfl (nin_of (by decide +kernel))
      replace hK := ki_put (o := .ins A.c_Word dx_ (putF ("_head" : Str) (V.str x_head) (List.zip ([] : List Str) ([] : List V)))) hK hW
      replace hW := wd_at (p := p_) (o := .ins A.c_Word dx_ (putF ("_head" : Str) (V.str x_head) (List.zip ([] : List Str) ([] : List V)))) hW
      replace hp : upd H15 p_ (.ins A.c_Word dx_ (putF ("_head" : Str) (V.str x_head) (List.zip ([] : List Str) ([] : List V)))) p_ = some (.ins A.c_Word dx_ (putF ("_head" : Str) (V.str x_head) (List.zip ([] : List Str) ([] : List V)))) := upd_same
      generalize upd H15 p_ (.ins A.c_Word dx_ (putF ("_head" : Str) (V.str x_head) (List.zip ([] : List Str) ([] : List V)))) = H17 at *
      rw [z16] at hp
      refine ⟨_, rfl, ?_⟩
      refine ⟨_, rfl, p_, A.c_Word, dx_, _, rfl, hp, T.cl_Word, T.na_Word__middle, (by first | decide | simp), ?_⟩
      have z18 : putF ("_middle" : Str) (V.str x_middle) (List.zip [("_head" : Str)] [V.str x_head]) = List.zip [("_head" : Str), ("_middle" : Str)] [V.str x_head, V.str x_middle] := putF_zip (ns := [("_head" : Str)]) (us := [V.str x_head]) rfl (nin_of (by decide +kernel))
      replace hK := ki_put (o := .ins A.c_Word dx_ (putF ("_middle" : Str) (V.str x_middle) (List.zip [("_head" : Str)] [V.str x_head]))) hK hW
      replace hW := wd_at (p := p_) (o := .ins A.c_Word dx_ (putF ("_middle" : Str) (V.str x_middle) (List.zip [("_head" : Str)] [V.str x_head]))) hW
      replace hp : upd H17 p_ (.ins A.c_Word dx_ (putF ("_middle" : Str) (V.str x_middle) (List.zip [("_head" : Str)] [V.str x_head]))) p_ = some (.ins A.c_Word dx_ (putF ("_middle" : Str) (V.str x_middle) (List.zip [("_head" : Str)] [V.str x_head]))) := upd_same
      generalize upd H17 p_ (.ins A.c_Word dx_ (putF ("_middle" : Str) (V.str x_middle) (List.zip [("_head" : Str)] [V.str x_head]))) = H19 at *
      rw [z18] at hp
      refine ⟨_, rfl, ?_⟩
      refine ⟨_, rfl, p_, A.c_Word, dx_, _, rfl, hp, T.cl_Word, T.na_Word__tail, (by first | decide | simp), ?_⟩
      have z20 : putF ("_tail" : Str) (V.str x_tail) (List.zip [("_head" : Str), ("_middle" : Str)] [V.str x_head, V.str x_middle]) = List.zip [("_head" : Str), ("_middle" : Str), ("_tail" : Str)] [V.str x_head, V.str x_middle, V.str x_tail] := putF_zip (ns := [("_head" : Str), ("_middle" : Str)]) (us := [V.str x_head, V.str x_middle]) rfl (nin_of (by decide +kernel))
      replace hK := ki_put (o := .ins A.c_Word dx_ (putF ("_tail" : Str) (V.str x_tail) (List.zip [("_head" : Str), ("_middle" : Str)] [V.str x_head, V.str x_middle]))) hK hW
      replace hW := wd_at (p := p_) (o := .ins A.c_Word dx_ (putF ("_tail" : Str) (V.str x_tail) (List.zip [("_head" : Str), ("_middle" : Str)] [V.str x_head, V.str x_middle]))) hW
      replace hp : upd H19 p_ (.ins A.c_Word dx_ (putF ("_tail" : Str) (V.str x_tail) (List.zip [("_head" : Str), ("_middle" : Str)] [V.str x_head, V.str x_middle]))) p_ = some (.ins A.c_Word dx_ (putF ("_tail" : Str) (V.str x_tail) (List.zip [("_head" : Str), ("_middle" : Str)] [V.str x_head, V.str x_middle]))) := upd_same
      generalize upd H19 p_ (.ins A.c_Word dx_ (putF ("_tail" : Str) (V.str x_tail) (List.zip [("_head" : Str), ("_middle" : Str)] [V.str x_head, V.str x_middle]))) = H21 at *
      rw [z20] at hp
      exact hQ (x_head, x_middle, x_tail) [V.str x_head, V.str x_middle, V.str x_tail] _ hM (ki_wd hK hW) hp rfl (repL_cons rep_v (repL_cons rep_v (repL_cons rep_v repL_nil)))
theorem make_Word_init {ms : List Addr} {ps : List PEn} {cs : List (Addr × List V)} {H0 H : Hp} {A : Ad} {x_head : Str} {x_middle : Str} {x_tail : Str} {KM : (Str × Str × Str) → Prop} {Q : Addr → Hp → Prop} {E : XK} (hW : Wd ms ps cs H0 H) (hM : M_Word_init x_head x_middle x_tail KM)
    (k : ∀ (x : Addr) (H1 : Hp) (r : (Str × Str × Str)), KM r → Rx.Ext H H1 → rep ms H1 (eWord A r) (.ref x) → Q x H1) :
    ∀ x dx, H x = none → H dx = none → dx ≠ x → sp_Word_init A (.ref x :: ([V.str x_head, V.str x_middle, V.str x_tail] ++ [])) (upd (upd H dx (.own x)) x (.ins A.c_Word dx [])) (fun v H2 => v = .non ∧ Q x H2) E := by
  intro x dx nx ndx ne
  exact ⟨x :: ms, x, dx, x_head, x_middle, x_tail, KM, rfl, wd_new hW nx ndx, List.mem_cons_self, upd_same, hM, fun r us H1 hr hK hp hl hu => ⟨rfl, k x H1 r hr (ext_new hK nx ndx) (rep_insW hW nx hp hl hu)⟩⟩
def M_is_integer (x_value : Int) (KM : Bool → Prop) : Prop :=
  (KM (!false))
def sp_is_integer (A : Ad) : Sp := fun vs H Q _ => ∃ (ms : List Addr) (x_value : Int) (KM : Bool → Prop), vs = [V.int x_value] ∧ Wd ms [] [] H H ∧ M_is_integer x_value KM ∧ ∀ (r : Bool) (u : V) (H1 : Hp), KM r → Ret [] H H1 → rep ms H1 (D.v (V.bl r)) u → Q u H1
set_option maxHeartbeats 16000000 in
theorem ok_is_integer {P : Program} {w : World} {K : PySem.W.Frag} {mg : Str → Option Value} {base : Heap} {A : Ad} (T : Txt w K mg A) : FnOk P w K mg base CX0 1 A.a_is_integer A.d_is_integer ["value"] (sp_is_integer A) := by
  refine T.F_is_integer.ok sc_is_integer (fun vs H Q E h => ?_) (fun cdv A_ outer s_ H_0 vs Q E hr h => ?_)
  · obtain ⟨ms, x_value, KM, rfl, _⟩ := h
    rfl
  · obtain ⟨ms, x_value, KM, rfl, hW, hM, hQ⟩ := h
    unfold M_is_integer at hM
    refine ⟨_, (pss_one (ps_ret (pe_and (pe_callB (call_isiK (K := K) rfl) (by rfl) T.z_isinstance (by decide +kernel) (pa_cons (pv 0) (pa_cons (pe_bltn (v := .ty "int") (by rfl) T.z_int (by decide +kernel) rfl) pa_nil))) (pe_one (pe_not (pe_callB (call_isiK (K := K) rfl) (by rfl) T.z_isinstance (by decide +kernel) (pa_cons (pv 0) (pa_cons (pe_bltn (v := .ty "bool") (by rfl) T.z_bool (by decide +kernel) rfl) pa_nil)))))))), ?_⟩
    refine ⟨_, rfl, ?_⟩
    refine ⟨_, _, _, _, true, rfl, .ty _, .base (.int _), kit_ty (by decide +kernel), ?_⟩
    refine ⟨_, rfl, ?_⟩
    refine iteT ?_
    refine ⟨_, rfl, ?_⟩
    refine ⟨_, _, _, _, false, rfl, .ty _, .base (.int _), kit_ty (by decide +kernel), ?_⟩
    refine ⟨_, rfl, ?_⟩
    exact hQ (!false) _ _ hM hW.out rep_v
def M_Rule_init (x_step : Int) (x_word : (Str × Str × Str)) (x_stander : Str) (x_turned : Bool) (KM : (Int × (Str × Str × Str) × Str × Bool) → Prop) : Prop :=
  (M_is_integer x_step fun r1 => (if (!r1) = true then False else (if (decide (V.int x_step = V.int (0 : Int))) = true then False else (if (decide ((7 : Int) < (if x_step < 0 then -x_step else x_step))) = true then False else (∃ c6 : Str, wd_CONTRARY_STANDERS.lookup x_stander = some c6 ∧ (KM (x_step, x_word, x_stander, x_turned)))))))
def sp_Rule_init (A : Ad) : Sp := fun vs H Q _ => ∃ (ms : List Addr) (p_ dx_ : Addr) (v_word : V) (x_step : Int) (x_word : (Str × Str × Str)) (x_stander : Str) (x_turned : Bool) (KM : (Int × (Str × Str × Str) × Str × Bool) → Prop), vs = [.ref p_, V.int x_step, v_word, V.str x_stander, V.bl x_turned] ∧ Wd ms [] [] H H ∧ p_ ∈ ms ∧ H p_ = some (.ins A.c_Rule dx_ []) ∧ rep ms H (eWord A x_word) v_word ∧ M_Rule_init x_step x_word x_stander x_turned KM ∧ ∀ (r : (Int × (Str × Str × Str) × Str × Bool)) (us : List V) (H1 : Hp), KM r → KpI p_ H H1 → H1 p_ = some (.ins A.c_Rule dx_ (List.zip ns_Rule us)) → ns_Rule.length = us.length → repL ms H1 [(D.v (V.int r.1)), (eWord A r.2.1), (D.v (V.str r.2.2.1)), (D.v (V.bl r.2.2.2))] us → Q .non H1
set_option maxHeartbeats 16000000 in
theorem ok_Rule_init {P : Program} {w : World} {K : PySem.W.Frag} {mg : Str → Option Value} {base : Heap} {A : Ad} (T : Txt w K mg A) : FnOk P w K mg base CX0 2 A.a_Rule_init A.d_Rule_init ["self", "step", "word", "stander", "turned"] (sp_Rule_init A) := by
  refine T.F_Rule_init.ok sc_Rule_init (fun vs H Q E h => ?_) (fun cdv A_ outer s_ H_0 vs Q E hr h => ?_)
  · obtain ⟨ms, p_, dx_, v_word, x_step, x_word, x_stander, x_turned, KM, rfl, _⟩ := h
    rfl
  · obtain ⟨ms, p_, dx_, v_word, x_step, x_word, x_stander, x_turned, KM, rfl, hW, pm_, hp, h_word, hM, hQ⟩ := h
    unfold M_Rule_init at hM
    have hK := ki_refl (p := p_) (H := H_0)
    replace hp : H_0 p_ = some (.ins A.c_Rule dx_ (List.zip ([] : List Str) ([] : List V))) := hp
    refine ⟨_, (pss_cons (ps_if (PW.pt (pw_or (pt_not (pt_val (pe_call (ok_is_integer T) (hr.mono (by decide)) (by rfl) T.g_is_integer T.F_is_integer.kp T.b_is_integer .nil pass0 (pa_cons (pv 1) pa_nil)))) (pw_or (pt_cmpR op_eq (pv 1) pe_int (nomark _)) (pw_or1 (pt_cmpR op_gt (pe_callB call_abs (by rfl) T.z_abs (by decide +kernel) (pa_cons (pv 1) pa_nil)) (C8.pe_gc (by rfl) T.c_MOST_STEP) (nomark _)))))) (pss_one ps_never) pss_nil) (pss_cons (ps_if (PW.pt (pw_or (pt_not (pt_val (pe_callB (call_isiK (K := K) rfl) (by rfl) T.z_isinstance (by decide +kernel) (pa_cons (pv 3) (pa_cons (pe_bltn (v := .ty "str") (by rfl) T.z_str (by decide +kernel) rfl) pa_nil))))) (pw_or1 (pt_cmpR (op_ninW (K := K) (w := w) rfl rfl T.lo_CONTRARY_STANDERS) (pv 3) (pe_glob (v := .ref A.wd_CONTRARY_STANDERS) (by rfl) T.g_CONTRARY_STANDERS rfl) (by rfl))))) (pss_one ps_never) pss_nil) (pss_cons (ps_if (pt_not (pt_val (pe_callB (call_isiK (K := K) rfl) (by rfl) T.z_isinstance (by decide +kernel) (pa_cons (pv 4) (pa_cons (pe_bltn (v := .ty "bool") (by rfl) T.z_bool (by decide +kernel) rfl) pa_nil))))) (pss_one ps_never) pss_nil) (pss_cons (ps_fld (pv 0) (pv 1) rfl) (pss_cons (ps_fld (pv 0) (pv 2) rfl) (pss_cons (ps_fld (pv 0) (pv 3) rfl) (pss_one (ps_fld (pv 0) (pv 4) rfl)))))))), ?_⟩
    refine ⟨_, rfl, ?_⟩
    refine ⟨ms, x_step, _, rfl, hW.enter0, hM, fun r1 u4 H5 hM e3 h2 => ?_⟩
    replace h_word := rep_ext e3 h_word
    replace hp := Rx.Ext.keep e3 hp
    replace hW := hW.ret0 e3
    obtain rfl := of_v h2
    refine ⟨_, rfl, ?_⟩
    refine ite3 hM (fun hM => ?_) (fun hM => ?_)
    · skip
      refine iteT ?_
      exact hM
    · skip
      refine ⟨_, rfl, ?_⟩
      refine ⟨rfl, ?_⟩
      refine ⟨_, rfl, ?_⟩
      refine ite3 hM (fun hM => ?_) (fun hM => ?_)
      · skip
        refine iteT ?_
        exact hM
      · skip
        refine ⟨_, rfl, ?_⟩
        refine ⟨_, rfl, ?_⟩
        refine ⟨_, _, rfl, rfl, ?_⟩
        refine ⟨_, rfl, ?_⟩
        refine ite3 hM (fun hM => ?_) (fun hM => ?_)
        · skip
          exact hM
        · skip
          refine ⟨_, rfl, ?_⟩
          refine ⟨_, _, _, _, true, rfl, .ty _, .base (.str _), kit_ty (by decide +kernel), ?_⟩
          refine ⟨_, rfl, ?_⟩
          refine iteF ?_
          refine ⟨_, rfl, ?_⟩
          obtain ⟨c6, h7, hM⟩ := hM
          apply rep_inW T.kd_CONTRARY_STANDERS h7
          refine ⟨_, rfl, ?_⟩
          refine iteF ?_
          refine ⟨_, rfl, ?_⟩
          refine ⟨_, _, _, _, true, rfl, .ty _, .base (.bl _), kit_ty (by decide +kernel), ?_⟩
          refine ⟨_, rfl, ?_⟩
          refine iteF ?_
          refine ⟨_, rfl, ?_⟩
          refine ⟨_, rfl, p_, A.c_Rule, dx_, _, rfl, hp, T.cl_Rule, T.na_Rule__step, (by first | decide | simp), ?_⟩
          have z8 : putF ("_step" : Str) (V.int x_step) (List.zip ([] : List Str) ([] : List V)) = List.zip [("_step" : Str)] [V.int x_step] := putF_zip (ns := ([] : List Str)) (us := ([] : List V)) rfl (nin_of (by decide +kernel))
          replace h_word := rep_put (o := .ins A.c_Rule dx_ (putF ("_step" : Str) (V.int x_step) (List.zip ([] : List Str) ([] : List V)))) pm_ h_word
          replace hK := ki_put (o := .ins A.c_Rule dx_ (putF ("_step" : Str) (V.int x_step) (List.zip ([] : List Str) ([] : List V)))) hK hW
          replace hW := wd_at (p := p_) (o := .ins A.c_Rule dx_ (putF ("_step" : Str) (V.int x_step) (List.zip ([] : List Str) ([] : List V)))) hW
          replace hp : upd H5 p_ (.ins A.c_Rule dx_ (putF ("_step" : Str) (V.int x_step) (List.zip ([] : List Str) ([] : List V)))) p_ = some (.ins A.c_Rule dx_ (putF ("_step" : Str) (V.int x_step) (List.zip ([] : List Str) ([] : List V)))) := upd_same
          generalize upd H5 p_ (.ins A.c_Rule dx_ (putF ("_step" : Str) (V.int x_step) (List.zip ([] : List Str) ([] : List V)))) = H9 at *
          rw [z8] at hp
          refine ⟨_, rfl, ?_⟩
          refine ⟨_, rfl, p_, A.c_Rule, dx_, _, rfl, hp, T.cl_Rule, T.na_Rule__word, (by first | decide | simp), ?_⟩
          have z10 : putF ("_word" : Str) (v_word) (List.zip [("_step" : Str)] [V.int x_step]) = List.zip [("_step" : Str), ("_word" : Str)] [V.int x_step, v_word] := putF_zip (ns := [("_step" : Str)]) (us := [V.int x_step]) rfl (nin_of (by decide +kernel))
          replace h_word := rep_put (o := .ins A.c_Rule dx_ (putF ("_word" : Str) (v_word) (List.zip [("_step" : Str)] [V.int x_step]))) pm_ h_word
          replace hK := ki_put (o := .ins A.c_Rule dx_ (putF ("_word" : Str) (v_word) (List.zip [("_step" : Str)] [V.int x_step]))) hK hW
          replace hW := wd_at (p := p_) (o := .ins A.c_Rule dx_ (putF ("_word" : Str) (v_word) (List.zip [("_step" : Str)] [V.int x_step]))) hW
          replace hp : upd H9 p_ (.ins A.c_Rule dx_ (putF ("_word" : Str) (v_word) (List.zip [("_step" : Str)] [V.int x_step]))) p_ = some (.ins A.c_Rule dx_ (putF ("_word" : Str) (v_word) (List.zip [("_step" : Str)] [V.int x_step]))) := upd_same
          generalize upd H9 p_ (.ins A.c_Rule dx_ (putF ("_word" : Str) (v_word) (List.zip [("_step" : Str)] [V.int x_step]))) = H11 at *
          rw [z10] at hp
          refine ⟨_, rfl, ?_⟩
          refine ⟨_, rfl, p_, A.c_Rule, dx_, _, rfl, hp, T.cl_Rule, T.na_Rule__stander, (by first | decide | simp), ?_⟩
          have z12 : putF ("_stander" : Str) (V.str x_stander) (List.zip [("_step" : Str), ("_word" : Str)] [V.int x_step, v_word]) = List.zip [("_step" : Str), ("_word" : Str), ("_stander" : Str)] [V.int x_step, v_word, V.str x_stander] := putF_zip (ns := [("_step" : Str), ("_word" : Str)]) (us := [V.int x_step, v_word]) rfl (nin_of (by decide +kernel))
          replace h_word := rep_put (o := .ins A.c_Rule dx_ (putF ("_stander" : Str) (V.str x_stander) (List.zip [("_step" : Str), ("_word" : Str)] [V.int x_step, v_word]))) pm_ h_word
          replace hK := ki_put (o := .ins A.c_Rule dx_ (putF ("_stander" : Str) (V.str x_stander) (List.zip [("_step" : Str), ("_word" : Str)] [V.int x_step, v_word]))) hK hW
          replace hW := wd_at (p := p_) (o := .ins A.c_Rule dx_ (putF ("_stander" : Str) (V.str x_stander) (List.zip [("_step" : Str), ("_word" : Str)] [V.int x_step, v_word]))) hW
          replace hp : upd H11 p_ (.ins A.c_Rule dx_ (putF ("_stander" : Str) (V.str x_stander) (List.zip [("_step" : Str), ("_word" : Str)] [V.int x_step, v_word]))) p_ = some (.ins A.c_Rule dx_ (putF ("_stander" : Str) (V.str x_stander) (List.zip [("_step" : Str), ("_word" : Str)] [V.int x_step, v_word]))) := upd_same
          generalize upd H11 p_ (.ins A.c_Rule dx_ (putF ("_stander" : Str) (V.str x_stander) (List.zip [("_step" : Str), ("_word" : Str)] [V.int x_step, v_word]))) = H13 at *
          rw [z12] at hp
          refine ⟨_, rfl, ?_⟩
          refine ⟨_, rfl, p_, A.c_Rule, dx_, _, rfl, hp, T.cl_Rule, T.na_Rule__turned, (by first | decide | simp), ?_⟩
          have z14 : putF ("_turned" : Str) (V.bl x_turned) (List.zip [("_step" : Str), ("_word" : Str), ("_stander" : Str)] [V.int x_step, v_word, V.str x_stander]) = List.zip [("_step" : Str), ("_word" : Str), ("_stander" : Str), ("_turned" : Str)] [V.int x_step, v_word, V.str x_stander, V.bl x_turned] := putF_zip (ns := [("_step" : Str), ("_word" : Str), ("_stander" : Str)]) (us := [V.int x_step, v_word, V.str x_stander]) rfl (nin_of (by decide +kernel))
          replace h_word := rep_put (o := .ins A.c_Rule dx_ (putF ("_turned" : Str) (V.bl x_turned) (List.zip [("_step" : Str), ("_word" : Str), ("_stander" : Str)] [V.int x_step, v_word, V.str x_stander]))) pm_ h_word
          replace hK := ki_put (o := .ins A.c_Rule dx_ (putF ("_turned" : Str) (V.bl x_turned) (List.zip [("_step" : Str), ("_word" : Str), ("_stander" : Str)] [V.int x_step, v_word, V.str x_stander]))) hK hW
          replace hW := wd_at (p := p_) (o := .ins A.c_Rule dx_ (putF ("_turned" : Str) (V.bl x_turned) (List.zip [("_step" : Str), ("_word" : Str), ("_stander" : Str)] [V.int x_step, v_word, V.str x_stander]))) hW
          replace hp : upd H13 p_ (.ins A.c_Rule dx_ (putF ("_turned" : Str) (V.bl x_turned) (List.zip [("_step" : Str), ("_word" : Str), ("_stander" : Str)] [V.int x_step, v_word, V.str x_stander]))) p_ = some (.ins A.c_Rule dx_ (putF ("_turned" : Str) (V.bl x_turned) (List.zip [("_step" : Str), ("_word" : Str), ("_stander" : Str)] [V.int x_step, v_word, V.str x_stander]))) := upd_same
          generalize upd H13 p_ (.ins A.c_Rule dx_ (putF ("_turned" : Str) (V.bl x_turned) (List.zip [("_step" : Str), ("_word" : Str), ("_stander" : Str)] [V.int x_step, v_word, V.str x_stander]))) = H15 at *
          rw [z14] at hp
          exact hQ (x_step, x_word, x_stander, x_turned) [V.int x_step, v_word, V.str x_stander, V.bl x_turned] _ hM (ki_wd hK hW) hp rfl (repL_cons rep_v (repL_cons h_word (repL_cons rep_v (repL_cons rep_v repL_nil))))
theorem make_Rule_init {ms : List Addr} {ps : List PEn} {cs : List (Addr × List V)} {H0 H : Hp} {A : Ad} {v_word : V} {x_step : Int} {x_word : (Str × Str × Str)} {x_stander : Str} {x_turned : Bool} {KM : (Int × (Str × Str × Str) × Str × Bool) → Prop} {Q : Addr → Hp → Prop} {E : XK} (hW : Wd ms ps cs H0 H) (h_word : rep ms H (eWord A x_word) v_word) (hM : M_Rule_init x_step x_word x_stander x_turned KM)
    (k : ∀ (x : Addr) (H1 : Hp) (r : (Int × (Str × Str × Str) × Str × Bool)), KM r → Rx.Ext H H1 → rep ms H1 (eRule A r) (.ref x) → Q x H1) :
    ∀ x dx, H x = none → H dx = none → dx ≠ x → sp_Rule_init A (.ref x :: ([V.int x_step, v_word, V.str x_stander, V.bl x_turned] ++ [])) (upd (upd H dx (.own x)) x (.ins A.c_Rule dx [])) (fun v H2 => v = .non ∧ Q x H2) E := by
  intro x dx nx ndx ne
  exact ⟨x :: ms, x, dx, v_word, x_step, x_word, x_stander, x_turned, KM, rfl, wd_new hW nx ndx, List.mem_cons_self, upd_same, mem_new nx h_word ndx, hM, fun r us H1 hr hK hp hl hu => ⟨rfl, k x H1 r hr (ext_new hK nx ndx) (rep_insW hW nx hp hl hu)⟩⟩
def M_made (x_model_here : (Int × Str × Str × Str × Str × Bool)) (KM : (Int × (Str × Str × Str) × Str × Bool) → Prop) : Prop :=
  (M_Word_init x_model_here.2.1 x_model_here.2.2.1 x_model_here.2.2.2.1 fun r10 => (M_Rule_init x_model_here.1 r10 x_model_here.2.2.2.2.1 x_model_here.2.2.2.2.2 fun r21 => (KM r21)))
def sp_made (A : Ad) : Sp := fun vs H Q _ => ∃ (ms : List Addr) (v_model_here : V) (x_model_here : (Int × Str × Str × Str × Str × Bool)) (KM : (Int × (Str × Str × Str) × Str × Bool) → Prop), vs = [v_model_here] ∧ Wd ms [] [] H H ∧ rep ms H (D.dct [(Sum.inr ("step" : Str) : Key), (Sum.inr ("head" : Str) : Key), (Sum.inr ("middle" : Str) : Key), (Sum.inr ("tail" : Str) : Key), (Sum.inr ("stander" : Str) : Key), (Sum.inr ("turned" : Str) : Key)] [(D.v (V.int x_model_here.1)), (D.v (V.str x_model_here.2.1)), (D.v (V.str x_model_here.2.2.1)), (D.v (V.str x_model_here.2.2.2.1)), (D.v (V.str x_model_here.2.2.2.2.1)), (D.v (V.bl x_model_here.2.2.2.2.2))]) v_model_here ∧ M_made x_model_here KM ∧ ∀ (r : (Int × (Str × Str × Str) × Str × Bool)) (u : V) (H1 : Hp), KM r → Ret [] H H1 → rep ms H1 (eRule A r) u → Q u H1
set_option maxHeartbeats 16000000 in
theorem ok_made {P : Program} {w : World} {K : PySem.W.Frag} {mg : Str → Option Value} {base : Heap} {A : Ad} (T : Txt w K mg A) : FnOk P w K mg base CX0 5 A.a_made A.d_made ["_law_model_here"] (sp_made A) := by
  refine T.F_made.ok sc_made (fun vs H Q E h => ?_) (fun cdv A_ outer s_ H_0 vs Q E hr h => ?_)
  · obtain ⟨ms, v_model_here, x_model_here, KM, rfl, _⟩ := h
    rfl
  · obtain ⟨ms, v_model_here, x_model_here, KM, rfl, hW, h_model_here, hM, hQ⟩ := h
    unfold M_made at hM
    refine ⟨_, (pss_cons (ps_set (i := 1) sc_made.nd rfl (by first | exact Or.inl rfl | exact Or.inr rfl) (pe_make T.mk_Word (ok_Word_init T) (hr.mono (by decide)) (by rfl) T.g_Word T.b_Word_init .nil pass0 (pa_cons (pe_dget (hu_of hr) (pv 0) pe_str (fun _ _ => rfl)) (pa_cons (pe_dget (hu_of hr) (pv 0) pe_str (fun _ _ => rfl)) (pa_cons (pe_dget (hu_of hr) (pv 0) pe_str (fun _ _ => rfl)) pa_nil))))) (pss_one (ps_ret (pe_make T.mk_Rule (ok_Rule_init T) (hr.mono (by decide)) (by rfl) T.g_Rule T.b_Rule_init .nil pass0 (pa_cons (pe_dget (hu_of hr) (pv 0) pe_str (fun _ _ => rfl)) (pa_cons (pv 1) (pa_cons (pe_dget (hu_of hr) (pv 0) pe_str (fun _ _ => rfl)) (pa_cons (pe_dget (hu_of hr) (pv 0) pe_str (fun _ _ => rfl)) pa_nil)))))))), ?_⟩
    refine ⟨_, rfl, ?_⟩
    apply rep_dget (k := (Sum.inr ("head" : Str) : Key)) 1 h_model_here (by decide +kernel) rfl rfl
    intro u2 h1
    obtain rfl := of_v h1
    refine ⟨_, rfl, ?_⟩
    apply rep_dget (k := (Sum.inr ("middle" : Str) : Key)) 2 h_model_here (by decide +kernel) rfl rfl
    intro u4 h3
    obtain rfl := of_v h3
    refine ⟨_, rfl, ?_⟩
    apply rep_dget (k := (Sum.inr ("tail" : Str) : Key)) 3 h_model_here (by decide +kernel) rfl rfl
    intro u6 h5
    obtain rfl := of_v h5
    conv => whnf
    apply make_Word_init (ms := ms) hW  hM
    intro p7 H11 r10 hM e9 h8
    replace h_model_here := rep_ext e9 h_model_here
    replace hW := hW.ret0 e9
    refine ⟨_, rfl, ?_⟩
    apply rep_dget (k := (Sum.inr ("step" : Str) : Key)) 0 h_model_here (by decide +kernel) rfl rfl
    intro u13 h12
    obtain rfl := of_v h12
    refine ⟨_, rfl, ?_⟩
    refine ⟨_, rfl, ?_⟩
    apply rep_dget (k := (Sum.inr ("stander" : Str) : Key)) 4 h_model_here (by decide +kernel) rfl rfl
    intro u15 h14
    obtain rfl := of_v h14
    refine ⟨_, rfl, ?_⟩
    apply rep_dget (k := (Sum.inr ("turned" : Str) : Key)) 5 h_model_here (by decide +kernel) rfl rfl
    intro u17 h16
    obtain rfl := of_v h16
    conv => whnf
    apply make_Rule_init (ms := ms) hW h8 hM
    intro p18 H22 r21 hM e20 h19
    replace h_model_here := rep_ext e20 h_model_here
    replace h8 := rep_ext e20 h8
    replace hW := hW.ret0 e20
    exact hQ r21 _ _ hM hW.out h19
def M_fewest (x_model_here : (Int × Str × Str × Str × Str × Bool)) (KM : Int → Prop) : Prop :=
  ((x_model_here.2.1.length + x_model_here.2.2.2.1.length ≤ sizeLine) ∧ ((x_model_here.2.1 ++ x_model_here.2.2.2.1).length ≤ sizeLine ∧ (KM (if ((x_model_here.2.1 ++ x_model_here.2.2.2.1).length : Int) > (1 : Int) then ((x_model_here.2.1 ++ x_model_here.2.2.2.1).length : Int) else (1 : Int)))))
def sp_fewest (A : Ad) : Sp := fun vs H Q _ => ∃ (ms : List Addr) (v_model_here : V) (x_model_here : (Int × Str × Str × Str × Str × Bool)) (KM : Int → Prop), vs = [v_model_here] ∧ Wd ms [] [] H H ∧ rep ms H (D.dct [(Sum.inr ("step" : Str) : Key), (Sum.inr ("head" : Str) : Key), (Sum.inr ("middle" : Str) : Key), (Sum.inr ("tail" : Str) : Key), (Sum.inr ("stander" : Str) : Key), (Sum.inr ("turned" : Str) : Key)] [(D.v (V.int x_model_here.1)), (D.v (V.str x_model_here.2.1)), (D.v (V.str x_model_here.2.2.1)), (D.v (V.str x_model_here.2.2.2.1)), (D.v (V.str x_model_here.2.2.2.2.1)), (D.v (V.bl x_model_here.2.2.2.2.2))]) v_model_here ∧ M_fewest x_model_here KM ∧ ∀ (r : Int) (u : V) (H1 : Hp), KM r → Ret [] H H1 → rep ms H1 (D.v (V.int r)) u → Q u H1
set_option maxHeartbeats 16000000 in
theorem ok_fewest {P : Program} {w : World} {K : PySem.W.Frag} {mg : Str → Option Value} {base : Heap} {A : Ad} (T : Txt w K mg A) : FnOk P w K mg base CX0 1 A.a_fewest A.d_fewest ["_law_model_here"] (sp_fewest A) := by
  refine T.F_fewest.ok sc_fewest (fun vs H Q E h => ?_) (fun cdv A_ outer s_ H_0 vs Q E hr h => ?_)
  · obtain ⟨ms, v_model_here, x_model_here, KM, rfl, _⟩ := h
    rfl
  · obtain ⟨ms, v_model_here, x_model_here, KM, rfl, hW, h_model_here, hM, hQ⟩ := h
    unfold M_fewest at hM
    refine ⟨_, (pss_one (ps_ret (pe_callB (call_max2 rfl) (by rfl) T.z_max (by decide +kernel) (pa_cons pe_int (pa_cons (pe_callB call_len_str (by rfl) T.z_len PySem.boot_len (pa_cons (pe_op op_add_str (pe_dget (hu_of hr) (pv 0) pe_str (fun _ _ => rfl)) (pe_dget (hu_of hr) (pv 0) pe_str (fun _ _ => rfl))) pa_nil)) pa_nil))))), ?_⟩
    refine ⟨_, rfl, ?_⟩
    apply rep_dget (k := (Sum.inr ("head" : Str) : Key)) 1 h_model_here (by decide +kernel) rfl rfl
    intro u2 h1
    obtain rfl := of_v h1
    refine ⟨_, rfl, ?_⟩
    apply rep_dget (k := (Sum.inr ("tail" : Str) : Key)) 3 h_model_here (by decide +kernel) rfl rfl
    intro u4 h3
    obtain rfl := of_v h3
    obtain ⟨g5, hM⟩ := hM
    refine ⟨_, _, rfl, rfl, g5, ?_⟩
    obtain ⟨g6, hM⟩ := hM
    refine ⟨_, rfl, g6, ?_⟩
    refine ⟨_, _, rfl, ?_⟩
    exact hQ (if ((x_model_here.2.1 ++ x_model_here.2.2.2.1).length : Int) > (1 : Int) then ((x_model_here.2.1 ++ x_model_here.2.2.2.1).length : Int) else (1 : Int)) _ _ hM hW.out rep_v
def M_great (x_model_here : (Int × Str × Str × Str × Str × Bool)) (KM : Int → Prop) : Prop :=
  (M_fewest x_model_here fun r1 => (M_pick ([((10 : Int) ^ Int.toNat (57 : Int)), ((10 : Int) ^ Int.toNat (40 : Int)), ((10 : Int) ^ Int.toNat (21 : Int)), ((10 : Int) ^ Int.toNat (9 : Int)), ((3 : Int) * ((10 : Int) ^ Int.toNat (58 : Int))), (999 : Int), (20 : Int)] : List Int) fun r12 => (M_draw (997 : Int) fun r17 => (KM (((2 : Int) * ((r1 + r12) + r17)) + (2 : Int))))))
def sp_great (A : Ad) : Sp := fun vs H Q _ => ∃ (ms : List Addr) (ap : Addr) (v_model_here : V) (x_model_here : (Int × Str × Str × Str × Str × Bool)) (KM : Int → Prop), vs = [.ref ap, v_model_here] ∧ Wd ms [(ap, none)] [] H H ∧ rep ms H (D.dct [(Sum.inr ("step" : Str) : Key), (Sum.inr ("head" : Str) : Key), (Sum.inr ("middle" : Str) : Key), (Sum.inr ("tail" : Str) : Key), (Sum.inr ("stander" : Str) : Key), (Sum.inr ("turned" : Str) : Key)] [(D.v (V.int x_model_here.1)), (D.v (V.str x_model_here.2.1)), (D.v (V.str x_model_here.2.2.1)), (D.v (V.str x_model_here.2.2.2.1)), (D.v (V.str x_model_here.2.2.2.2.1)), (D.v (V.bl x_model_here.2.2.2.2.2))]) v_model_here ∧ M_great x_model_here KM ∧ ∀ (r : Int) (u : V) (H1 : Hp), KM r → Ret [(ap, none)] H H1 → rep ms H1 (D.v (V.int r)) u → Q u H1
set_option maxHeartbeats 16000000 in
theorem ok_great {P : Program} {w : World} {K : PySem.W.Frag} {mg : Str → Option Value} {base : Heap} {A : Ad} (T : Txt w K mg A) : FnOk P w K mg base CX0 3 A.a_great A.d_great ["_law_pot_here", "_law_model_here"] (sp_great A) := by
  refine T.F_great.ok sc_great (fun vs H Q E h => ?_) (fun cdv A_ outer s_ H_0 vs Q E hr h => ?_)
  · obtain ⟨ms, ap, v_model_here, x_model_here, KM, rfl, _⟩ := h
    rfl
  · obtain ⟨ms, ap, v_model_here, x_model_here, KM, rfl, hW, h_model_here, hM, hQ⟩ := h
    unfold M_great at hM
    refine ⟨_, (pss_cons (ps_set (i := 2) sc_great.nd rfl (by first | exact Or.inl rfl | exact Or.inr rfl) (pe_op op_add (pe_call (ok_fewest T) (hr.mono (by decide)) (by rfl) T.g_fewest T.F_fewest.kp T.b_fewest .nil pass0 (pa_cons (pv 1) pa_nil)) (pe_call (ok_pick T) (hr.mono (by decide)) (by rfl) T.g_pick T.F_pick.kp T.b_pick .nil pass0 (pa_cons (pv 0) (pa_cons (pe_lst (pa_cons (pe_op op_pow pe_int pe_int) (pa_cons (pe_op op_pow pe_int pe_int) (pa_cons (pe_op op_pow pe_int pe_int) (pa_cons (pe_op op_pow pe_int pe_int) (pa_cons (pe_op op_mul pe_int (pe_op op_pow pe_int pe_int)) (pa_cons pe_int (pa_cons pe_int pa_nil)))))))) pa_nil))))) (pss_one (ps_ret (pe_op op_add (pe_op op_mul pe_int (pe_op op_add (pv 2) (pe_call (ok_draw T) (hr.mono (by decide)) (by rfl) T.g_draw T.F_draw.kp T.b_draw .nil pass0 (pa_cons (pv 0) (pa_cons pe_int pa_nil))))) pe_int)))), ?_⟩
    refine ⟨_, rfl, ?_⟩
    refine ⟨ms, _, x_model_here, _, rfl, hW.enter0, h_model_here, hM, fun r1 u4 H5 hM e3 h2 => ?_⟩
    replace h_model_here := rep_ext e3 h_model_here
    replace hW := hW.ret0 e3
    obtain rfl := of_v h2
    refine ⟨_, rfl, ?_⟩
    refine ⟨_, _, rfl, rfl, ⟨by decide, by decide, by decide⟩, ?_⟩
    refine ⟨_, _, rfl, rfl, ⟨by decide, by decide, by decide⟩, ?_⟩
    refine ⟨_, _, rfl, rfl, ⟨by decide, by decide, by decide⟩, ?_⟩
    refine ⟨_, _, rfl, rfl, ⟨by decide, by decide, by decide⟩, ?_⟩
    refine ⟨_, _, rfl, rfl, ⟨by decide, by decide, by decide⟩, ?_⟩
    refine ⟨_, _, rfl, rfl, .inl ⟨by decide, by decide⟩, ?_⟩
    refine ⟨(by show 7 ≤ sizeLine; decide), ?_⟩
    intro p6 n10
    have e7 := Rx.Ext.new (H := H5) (o := (HO.lst [V.int ((10 : Int) ^ Int.toNat (57 : Int)), V.int ((10 : Int) ^ Int.toNat (40 : Int)), V.int ((10 : Int) ^ Int.toNat (21 : Int)), V.int ((10 : Int) ^ Int.toNat (9 : Int)), V.int ((3 : Int) * ((10 : Int) ^ Int.toNat (58 : Int))), V.int (999 : Int), V.int (20 : Int)])) n10
    have hp8 : upd H5 p6 (HO.lst [V.int ((10 : Int) ^ Int.toNat (57 : Int)), V.int ((10 : Int) ^ Int.toNat (40 : Int)), V.int ((10 : Int) ^ Int.toNat (21 : Int)), V.int ((10 : Int) ^ Int.toNat (9 : Int)), V.int ((3 : Int) * ((10 : Int) ^ Int.toNat (58 : Int))), V.int (999 : Int), V.int (20 : Int)]) p6 = some (HO.lst [V.int ((10 : Int) ^ Int.toNat (57 : Int)), V.int ((10 : Int) ^ Int.toNat (40 : Int)), V.int ((10 : Int) ^ Int.toNat (21 : Int)), V.int ((10 : Int) ^ Int.toNat (9 : Int)), V.int ((3 : Int) * ((10 : Int) ^ Int.toNat (58 : Int))), V.int (999 : Int), V.int (20 : Int)]) := upd_same
    generalize upd H5 p6 (HO.lst [V.int ((10 : Int) ^ Int.toNat (57 : Int)), V.int ((10 : Int) ^ Int.toNat (40 : Int)), V.int ((10 : Int) ^ Int.toNat (21 : Int)), V.int ((10 : Int) ^ Int.toNat (9 : Int)), V.int ((3 : Int) * ((10 : Int) ^ Int.toNat (58 : Int))), V.int (999 : Int), V.int (20 : Int)]) = H11 at e7 hp8 ⊢
    have h9 : rep ms H11 (D.lst (([((10 : Int) ^ Int.toNat (57 : Int)), ((10 : Int) ^ Int.toNat (40 : Int)), ((10 : Int) ^ Int.toNat (21 : Int)), ((10 : Int) ^ Int.toNat (9 : Int)), ((3 : Int) * ((10 : Int) ^ Int.toNat (58 : Int))), (999 : Int), (20 : Int)] : List Int).map (fun y_ : Int => (D.v (V.int y_))))) (.ref p6) := rep_lst_mk hW n10 e7 hp8 (repL_cons rep_v (repL_cons rep_v (repL_cons rep_v (repL_cons rep_v (repL_cons rep_v (repL_cons rep_v (repL_cons rep_v repL_nil)))))))
    replace h_model_here := rep_ext e7 h_model_here
    replace hW := hW.ret0 e7
    refine ⟨ms, ap, _, ([((10 : Int) ^ Int.toNat (57 : Int)), ((10 : Int) ^ Int.toNat (40 : Int)), ((10 : Int) ^ Int.toNat (21 : Int)), ((10 : Int) ^ Int.toNat (9 : Int)), ((3 : Int) * ((10 : Int) ^ Int.toNat (58 : Int))), (999 : Int), (20 : Int)] : List Int), _, rfl, hW.enterP, h9, hM, fun r12 u15 H16 hM e14 h13 => ?_⟩
    replace h_model_here := rep_ret hW e14 h_model_here
    replace h9 := rep_ret hW e14 h9
    replace hW := hW.retP e14
    obtain rfl := of_v h13
    refine ⟨_, _, rfl, rfl, ?_⟩
    refine ⟨_, rfl, ?_⟩
    refine ⟨_, rfl, ?_⟩
    refine ⟨ms, ap, (997 : Int), _, rfl, hW.enterP, hM, fun r17 u20 H21 hM e19 h18 => ?_⟩
    replace h_model_here := rep_ret hW e19 h_model_here
    replace h9 := rep_ret hW e19 h9
    replace hW := hW.retP e19
    obtain rfl := of_v h18
    refine ⟨_, _, rfl, rfl, ?_⟩
    refine ⟨_, _, rfl, rfl, .inl ⟨by decide, by decide⟩, ?_⟩
    refine ⟨_, _, rfl, rfl, ?_⟩
    exact hQ (((2 : Int) * ((r1 + r12) + r17)) + (2 : Int)) _ _ hM hW.out rep_v
def M_team (x_model_here : (Int × Str × Str × Str × Str × Bool)) (x_n : Int) (KM : Int → Prop) : Prop :=
  (M_pick ([(0 : Int), (1 : Int), (x_n / (3 : Int)), (x_n / (2 : Int)), (x_n - (2 : Int)), (((7 : Int) * x_n) / (8 : Int))] : List Int) fun r7 => (M_draw (9 : Int) fun r12 => (CMulW x_model_here.1 (x_n - (2 : Int)) ∧ (0 < (x_n - (1 : Int)) ∧ (0 < (x_n - (1 : Int)) ∧ (0 < (x_n - (1 : Int)) ∧ (M_pick ([(0 : Int), ((x_model_here.1 * (x_n - (2 : Int))) % (x_n - (1 : Int))), (x_n - (2 : Int)), (x_n - (1 : Int)), ((r7 + r12) % (x_n - (1 : Int))), ((r7 + r12) % (x_n - (1 : Int)))] : List Int) fun r29 => (KM r29))))))))
def sp_team (A : Ad) : Sp := fun vs H Q _ => ∃ (ms : List Addr) (ap : Addr) (v_model_here : V) (x_model_here : (Int × Str × Str × Str × Str × Bool)) (x_n : Int) (KM : Int → Prop), vs = [.ref ap, v_model_here, V.int x_n] ∧ Wd ms [(ap, none)] [] H H ∧ rep ms H (D.dct [(Sum.inr ("step" : Str) : Key), (Sum.inr ("head" : Str) : Key), (Sum.inr ("middle" : Str) : Key), (Sum.inr ("tail" : Str) : Key), (Sum.inr ("stander" : Str) : Key), (Sum.inr ("turned" : Str) : Key)] [(D.v (V.int x_model_here.1)), (D.v (V.str x_model_here.2.1)), (D.v (V.str x_model_here.2.2.1)), (D.v (V.str x_model_here.2.2.2.1)), (D.v (V.str x_model_here.2.2.2.2.1)), (D.v (V.bl x_model_here.2.2.2.2.2))]) v_model_here ∧ M_team x_model_here x_n KM ∧ ∀ (r : Int) (u : V) (H1 : Hp), KM r → Ret [(ap, none)] H H1 → rep ms H1 (D.v (V.int r)) u → Q u H1
set_option maxHeartbeats 16000000 in
theorem ok_team {P : Program} {w : World} {K : PySem.W.Frag} {mg : Str → Option Value} {base : Heap} {A : Ad} (T : Txt w K mg A) : FnOk P w K mg base CX0 3 A.a_team A.d_team ["_law_pot_here", "_law_model_here", "_law_n"] (sp_team A) := by
  refine T.F_team.ok sc_team (fun vs H Q E h => ?_) (fun cdv A_ outer s_ H_0 vs Q E hr h => ?_)
  · obtain ⟨ms, ap, v_model_here, x_model_here, x_n, KM, rfl, _⟩ := h
    rfl
  · obtain ⟨ms, ap, v_model_here, x_model_here, x_n, KM, rfl, hW, h_model_here, hM, hQ⟩ := h
    unfold M_team at hM
    refine ⟨_, (pss_cons (ps_set (i := 3) sc_team.nd rfl (by first | exact Or.inl rfl | exact Or.inr rfl) (pe_op op_add (pe_call (ok_pick T) (hr.mono (by decide)) (by rfl) T.g_pick T.F_pick.kp T.b_pick .nil pass0 (pa_cons (pv 0) (pa_cons (pe_lst (pa_cons pe_int (pa_cons pe_int (pa_cons (pe_op op_fdivW (pv 2) pe_int) (pa_cons (pe_op op_fdivW (pv 2) pe_int) (pa_cons (pe_op op_sub (pv 2) pe_int) (pa_cons (pe_op op_fdivW (pe_op op_mul pe_int (pv 2)) pe_int) pa_nil))))))) pa_nil))) (pe_call (ok_draw T) (hr.mono (by decide)) (by rfl) T.g_draw T.F_draw.kp T.b_draw .nil pass0 (pa_cons (pv 0) (pa_cons pe_int pa_nil))))) (pss_one (ps_ret (pe_call (ok_pick T) (hr.mono (by decide)) (by rfl) T.g_pick T.F_pick.kp T.b_pick .nil pass0 (pa_cons (pv 0) (pa_cons (pe_lst (pa_cons pe_int (pa_cons (pe_op op_mod (pe_op op_mulW (pe_dget (hu_of hr) (pv 1) pe_str (fun _ _ => rfl)) (pe_op op_sub (pv 2) pe_int)) (pe_op op_sub (pv 2) pe_int)) (pa_cons (pe_op op_sub (pv 2) pe_int) (pa_cons (pe_op op_sub (pv 2) pe_int) (pa_cons (pe_op op_mod (pv 3) (pe_op op_sub (pv 2) pe_int)) (pa_cons (pe_op op_mod (pv 3) (pe_op op_sub (pv 2) pe_int)) pa_nil))))))) pa_nil)))))), ?_⟩
    refine ⟨_, rfl, ?_⟩
    refine ⟨_, rfl, ?_⟩
    refine ⟨_, _, rfl, rfl, ⟨by decide, by decide⟩, ?_⟩
    refine ⟨_, rfl, ?_⟩
    refine ⟨_, _, rfl, rfl, ⟨by decide, by decide⟩, ?_⟩
    refine ⟨_, rfl, ?_⟩
    refine ⟨_, _, rfl, rfl, ?_⟩
    refine ⟨_, rfl, ?_⟩
    refine ⟨_, _, rfl, rfl, .inl ⟨by decide, by decide⟩, ?_⟩
    refine ⟨_, _, rfl, rfl, ⟨by decide, by decide⟩, ?_⟩
    refine ⟨(by show 6 ≤ sizeLine; decide), ?_⟩
    intro p1 n5
    have e2 := Rx.Ext.new (H := H_0) (o := (HO.lst [V.int (0 : Int), V.int (1 : Int), V.int (x_n / (3 : Int)), V.int (x_n / (2 : Int)), V.int (x_n - (2 : Int)), V.int (((7 : Int) * x_n) / (8 : Int))])) n5
    have hp3 : upd H_0 p1 (HO.lst [V.int (0 : Int), V.int (1 : Int), V.int (x_n / (3 : Int)), V.int (x_n / (2 : Int)), V.int (x_n - (2 : Int)), V.int (((7 : Int) * x_n) / (8 : Int))]) p1 = some (HO.lst [V.int (0 : Int), V.int (1 : Int), V.int (x_n / (3 : Int)), V.int (x_n / (2 : Int)), V.int (x_n - (2 : Int)), V.int (((7 : Int) * x_n) / (8 : Int))]) := upd_same
    generalize upd H_0 p1 (HO.lst [V.int (0 : Int), V.int (1 : Int), V.int (x_n / (3 : Int)), V.int (x_n / (2 : Int)), V.int (x_n - (2 : Int)), V.int (((7 : Int) * x_n) / (8 : Int))]) = H6 at e2 hp3 ⊢
    have h4 : rep ms H6 (D.lst (([(0 : Int), (1 : Int), (x_n / (3 : Int)), (x_n / (2 : Int)), (x_n - (2 : Int)), (((7 : Int) * x_n) / (8 : Int))] : List Int).map (fun y_ : Int => (D.v (V.int y_))))) (.ref p1) := rep_lst_mk hW n5 e2 hp3 (repL_cons rep_v (repL_cons rep_v (repL_cons rep_v (repL_cons rep_v (repL_cons rep_v (repL_cons rep_v repL_nil))))))
    replace h_model_here := rep_ext e2 h_model_here
    replace hW := hW.ret0 e2
    refine ⟨ms, ap, _, ([(0 : Int), (1 : Int), (x_n / (3 : Int)), (x_n / (2 : Int)), (x_n - (2 : Int)), (((7 : Int) * x_n) / (8 : Int))] : List Int), _, rfl, hW.enterP, h4, hM, fun r7 u10 H11 hM e9 h8 => ?_⟩
    replace h_model_here := rep_ret hW e9 h_model_here
    replace h4 := rep_ret hW e9 h4
    replace hW := hW.retP e9
    obtain rfl := of_v h8
    refine ⟨_, rfl, ?_⟩
    refine ⟨ms, ap, (9 : Int), _, rfl, hW.enterP, hM, fun r12 u15 H16 hM e14 h13 => ?_⟩
    replace h_model_here := rep_ret hW e14 h_model_here
    replace h4 := rep_ret hW e14 h4
    replace hW := hW.retP e14
    obtain rfl := of_v h13
    refine ⟨_, _, rfl, rfl, ?_⟩
    refine ⟨_, rfl, ?_⟩
    refine ⟨_, rfl, ?_⟩
    apply rep_dget (k := (Sum.inr ("step" : Str) : Key)) 0 h_model_here (by decide +kernel) rfl rfl
    intro u18 h17
    obtain rfl := of_v h17
    refine ⟨_, rfl, ?_⟩
    refine ⟨_, _, rfl, rfl, ?_⟩
    obtain ⟨g19, hM⟩ := hM
    refine ⟨_, _, rfl, rfl, g19, ?_⟩
    refine ⟨_, rfl, ?_⟩
    refine ⟨_, _, rfl, rfl, ?_⟩
    obtain ⟨g20, hM⟩ := hM
    refine ⟨_, _, rfl, rfl, g20, ?_⟩
    refine ⟨_, rfl, ?_⟩
    refine ⟨_, _, rfl, rfl, ?_⟩
    refine ⟨_, rfl, ?_⟩
    refine ⟨_, _, rfl, rfl, ?_⟩
    refine ⟨_, rfl, ?_⟩
    refine ⟨_, rfl, ?_⟩
    refine ⟨_, _, rfl, rfl, ?_⟩
    obtain ⟨g21, hM⟩ := hM
    refine ⟨_, _, rfl, rfl, g21, ?_⟩
    refine ⟨_, rfl, ?_⟩
    refine ⟨_, rfl, ?_⟩
    refine ⟨_, _, rfl, rfl, ?_⟩
    obtain ⟨g22, hM⟩ := hM
    refine ⟨_, _, rfl, rfl, g22, ?_⟩
    refine ⟨(by show 6 ≤ sizeLine; decide), ?_⟩
    intro p23 n27
    have e24 := Rx.Ext.new (H := H16) (o := (HO.lst [V.int (0 : Int), V.int ((x_model_here.1 * (x_n - (2 : Int))) % (x_n - (1 : Int))), V.int (x_n - (2 : Int)), V.int (x_n - (1 : Int)), V.int ((r7 + r12) % (x_n - (1 : Int))), V.int ((r7 + r12) % (x_n - (1 : Int)))])) n27
    have hp25 : upd H16 p23 (HO.lst [V.int (0 : Int), V.int ((x_model_here.1 * (x_n - (2 : Int))) % (x_n - (1 : Int))), V.int (x_n - (2 : Int)), V.int (x_n - (1 : Int)), V.int ((r7 + r12) % (x_n - (1 : Int))), V.int ((r7 + r12) % (x_n - (1 : Int)))]) p23 = some (HO.lst [V.int (0 : Int), V.int ((x_model_here.1 * (x_n - (2 : Int))) % (x_n - (1 : Int))), V.int (x_n - (2 : Int)), V.int (x_n - (1 : Int)), V.int ((r7 + r12) % (x_n - (1 : Int))), V.int ((r7 + r12) % (x_n - (1 : Int)))]) := upd_same
    generalize upd H16 p23 (HO.lst [V.int (0 : Int), V.int ((x_model_here.1 * (x_n - (2 : Int))) % (x_n - (1 : Int))), V.int (x_n - (2 : Int)), V.int (x_n - (1 : Int)), V.int ((r7 + r12) % (x_n - (1 : Int))), V.int ((r7 + r12) % (x_n - (1 : Int)))]) = H28 at e24 hp25 ⊢
    have h26 : rep ms H28 (D.lst (([(0 : Int), ((x_model_here.1 * (x_n - (2 : Int))) % (x_n - (1 : Int))), (x_n - (2 : Int)), (x_n - (1 : Int)), ((r7 + r12) % (x_n - (1 : Int))), ((r7 + r12) % (x_n - (1 : Int)))] : List Int).map (fun y_ : Int => (D.v (V.int y_))))) (.ref p23) := rep_lst_mk hW n27 e24 hp25 (repL_cons rep_v (repL_cons rep_v (repL_cons rep_v (repL_cons rep_v (repL_cons rep_v (repL_cons rep_v repL_nil))))))
    replace h_model_here := rep_ext e24 h_model_here
    replace h4 := rep_ext e24 h4
    replace hW := hW.ret0 e24
    refine ⟨ms, ap, _, ([(0 : Int), ((x_model_here.1 * (x_n - (2 : Int))) % (x_n - (1 : Int))), (x_n - (2 : Int)), (x_n - (1 : Int)), ((r7 + r12) % (x_n - (1 : Int))), ((r7 + r12) % (x_n - (1 : Int)))] : List Int), _, rfl, hW.enterP, h26, hM, fun r29 u32 H33 hM e31 h30 => ?_⟩
    replace h_model_here := rep_ret hW e31 h_model_here
    replace h4 := rep_ret hW e31 h4
    replace h26 := rep_ret hW e31 h26
    replace hW := hW.retP e31
    obtain rfl := of_v h30
    exact hQ r29 _ _ hM hW.out rep_v
def M_edge (x_model_here : (Int × Str × Str × Str × Str × Bool)) (x_n : Int) (x_team_now : Int) (KM : Int → Prop) : Prop :=
  (M_pick ([(0 : Int), ((x_n / (2 : Int)) - (1 : Int)), (x_n / (2 : Int))] : List Int) fun r9 => (M_draw ((if x_model_here.1 < 0 then -x_model_here.1 else x_model_here.1) + (1 : Int)) fun r14 => (CMulW (x_n - (1 : Int)) r14 ∧ (∃ KB20 : Int → Prop, (if (decide ((0 : Int) < x_model_here.1)) = true then (KB20 ((r9 + ((x_n - (1 : Int)) * r14)) + x_team_now)) else (KB20 ((r9 + ((x_n - (1 : Int)) * r14)) - x_team_now))) ∧ ∀ r25 : Int, KB20 r25 → (CMulW (x_n - (1 : Int)) (if x_model_here.1 < 0 then -x_model_here.1 else x_model_here.1) ∧ (0 < ((x_n - (1 : Int)) * (if x_model_here.1 < 0 then -x_model_here.1 else x_model_here.1)) ∧ (CDivW (r25 % ((x_n - (1 : Int)) * (if x_model_here.1 < 0 then -x_model_here.1 else x_model_here.1))) (if x_model_here.1 < 0 then -x_model_here.1 else x_model_here.1) ∧ (M_draw (13 : Int) fun r31 => (KM (if (x_n - (2 : Int)) < (if ((((r25 % ((x_n - (1 : Int)) * (if x_model_here.1 < 0 then -x_model_here.1 else x_model_here.1))) / (if x_model_here.1 < 0 then -x_model_here.1 else x_model_here.1)) + r31) - (6 : Int)) > (0 : Int) then ((((r25 % ((x_n - (1 : Int)) * (if x_model_here.1 < 0 then -x_model_here.1 else x_model_here.1))) / (if x_model_here.1 < 0 then -x_model_here.1 else x_model_here.1)) + r31) - (6 : Int)) else (0 : Int)) then (x_n - (2 : Int)) else (if ((((r25 % ((x_n - (1 : Int)) * (if x_model_here.1 < 0 then -x_model_here.1 else x_model_here.1))) / (if x_model_here.1 < 0 then -x_model_here.1 else x_model_here.1)) + r31) - (6 : Int)) > (0 : Int) then ((((r25 % ((x_n - (1 : Int)) * (if x_model_here.1 < 0 then -x_model_here.1 else x_model_here.1))) / (if x_model_here.1 < 0 then -x_model_here.1 else x_model_here.1)) + r31) - (6 : Int)) else (0 : Int))))))))))))
def sp_edge (A : Ad) : Sp := fun vs H Q _ => ∃ (ms : List Addr) (ap : Addr) (v_model_here : V) (x_model_here : (Int × Str × Str × Str × Str × Bool)) (x_n : Int) (x_team_now : Int) (KM : Int → Prop), vs = [.ref ap, v_model_here, V.int x_n, V.int x_team_now] ∧ Wd ms [(ap, none)] [] H H ∧ rep ms H (D.dct [(Sum.inr ("step" : Str) : Key), (Sum.inr ("head" : Str) : Key), (Sum.inr ("middle" : Str) : Key), (Sum.inr ("tail" : Str) : Key), (Sum.inr ("stander" : Str) : Key), (Sum.inr ("turned" : Str) : Key)] [(D.v (V.int x_model_here.1)), (D.v (V.str x_model_here.2.1)), (D.v (V.str x_model_here.2.2.1)), (D.v (V.str x_model_here.2.2.2.1)), (D.v (V.str x_model_here.2.2.2.2.1)), (D.v (V.bl x_model_here.2.2.2.2.2))]) v_model_here ∧ M_edge x_model_here x_n x_team_now KM ∧ ∀ (r : Int) (u : V) (H1 : Hp), KM r → Ret [(ap, none)] H H1 → rep ms H1 (D.v (V.int r)) u → Q u H1
set_option maxHeartbeats 16000000 in
theorem ok_edge {P : Program} {w : World} {K : PySem.W.Frag} {mg : Str → Option Value} {base : Heap} {A : Ad} (T : Txt w K mg A) : FnOk P w K mg base CX0 3 A.a_edge A.d_edge ["_law_pot_here", "_law_model_here", "_law_n", "_law_team_now"] (sp_edge A) := by
  refine T.F_edge.ok sc_edge (fun vs H Q E h => ?_) (fun cdv A_ outer s_ H_0 vs Q E hr h => ?_)
  · obtain ⟨ms, ap, v_model_here, x_model_here, x_n, x_team_now, KM, rfl, _⟩ := h
    rfl
  · obtain ⟨ms, ap, v_model_here, x_model_here, x_n, x_team_now, KM, rfl, hW, h_model_here, hM, hQ⟩ := h
    unfold M_edge at hM
    refine ⟨_, (pss_cons (ps_par (i := 4) (j := 5) (by rfl) sc_edge.nd rfl rfl (by decide) rfl rfl (pa_cons (pe_op op_sub (pv 2) pe_int) (pa_cons (pe_callB call_abs (by rfl) T.z_abs (by decide +kernel) (pa_cons (pe_dget (hu_of hr) (pv 1) pe_str (fun _ _ => rfl)) pa_nil)) pa_nil)) (by rfl)) (pss_cons (ps_set (i := 6) sc_edge.nd rfl (by first | exact Or.inl rfl | exact Or.inr rfl) (pe_op op_add (pe_call (ok_pick T) (hr.mono (by decide)) (by rfl) T.g_pick T.F_pick.kp T.b_pick .nil pass0 (pa_cons (pv 0) (pa_cons (pe_lst (pa_cons pe_int (pa_cons (pe_op op_sub (pe_op op_fdivW (pv 2) pe_int) pe_int) (pa_cons (pe_op op_fdivW (pv 2) pe_int) pa_nil)))) pa_nil))) (pe_op op_mulW (pv 4) (pe_call (ok_draw T) (hr.mono (by decide)) (by rfl) T.g_draw T.F_draw.kp T.b_draw .nil pass0 (pa_cons (pv 0) (pa_cons (pe_op op_add (pv 5) pe_int) pa_nil)))))) (pss_cons (ps_set (i := 7) sc_edge.nd rfl (by first | exact Or.inl rfl | exact Or.inr rfl) (pe_up (pe_ifExp (pt_cmpR op_gt (pe_dget (hu_of hr) (pv 1) pe_str (fun _ _ => rfl)) pe_int (nomark _)) (pe_op op_add (pv 6) (pv 3)) (pe_op op_sub (pv 6) (pv 3))))) (pss_cons (ps_set (i := 8) sc_edge.nd rfl (by first | exact Or.inl rfl | exact Or.inr rfl) (pe_op op_sub (pe_op op_add (pe_op op_fdivW (pe_op op_mod (pv 7) (pe_op op_mulW (pv 4) (pv 5))) (pv 5)) (pe_call (ok_draw T) (hr.mono (by decide)) (by rfl) T.g_draw T.F_draw.kp T.b_draw .nil pass0 (pa_cons (pv 0) (pa_cons pe_int pa_nil)))) pe_int)) (pss_one (ps_ret (pe_callB (call_min2 rfl) (by rfl) T.z_min (by decide +kernel) (pa_cons (pe_callB (call_max2 rfl) (by rfl) T.z_max (by decide +kernel) (pa_cons pe_int (pa_cons (pv 8) pa_nil))) (pa_cons (pe_op op_sub (pv 2) pe_int) pa_nil))))))))), ?_⟩
    refine ⟨_, rfl, ?_⟩
    refine ⟨_, _, rfl, rfl, ?_⟩
    refine ⟨_, rfl, ?_⟩
    apply rep_dget (k := (Sum.inr ("step" : Str) : Key)) 0 h_model_here (by decide +kernel) rfl rfl
    intro u2 h1
    obtain rfl := of_v h1
    refine ⟨_, rfl, ?_⟩
    refine ⟨_, _, rfl, ?_⟩
    refine ⟨_, rfl, ?_⟩
    refine ⟨_, rfl, ?_⟩
    refine ⟨_, _, rfl, rfl, ⟨by decide, by decide⟩, ?_⟩
    refine ⟨_, _, rfl, rfl, ?_⟩
    refine ⟨_, rfl, ?_⟩
    refine ⟨_, _, rfl, rfl, ⟨by decide, by decide⟩, ?_⟩
    refine ⟨(by show 3 ≤ sizeLine; decide), ?_⟩
    intro p3 n7
    have e4 := Rx.Ext.new (H := H_0) (o := (HO.lst [V.int (0 : Int), V.int ((x_n / (2 : Int)) - (1 : Int)), V.int (x_n / (2 : Int))])) n7
    have hp5 : upd H_0 p3 (HO.lst [V.int (0 : Int), V.int ((x_n / (2 : Int)) - (1 : Int)), V.int (x_n / (2 : Int))]) p3 = some (HO.lst [V.int (0 : Int), V.int ((x_n / (2 : Int)) - (1 : Int)), V.int (x_n / (2 : Int))]) := upd_same
    generalize upd H_0 p3 (HO.lst [V.int (0 : Int), V.int ((x_n / (2 : Int)) - (1 : Int)), V.int (x_n / (2 : Int))]) = H8 at e4 hp5 ⊢
    have h6 : rep ms H8 (D.lst (([(0 : Int), ((x_n / (2 : Int)) - (1 : Int)), (x_n / (2 : Int))] : List Int).map (fun y_ : Int => (D.v (V.int y_))))) (.ref p3) := rep_lst_mk hW n7 e4 hp5 (repL_cons rep_v (repL_cons rep_v (repL_cons rep_v repL_nil)))
    replace h_model_here := rep_ext e4 h_model_here
    replace hW := hW.ret0 e4
    refine ⟨ms, ap, _, ([(0 : Int), ((x_n / (2 : Int)) - (1 : Int)), (x_n / (2 : Int))] : List Int), _, rfl, hW.enterP, h6, hM, fun r9 u12 H13 hM e11 h10 => ?_⟩
    replace h_model_here := rep_ret hW e11 h_model_here
    replace h6 := rep_ret hW e11 h6
    replace hW := hW.retP e11
    obtain rfl := of_v h10
    refine ⟨_, rfl, ?_⟩
    refine ⟨_, rfl, ?_⟩
    refine ⟨_, rfl, ?_⟩
    refine ⟨_, _, rfl, rfl, ?_⟩
    refine ⟨ms, ap, ((if x_model_here.1 < 0 then -x_model_here.1 else x_model_here.1) + (1 : Int)), _, rfl, hW.enterP, hM, fun r14 u17 H18 hM e16 h15 => ?_⟩
    replace h_model_here := rep_ret hW e16 h_model_here
    replace h6 := rep_ret hW e16 h6
    replace hW := hW.retP e16
    obtain rfl := of_v h15
    obtain ⟨g19, hM⟩ := hM
    refine ⟨_, _, rfl, rfl, g19, ?_⟩
    refine ⟨_, _, rfl, rfl, ?_⟩
    obtain ⟨KB20, hM, hKKB20⟩ := hM
    refine ⟨fun v H1 => ∃ r : Int, KB20 r ∧ Wd ms [(ap, none)] [] H_0 H1 ∧ Keep ms H18 H1 ∧ rep ms H1 (D.v (V.int r)) v, ?_, ?_⟩
    · skip
      have hj22 := Keep.refl (ms := ms) (H := H18)
      refine ⟨_, rfl, ?_⟩
      apply rep_dget (k := (Sum.inr ("step" : Str) : Key)) 0 h_model_here (by decide +kernel) rfl rfl
      intro u24 h23
      obtain rfl := of_v h23
      refine ⟨_, _, rfl, rfl, ?_⟩
      refine ⟨_, rfl, ?_⟩
      refine ite3 hM (fun hM => ?_) (fun hM => ?_)
      · skip
        refine ⟨_, rfl, ?_⟩
        refine ⟨_, rfl, ?_⟩
        refine ⟨_, _, rfl, rfl, ?_⟩
        exact ⟨((r9 + ((x_n - (1 : Int)) * r14)) + x_team_now), hM, hW, hj22, rep_v⟩
      · skip
        refine ⟨_, rfl, ?_⟩
        refine ⟨_, rfl, ?_⟩
        refine ⟨_, _, rfl, rfl, ?_⟩
        exact ⟨((r9 + ((x_n - (1 : Int)) * r14)) - x_team_now), hM, hW, hj22, rep_v⟩
    · skip
      rintro u27 Hj21 ⟨r25, hr, hW, hj22, h26⟩
      replace hM := hKKB20 r25 hr
      replace h_model_here := rep_keep hj22 h_model_here
      replace h6 := rep_keep hj22 h6
      obtain rfl := of_v h26
      refine ⟨_, rfl, ?_⟩
      refine ⟨_, rfl, ?_⟩
      refine ⟨_, rfl, ?_⟩
      obtain ⟨g28, hM⟩ := hM
      refine ⟨_, _, rfl, rfl, g28, ?_⟩
      obtain ⟨g29, hM⟩ := hM
      refine ⟨_, _, rfl, rfl, g29, ?_⟩
      refine ⟨_, rfl, ?_⟩
      obtain ⟨g30, hM⟩ := hM
      refine ⟨_, _, rfl, rfl, g30, ?_⟩
      refine ⟨_, rfl, ?_⟩
      refine ⟨ms, ap, (13 : Int), _, rfl, hW.enterP, hM, fun r31 u34 H35 hM e33 h32 => ?_⟩
      replace h_model_here := rep_ret hW e33 h_model_here
      replace h6 := rep_ret hW e33 h6
      replace hW := hW.retP e33
      obtain rfl := of_v h32
      refine ⟨_, _, rfl, rfl, ?_⟩
      refine ⟨_, _, rfl, rfl, ?_⟩
      refine ⟨_, rfl, ?_⟩
      refine ⟨_, _, rfl, ?_⟩
      refine ⟨_, rfl, ?_⟩
      refine ⟨_, _, rfl, rfl, ?_⟩
      refine ⟨_, _, rfl, ?_⟩
      exact hQ (if (x_n - (2 : Int)) < (if ((((r25 % ((x_n - (1 : Int)) * (if x_model_here.1 < 0 then -x_model_here.1 else x_model_here.1))) / (if x_model_here.1 < 0 then -x_model_here.1 else x_model_here.1)) + r31) - (6 : Int)) > (0 : Int) then ((((r25 % ((x_n - (1 : Int)) * (if x_model_here.1 < 0 then -x_model_here.1 else x_model_here.1))) / (if x_model_here.1 < 0 then -x_model_here.1 else x_model_here.1)) + r31) - (6 : Int)) else (0 : Int)) then (x_n - (2 : Int)) else (if ((((r25 % ((x_n - (1 : Int)) * (if x_model_here.1 < 0 then -x_model_here.1 else x_model_here.1))) / (if x_model_here.1 < 0 then -x_model_here.1 else x_model_here.1)) + r31) - (6 : Int)) > (0 : Int) then ((((r25 % ((x_n - (1 : Int)) * (if x_model_here.1 < 0 then -x_model_here.1 else x_model_here.1))) / (if x_model_here.1 < 0 then -x_model_here.1 else x_model_here.1)) + r31) - (6 : Int)) else (0 : Int))) _ _ hM hW.out rep_v
def M_round (x_model_here : (Int × Str × Str × Str × Str × Bool)) (x_n : Int) (x_team_now : Int) (KM : Int → Prop) : Prop :=
  (M_draw (2 : Int) fun r1 => (if (decide (V.int r1 = V.int (0 : Int))) = true then (if (decide (x_team_now < (x_n - (1 : Int)))) = true then (M_edge x_model_here x_n x_team_now fun r6 => (KM r6)) else (M_pick ([(0 : Int), (x_n / (2 : Int)), (x_n - (2 : Int)), (x_n / (7 : Int)), ((10 : Int) ^ Int.toNat (8 : Int))] : List Int) fun r17 => (M_draw (50 : Int) fun r22 => (0 < (x_n - (1 : Int)) ∧ (KM ((r17 + r22) % (x_n - (1 : Int)))))))) else (M_pick ([(0 : Int), (x_n / (2 : Int)), (x_n - (2 : Int)), (x_n / (7 : Int)), ((10 : Int) ^ Int.toNat (8 : Int))] : List Int) fun r34 => (M_draw (50 : Int) fun r39 => (0 < (x_n - (1 : Int)) ∧ (KM ((r34 + r39) % (x_n - (1 : Int)))))))))
def sp_round (A : Ad) : Sp := fun vs H Q _ => ∃ (ms : List Addr) (ap : Addr) (v_model_here : V) (x_model_here : (Int × Str × Str × Str × Str × Bool)) (x_n : Int) (x_team_now : Int) (KM : Int → Prop), vs = [.ref ap, v_model_here, V.int x_n, V.int x_team_now] ∧ Wd ms [(ap, none)] [] H H ∧ rep ms H (D.dct [(Sum.inr ("step" : Str) : Key), (Sum.inr ("head" : Str) : Key), (Sum.inr ("middle" : Str) : Key), (Sum.inr ("tail" : Str) : Key), (Sum.inr ("stander" : Str) : Key), (Sum.inr ("turned" : Str) : Key)] [(D.v (V.int x_model_here.1)), (D.v (V.str x_model_here.2.1)), (D.v (V.str x_model_here.2.2.1)), (D.v (V.str x_model_here.2.2.2.1)), (D.v (V.str x_model_here.2.2.2.2.1)), (D.v (V.bl x_model_here.2.2.2.2.2))]) v_model_here ∧ M_round x_model_here x_n x_team_now KM ∧ ∀ (r : Int) (u : V) (H1 : Hp), KM r → Ret [(ap, none)] H H1 → rep ms H1 (D.v (V.int r)) u → Q u H1
set_option maxHeartbeats 16000000 in
theorem ok_round {P : Program} {w : World} {K : PySem.W.Frag} {mg : Str → Option Value} {base : Heap} {A : Ad} (T : Txt w K mg A) : FnOk P w K mg base CX0 4 A.a_round A.d_round ["_law_pot_here", "_law_model_here", "_law_n", "_law_team_now"] (sp_round A) := by
  refine T.F_round.ok sc_round (fun vs H Q E h => ?_) (fun cdv A_ outer s_ H_0 vs Q E hr h => ?_)
  · obtain ⟨ms, ap, v_model_here, x_model_here, x_n, x_team_now, KM, rfl, _⟩ := h
    rfl
  · obtain ⟨ms, ap, v_model_here, x_model_here, x_n, x_team_now, KM, rfl, hW, h_model_here, hM, hQ⟩ := h
    unfold M_round at hM
    refine ⟨_, (pss_cons (ps_if (PW.pt (pw_and (pt_cmpR op_eq (pe_call (ok_draw T) (hr.mono (by decide)) (by rfl) T.g_draw T.F_draw.kp T.b_draw .nil pass0 (pa_cons (pv 0) (pa_cons pe_int pa_nil))) pe_int (nomark _)) (pw_and1 (pt_cmpR op_lt (pv 3) (pe_op op_sub (pv 2) pe_int) (nomark _))))) (pss_one (ps_ret (pe_call (ok_edge T) (hr.mono (by decide)) (by rfl) T.g_edge T.F_edge.kp T.b_edge .nil pass0 (pa_cons (pv 0) (pa_cons (pv 1) (pa_cons (pv 2) (pa_cons (pv 3) pa_nil))))))) pss_nil) (pss_cons (ps_set (i := 4) sc_round.nd rfl (by first | exact Or.inl rfl | exact Or.inr rfl) (pe_op op_add (pe_call (ok_pick T) (hr.mono (by decide)) (by rfl) T.g_pick T.F_pick.kp T.b_pick .nil pass0 (pa_cons (pv 0) (pa_cons (pe_lst (pa_cons pe_int (pa_cons (pe_op op_fdivW (pv 2) pe_int) (pa_cons (pe_op op_sub (pv 2) pe_int) (pa_cons (pe_op op_fdivW (pv 2) pe_int) (pa_cons (pe_op op_pow pe_int pe_int) pa_nil)))))) pa_nil))) (pe_call (ok_draw T) (hr.mono (by decide)) (by rfl) T.g_draw T.F_draw.kp T.b_draw .nil pass0 (pa_cons (pv 0) (pa_cons pe_int pa_nil))))) (pss_one (ps_ret (pe_op op_mod (pv 4) (pe_op op_sub (pv 2) pe_int)))))), ?_⟩
    refine ⟨_, rfl, ?_⟩
    refine ⟨ms, ap, (2 : Int), _, rfl, hW.enterP, hM, fun r1 u4 H5 hM e3 h2 => ?_⟩
    replace h_model_here := rep_ret hW e3 h_model_here
    replace hW := hW.retP e3
    obtain rfl := of_v h2
    refine ⟨rfl, ?_⟩
    refine ⟨_, rfl, ?_⟩
    refine ite3 hM (fun hM => ?_) (fun hM => ?_)
    · skip
      refine ⟨_, rfl, ?_⟩
      refine ⟨_, rfl, ?_⟩
      refine ⟨_, _, rfl, rfl, ?_⟩
      refine ⟨_, _, rfl, rfl, ?_⟩
      refine ⟨_, rfl, ?_⟩
      refine ite3 hM (fun hM => ?_) (fun hM => ?_)
      · skip
        refine ⟨_, rfl, ?_⟩
        refine ⟨_, rfl, ?_⟩
        refine ⟨_, rfl, ?_⟩
        refine ⟨_, rfl, ?_⟩
        refine ⟨ms, ap, _, x_model_here, x_n, x_team_now, _, rfl, hW.enterP, h_model_here, hM, fun r6 u9 H10 hM e8 h7 => ?_⟩
        replace h_model_here := rep_ret hW e8 h_model_here
        replace hW := hW.retP e8
        obtain rfl := of_v h7
        exact hQ r6 _ _ hM hW.out rep_v
      · skip
        refine ⟨_, rfl, ?_⟩
        refine ⟨_, rfl, ?_⟩
        refine ⟨_, _, rfl, rfl, ⟨by decide, by decide⟩, ?_⟩
        refine ⟨_, rfl, ?_⟩
        refine ⟨_, _, rfl, rfl, ?_⟩
        refine ⟨_, rfl, ?_⟩
        refine ⟨_, _, rfl, rfl, ⟨by decide, by decide⟩, ?_⟩
        refine ⟨_, _, rfl, rfl, ⟨by decide, by decide, by decide⟩, ?_⟩
        refine ⟨(by show 5 ≤ sizeLine; decide), ?_⟩
        intro p11 n15
        have e12 := Rx.Ext.new (H := H5) (o := (HO.lst [V.int (0 : Int), V.int (x_n / (2 : Int)), V.int (x_n - (2 : Int)), V.int (x_n / (7 : Int)), V.int ((10 : Int) ^ Int.toNat (8 : Int))])) n15
        have hp13 : upd H5 p11 (HO.lst [V.int (0 : Int), V.int (x_n / (2 : Int)), V.int (x_n - (2 : Int)), V.int (x_n / (7 : Int)), V.int ((10 : Int) ^ Int.toNat (8 : Int))]) p11 = some (HO.lst [V.int (0 : Int), V.int (x_n / (2 : Int)), V.int (x_n - (2 : Int)), V.int (x_n / (7 : Int)), V.int ((10 : Int) ^ Int.toNat (8 : Int))]) := upd_same
        generalize upd H5 p11 (HO.lst [V.int (0 : Int), V.int (x_n / (2 : Int)), V.int (x_n - (2 : Int)), V.int (x_n / (7 : Int)), V.int ((10 : Int) ^ Int.toNat (8 : Int))]) = H16 at e12 hp13 ⊢
        have h14 : rep ms H16 (D.lst (([(0 : Int), (x_n / (2 : Int)), (x_n - (2 : Int)), (x_n / (7 : Int)), ((10 : Int) ^ Int.toNat (8 : Int))] : List Int).map (fun y_ : Int => (D.v (V.int y_))))) (.ref p11) := rep_lst_mk hW n15 e12 hp13 (repL_cons rep_v (repL_cons rep_v (repL_cons rep_v (repL_cons rep_v (repL_cons rep_v repL_nil)))))
        replace h_model_here := rep_ext e12 h_model_here
        replace hW := hW.ret0 e12
        refine ⟨ms, ap, _, ([(0 : Int), (x_n / (2 : Int)), (x_n - (2 : Int)), (x_n / (7 : Int)), ((10 : Int) ^ Int.toNat (8 : Int))] : List Int), _, rfl, hW.enterP, h14, hM, fun r17 u20 H21 hM e19 h18 => ?_⟩
        replace h_model_here := rep_ret hW e19 h_model_here
        replace h14 := rep_ret hW e19 h14
        replace hW := hW.retP e19
        obtain rfl := of_v h18
        refine ⟨_, rfl, ?_⟩
        refine ⟨ms, ap, (50 : Int), _, rfl, hW.enterP, hM, fun r22 u25 H26 hM e24 h23 => ?_⟩
        replace h_model_here := rep_ret hW e24 h_model_here
        replace h14 := rep_ret hW e24 h14
        replace hW := hW.retP e24
        obtain rfl := of_v h23
        refine ⟨_, _, rfl, rfl, ?_⟩
        refine ⟨_, rfl, ?_⟩
        refine ⟨_, rfl, ?_⟩
        refine ⟨_, _, rfl, rfl, ?_⟩
        obtain ⟨g27, hM⟩ := hM
        refine ⟨_, _, rfl, rfl, g27, ?_⟩
        exact hQ ((r17 + r22) % (x_n - (1 : Int))) _ _ hM hW.out rep_v
    · skip
      refine iteF ?_
      refine ⟨_, rfl, ?_⟩
      refine ⟨_, rfl, ?_⟩
      refine ⟨_, _, rfl, rfl, ⟨by decide, by decide⟩, ?_⟩
      refine ⟨_, rfl, ?_⟩
      refine ⟨_, _, rfl, rfl, ?_⟩
      refine ⟨_, rfl, ?_⟩
      refine ⟨_, _, rfl, rfl, ⟨by decide, by decide⟩, ?_⟩
      refine ⟨_, _, rfl, rfl, ⟨by decide, by decide, by decide⟩, ?_⟩
      refine ⟨(by show 5 ≤ sizeLine; decide), ?_⟩
      intro p28 n32
      have e29 := Rx.Ext.new (H := H5) (o := (HO.lst [V.int (0 : Int), V.int (x_n / (2 : Int)), V.int (x_n - (2 : Int)), V.int (x_n / (7 : Int)), V.int ((10 : Int) ^ Int.toNat (8 : Int))])) n32
      have hp30 : upd H5 p28 (HO.lst [V.int (0 : Int), V.int (x_n / (2 : Int)), V.int (x_n - (2 : Int)), V.int (x_n / (7 : Int)), V.int ((10 : Int) ^ Int.toNat (8 : Int))]) p28 = some (HO.lst [V.int (0 : Int), V.int (x_n / (2 : Int)), V.int (x_n - (2 : Int)), V.int (x_n / (7 : Int)), V.int ((10 : Int) ^ Int.toNat (8 : Int))]) := upd_same
      generalize upd H5 p28 (HO.lst [V.int (0 : Int), V.int (x_n / (2 : Int)), V.int (x_n - (2 : Int)), V.int (x_n / (7 : Int)), V.int ((10 : Int) ^ Int.toNat (8 : Int))]) = H33 at e29 hp30 ⊢
      have h31 : rep ms H33 (D.lst (([(0 : Int), (x_n / (2 : Int)), (x_n - (2 : Int)), (x_n / (7 : Int)), ((10 : Int) ^ Int.toNat (8 : Int))] : List Int).map (fun y_ : Int => (D.v (V.int y_))))) (.ref p28) := rep_lst_mk hW n32 e29 hp30 (repL_cons rep_v (repL_cons rep_v (repL_cons rep_v (repL_cons rep_v (repL_cons rep_v repL_nil)))))
      replace h_model_here := rep_ext e29 h_model_here
      replace hW := hW.ret0 e29
      refine ⟨ms, ap, _, ([(0 : Int), (x_n / (2 : Int)), (x_n - (2 : Int)), (x_n / (7 : Int)), ((10 : Int) ^ Int.toNat (8 : Int))] : List Int), _, rfl, hW.enterP, h31, hM, fun r34 u37 H38 hM e36 h35 => ?_⟩
      replace h_model_here := rep_ret hW e36 h_model_here
      replace h31 := rep_ret hW e36 h31
      replace hW := hW.retP e36
      obtain rfl := of_v h35
      refine ⟨_, rfl, ?_⟩
      refine ⟨ms, ap, (50 : Int), _, rfl, hW.enterP, hM, fun r39 u42 H43 hM e41 h40 => ?_⟩
      replace h_model_here := rep_ret hW e41 h_model_here
      replace h31 := rep_ret hW e41 h31
      replace hW := hW.retP e41
      obtain rfl := of_v h40
      refine ⟨_, _, rfl, rfl, ?_⟩
      refine ⟨_, rfl, ?_⟩
      refine ⟨_, rfl, ?_⟩
      refine ⟨_, _, rfl, rfl, ?_⟩
      obtain ⟨g44, hM⟩ := hM
      refine ⟨_, _, rfl, rfl, g44, ?_⟩
      exact hQ ((r34 + r39) % (x_n - (1 : Int))) _ _ hM hW.out rep_v
def M_Word_least (x_self : (Str × Str × Str)) (KM : Int → Prop) : Prop :=
  (x_self.1.length ≤ sizeLine ∧ (x_self.2.2.length ≤ sizeLine ∧ (KM (if ((x_self.1.length : Int) + (x_self.2.2.length : Int)) > (1 : Int) then ((x_self.1.length : Int) + (x_self.2.2.length : Int)) else (1 : Int)))))
def sp_Word_least (A : Ad) : Sp := fun vs H Q _ => ∃ (ms : List Addr) (v_self : V) (x_self : (Str × Str × Str)) (KM : Int → Prop), vs = [v_self] ∧ Wd ms [] [] H H ∧ rep ms H (eWord A x_self) v_self ∧ M_Word_least x_self KM ∧ ∀ (r : Int) (u : V) (H1 : Hp), KM r → Ret [] H H1 → rep ms H1 (D.v (V.int r)) u → Q u H1
set_option maxHeartbeats 16000000 in
theorem ok_Word_least {P : Program} {w : World} {K : PySem.W.Frag} {mg : Str → Option Value} {base : Heap} {A : Ad} (T : Txt w K mg A) : FnOk P w K mg base CX0 1 A.a_Word_least A.d_Word_least ["self"] (sp_Word_least A) := by
  refine T.F_Word_least.ok sc_Word_least (fun vs H Q E h => ?_) (fun cdv A_ outer s_ H_0 vs Q E hr h => ?_)
  · obtain ⟨ms, v_self, x_self, KM, rfl, _⟩ := h
    rfl
  · obtain ⟨ms, v_self, x_self, KM, rfl, hW, h_self, hM, hQ⟩ := h
    unfold M_Word_least at hM
    refine ⟨_, (pss_one (ps_ret (pe_callB (call_max2 rfl) (by rfl) T.z_max (by decide +kernel) (pa_cons pe_int (pa_cons (pe_op op_add (pe_callB call_len_str (by rfl) T.z_len PySem.boot_len (pa_cons (pe_fld (pv 0) rfl) pa_nil)) (pe_callB call_len_str (by rfl) T.z_len PySem.boot_len (pa_cons (pe_fld (pv 0) rfl) pa_nil))) pa_nil))))), ?_⟩
    refine ⟨_, rfl, ?_⟩
    apply rep_fld (j := 0) h_self T.cl_Word T.na_Word__head nd_Word rfl rfl
    intro u2 h1
    obtain rfl := of_v h1
    obtain ⟨g3, hM⟩ := hM
    refine ⟨_, rfl, g3, ?_⟩
    refine ⟨_, rfl, ?_⟩
    apply rep_fld (j := 2) h_self T.cl_Word T.na_Word__tail nd_Word rfl rfl
    intro u5 h4
    obtain rfl := of_v h4
    obtain ⟨g6, hM⟩ := hM
    refine ⟨_, rfl, g6, ?_⟩
    refine ⟨_, _, rfl, rfl, ?_⟩
    refine ⟨_, _, rfl, ?_⟩
    exact hQ (if ((x_self.1.length : Int) + (x_self.2.2.length : Int)) > (1 : Int) then ((x_self.1.length : Int) + (x_self.2.2.length : Int)) else (1 : Int)) _ _ hM hW.out rep_v
def M_Rule_least_size (x_self : (Int × (Str × Str × Str) × Str × Bool)) (KM : Int → Prop) : Prop :=
  (M_Word_least x_self.2.1 fun r4 => (KM (((2 : Int) * r4) + (2 : Int))))
def sp_Rule_least_size (A : Ad) : Sp := fun vs H Q _ => ∃ (ms : List Addr) (v_self : V) (x_self : (Int × (Str × Str × Str) × Str × Bool)) (KM : Int → Prop), vs = [v_self] ∧ Wd ms [] [] H H ∧ rep ms H (eRule A x_self) v_self ∧ M_Rule_least_size x_self KM ∧ ∀ (r : Int) (u : V) (H1 : Hp), KM r → Ret [] H H1 → rep ms H1 (D.v (V.int r)) u → Q u H1
set_option maxHeartbeats 16000000 in
theorem ok_Rule_least_size {P : Program} {w : World} {K : PySem.W.Frag} {mg : Str → Option Value} {base : Heap} {A : Ad} (T : Txt w K mg A) : FnOk P w K mg base CX0 3 A.a_Rule_least_size A.d_Rule_least_size ["self"] (sp_Rule_least_size A) := by
  refine T.F_Rule_least_size.ok sc_Rule_least_size (fun vs H Q E h => ?_) (fun cdv A_ outer s_ H_0 vs Q E hr h => ?_)
  · obtain ⟨ms, v_self, x_self, KM, rfl, _⟩ := h
    rfl
  · obtain ⟨ms, v_self, x_self, KM, rfl, hW, h_self, hM, hQ⟩ := h
    unfold M_Rule_least_size at hM
    refine ⟨_, (pss_one (ps_ret (pe_op op_add (pe_op op_mul pe_int (pe_prop (pe_fld (pv 0) rfl) T.cl_Word T.p_Word_least (ok_Word_least T) (hr.mono (by decide)) T.b_Word_least .nil pass0 rfl)) pe_int))), ?_⟩
    refine ⟨_, rfl, ?_⟩
    apply rep_fld (j := 1) h_self T.cl_Rule T.na_Rule__word nd_Rule rfl rfl
    intro u2 h1
    apply rep_prop h1
    intro _ h3
    refine ⟨ms, _, x_self.2.1, _, rfl, hW.enter0, h3, hM, fun r4 u7 H8 hM e6 h5 => ?_⟩
    replace h_self := rep_ext e6 h_self
    replace h1 := rep_ext e6 h1
    replace hW := hW.ret0 e6
    obtain rfl := of_v h5
    refine ⟨_, _, rfl, rfl, .inl ⟨by decide, by decide⟩, ?_⟩
    refine ⟨_, _, rfl, rfl, ?_⟩
    exact hQ (((2 : Int) * r4) + (2 : Int)) _ _ hM hW.out rep_v
def M_is_size (x_rule : (Int × (Str × Str × Str) × Str × Bool)) (x_value : Int) (KM : Bool → Prop) : Prop :=
  (M_is_integer x_value fun r1 => (if r1 = true then (M_Rule_least_size x_rule fun r7 => (if (decide (r7 ≤ x_value)) = true then (KM (decide (V.int (x_value % (2 : Int)) = V.int (0 : Int)))) else (KM false))) else (KM false)))
def sp_is_size (A : Ad) : Sp := fun vs H Q _ => ∃ (ms : List Addr) (v_rule : V) (x_rule : (Int × (Str × Str × Str) × Str × Bool)) (x_value : Int) (KM : Bool → Prop), vs = [v_rule, V.int x_value] ∧ Wd ms [] [] H H ∧ rep ms H (eRule A x_rule) v_rule ∧ M_is_size x_rule x_value KM ∧ ∀ (r : Bool) (u : V) (H1 : Hp), KM r → Ret [] H H1 → rep ms H1 (D.v (V.bl r)) u → Q u H1
set_option maxHeartbeats 16000000 in
theorem ok_is_size {P : Program} {w : World} {K : PySem.W.Frag} {mg : Str → Option Value} {base : Heap} {A : Ad} (T : Txt w K mg A) : FnOk P w K mg base CX0 5 A.a_is_size A.d_is_size ["rule", "value"] (sp_is_size A) := by
  refine T.F_is_size.ok sc_is_size (fun vs H Q E h => ?_) (fun cdv A_ outer s_ H_0 vs Q E hr h => ?_)
  · obtain ⟨ms, v_rule, x_rule, x_value, KM, rfl, _⟩ := h
    rfl
  · obtain ⟨ms, v_rule, x_rule, x_value, KM, rfl, hW, h_rule, hM, hQ⟩ := h
    unfold M_is_size at hM
    refine ⟨_, (pss_one (ps_ret (pe_and (pe_call (ok_is_integer T) (hr.mono (by decide)) (by rfl) T.g_is_integer T.F_is_integer.kp T.b_is_integer .nil pass0 (pa_cons (pv 1) pa_nil)) (pe_and (pe_cmpR op_ge (pv 1) (pe_prop (pv 0) T.cl_Rule T.p_Rule_least_size (ok_Rule_least_size T) (hr.mono (by decide)) T.b_Rule_least_size .nil pass0 rfl) (nomark _)) (pe_one (pe_cmpR op_eq (pe_op op_mod (pv 1) pe_int) pe_int (nomark _))))))), ?_⟩
    refine ⟨_, rfl, ?_⟩
    refine ⟨ms, x_value, _, rfl, hW.enter0, hM, fun r1 u4 H5 hM e3 h2 => ?_⟩
    replace h_rule := rep_ext e3 h_rule
    replace hW := hW.ret0 e3
    obtain rfl := of_v h2
    refine ⟨_, rfl, ?_⟩
    refine ite3 hM (fun hM => ?_) (fun hM => ?_)
    · skip
      refine ⟨_, rfl, ?_⟩
      refine ⟨_, rfl, ?_⟩
      apply rep_prop h_rule
      intro _ h6
      refine ⟨ms, _, x_rule, _, rfl, hW.enter0, h6, hM, fun r7 u10 H11 hM e9 h8 => ?_⟩
      replace h_rule := rep_ext e9 h_rule
      replace hW := hW.ret0 e9
      obtain rfl := of_v h8
      refine ⟨_, _, rfl, rfl, ?_⟩
      refine ⟨_, rfl, ?_⟩
      refine ite3 hM (fun hM => ?_) (fun hM => ?_)
      · skip
        refine ⟨_, rfl, ?_⟩
        refine ⟨_, _, rfl, rfl, (by show (0 : Int) < (2 : Int); decide), ?_⟩
        refine ⟨rfl, ?_⟩
        exact hQ (decide (V.int (x_value % (2 : Int)) = V.int (0 : Int))) _ _ hM hW.out rep_v
      · skip
        exact hQ false _ _ hM hW.out rep_v
    · skip
      exact hQ false _ _ hM hW.out rep_v
def M_check_size (x_rule : (Int × (Str × Str × Str) × Str × Bool)) (x_size : Int) (KM : Unit → Prop) : Prop :=
  (M_is_size x_rule x_size fun r1 => (if (!r1) = true then False else (KM ())))
def sp_check_size (A : Ad) : Sp := fun vs H Q _ => ∃ (ms : List Addr) (v_rule : V) (x_rule : (Int × (Str × Str × Str) × Str × Bool)) (x_size : Int) (KM : Unit → Prop), vs = [v_rule, V.int x_size] ∧ Wd ms [] [] H H ∧ rep ms H (eRule A x_rule) v_rule ∧ M_check_size x_rule x_size KM ∧ ∀ (r : Unit) (u : V) (H1 : Hp), KM r → Ret [] H H1 → rep ms H1 (D.v V.non) u → Q u H1
set_option maxHeartbeats 16000000 in
theorem ok_check_size {P : Program} {w : World} {K : PySem.W.Frag} {mg : Str → Option Value} {base : Heap} {A : Ad} (T : Txt w K mg A) : FnOk P w K mg base CX0 6 A.a_check_size A.d_check_size ["rule", "size"] (sp_check_size A) := by
  refine T.F_check_size.ok sc_check_size (fun vs H Q E h => ?_) (fun cdv A_ outer s_ H_0 vs Q E hr h => ?_)
  · obtain ⟨ms, v_rule, x_rule, x_size, KM, rfl, _⟩ := h
    rfl
  · obtain ⟨ms, v_rule, x_rule, x_size, KM, rfl, hW, h_rule, hM, hQ⟩ := h
    unfold M_check_size at hM
    refine ⟨_, (pss_one (ps_if (pt_not (pt_val (pe_call (ok_is_size T) (hr.mono (by decide)) (by rfl) T.g_is_size T.F_is_size.kp T.b_is_size .nil pass0 (pa_cons (pv 0) (pa_cons (pv 1) pa_nil))))) (pss_one ps_never) pss_nil)), ?_⟩
    refine ⟨_, rfl, ?_⟩
    refine ⟨_, rfl, ?_⟩
    refine ⟨ms, _, x_rule, x_size, _, rfl, hW.enter0, h_rule, hM, fun r1 u4 H5 hM e3 h2 => ?_⟩
    replace h_rule := rep_ext e3 h_rule
    replace hW := hW.ret0 e3
    obtain rfl := of_v h2
    refine ⟨_, rfl, ?_⟩
    refine ite3 hM (fun hM => ?_) (fun hM => ?_)
    · skip
      exact hM
    · skip
      exact hQ () _ _ hM hW.out rep_v
def M_is_count (x_value : Int) (KM : Bool → Prop) : Prop :=
  (M_is_integer x_value fun r1 => (if r1 = true then (KM (decide ((0 : Int) ≤ x_value))) else (KM false)))
def sp_is_count (A : Ad) : Sp := fun vs H Q _ => ∃ (ms : List Addr) (x_value : Int) (KM : Bool → Prop), vs = [V.int x_value] ∧ Wd ms [] [] H H ∧ M_is_count x_value KM ∧ ∀ (r : Bool) (u : V) (H1 : Hp), KM r → Ret [] H H1 → rep ms H1 (D.v (V.bl r)) u → Q u H1
set_option maxHeartbeats 16000000 in
theorem ok_is_count {P : Program} {w : World} {K : PySem.W.Frag} {mg : Str → Option Value} {base : Heap} {A : Ad} (T : Txt w K mg A) : FnOk P w K mg base CX0 2 A.a_is_count A.d_is_count ["value"] (sp_is_count A) := by
  refine T.F_is_count.ok sc_is_count (fun vs H Q E h => ?_) (fun cdv A_ outer s_ H_0 vs Q E hr h => ?_)
  · obtain ⟨ms, x_value, KM, rfl, _⟩ := h
    rfl
  · obtain ⟨ms, x_value, KM, rfl, hW, hM, hQ⟩ := h
    unfold M_is_count at hM
    refine ⟨_, (pss_one (ps_ret (pe_and (pe_call (ok_is_integer T) (hr.mono (by decide)) (by rfl) T.g_is_integer T.F_is_integer.kp T.b_is_integer .nil pass0 (pa_cons (pv 0) pa_nil)) (pe_one (pe_cmpR op_ge (pv 0) pe_int (nomark _)))))), ?_⟩
    refine ⟨_, rfl, ?_⟩
    refine ⟨ms, x_value, _, rfl, hW.enter0, hM, fun r1 u4 H5 hM e3 h2 => ?_⟩
    replace hW := hW.ret0 e3
    obtain rfl := of_v h2
    refine ⟨_, rfl, ?_⟩
    refine ite3 hM (fun hM => ?_) (fun hM => ?_)
    · skip
      refine ⟨_, rfl, ?_⟩
      refine ⟨_, _, rfl, rfl, ?_⟩
      exact hQ (decide ((0 : Int) ≤ x_value)) _ _ hM hW.out rep_v
    · skip
      exact hQ false _ _ hM hW.out rep_v
def M_check_team (x_team : Int) (x_teams : Int) (KM : Unit → Prop) : Prop :=
  (M_is_count x_team fun r1 => (if (!r1) = true then False else (if (decide (x_teams ≤ x_team)) = true then False else (KM ()))))
def sp_check_team (A : Ad) : Sp := fun vs H Q _ => ∃ (ms : List Addr) (x_team : Int) (x_teams : Int) (KM : Unit → Prop), vs = [V.int x_team, V.int x_teams] ∧ Wd ms [] [] H H ∧ M_check_team x_team x_teams KM ∧ ∀ (r : Unit) (u : V) (H1 : Hp), KM r → Ret [] H H1 → rep ms H1 (D.v V.non) u → Q u H1
set_option maxHeartbeats 16000000 in
theorem ok_check_team {P : Program} {w : World} {K : PySem.W.Frag} {mg : Str → Option Value} {base : Heap} {A : Ad} (T : Txt w K mg A) : FnOk P w K mg base CX0 3 A.a_check_team A.d_check_team ["team", "teams"] (sp_check_team A) := by
  refine T.F_check_team.ok sc_check_team (fun vs H Q E h => ?_) (fun cdv A_ outer s_ H_0 vs Q E hr h => ?_)
  · obtain ⟨ms, x_team, x_teams, KM, rfl, _⟩ := h
    rfl
  · obtain ⟨ms, x_team, x_teams, KM, rfl, hW, hM, hQ⟩ := h
    unfold M_check_team at hM
    refine ⟨_, (pss_one (ps_if (PW.pt (pw_or (pt_not (pt_val (pe_call (ok_is_count T) (hr.mono (by decide)) (by rfl) T.g_is_count T.F_is_count.kp T.b_is_count .nil pass0 (pa_cons (pv 0) pa_nil)))) (pw_or1 (pt_cmpR op_ge (pv 0) (pv 1) (nomark _))))) (pss_one ps_never) pss_nil)), ?_⟩
    refine ⟨_, rfl, ?_⟩
    refine ⟨ms, x_team, _, rfl, hW.enter0, hM, fun r1 u4 H5 hM e3 h2 => ?_⟩
    replace hW := hW.ret0 e3
    obtain rfl := of_v h2
    refine ⟨_, rfl, ?_⟩
    refine ite3 hM (fun hM => ?_) (fun hM => ?_)
    · skip
      refine iteT ?_
      exact hM
    · skip
      refine ⟨_, rfl, ?_⟩
      refine ⟨_, rfl, ?_⟩
      refine ⟨_, _, rfl, rfl, ?_⟩
      refine ⟨_, rfl, ?_⟩
      refine ite3 hM (fun hM => ?_) (fun hM => ?_)
      · skip
        exact hM
      · skip
        exact hQ () _ _ hM hW.out rep_v
def M_check_along (x_rule : (Int × (Str × Str × Str) × Str × Bool)) (x_size : Int) (x_team : Int) (KM : Unit → Prop) : Prop :=
  (M_check_size x_rule x_size fun r1 => (M_check_team x_team x_size fun r6 => (KM ())))
def sp_check_along (A : Ad) : Sp := fun vs H Q _ => ∃ (ms : List Addr) (v_rule : V) (x_rule : (Int × (Str × Str × Str) × Str × Bool)) (x_size : Int) (x_team : Int) (KM : Unit → Prop), vs = [v_rule, V.int x_size, V.int x_team] ∧ Wd ms [] [] H H ∧ rep ms H (eRule A x_rule) v_rule ∧ M_check_along x_rule x_size x_team KM ∧ ∀ (r : Unit) (u : V) (H1 : Hp), KM r → Ret [] H H1 → rep ms H1 (D.v V.non) u → Q u H1
set_option maxHeartbeats 16000000 in
theorem ok_check_along {P : Program} {w : World} {K : PySem.W.Frag} {mg : Str → Option Value} {base : Heap} {A : Ad} (T : Txt w K mg A) : FnOk P w K mg base CX0 7 A.a_check_along A.d_check_along ["rule", "size", "team"] (sp_check_along A) := by
  refine T.F_check_along.ok sc_check_along (fun vs H Q E h => ?_) (fun cdv A_ outer s_ H_0 vs Q E hr h => ?_)
  · obtain ⟨ms, v_rule, x_rule, x_size, x_team, KM, rfl, _⟩ := h
    rfl
  · obtain ⟨ms, v_rule, x_rule, x_size, x_team, KM, rfl, hW, h_rule, hM, hQ⟩ := h
    unfold M_check_along at hM
    refine ⟨_, (pss_cons (ps_expr (pe_call (ok_check_size T) (hr.mono (by decide)) (by rfl) T.g_check_size T.F_check_size.kp T.b_check_size .nil pass0 (pa_cons (pv 0) (pa_cons (pv 1) pa_nil)))) (pss_one (ps_expr (pe_call (ok_check_team T) (hr.mono (by decide)) (by rfl) T.g_check_team T.F_check_team.kp T.b_check_team .nil pass0 (pa_cons (pv 2) (pa_cons (pv 1) pa_nil)))))), ?_⟩
    refine ⟨_, rfl, ?_⟩
    refine ⟨_, rfl, ?_⟩
    refine ⟨ms, _, x_rule, x_size, _, rfl, hW.enter0, h_rule, hM, fun r1 u4 H5 hM e3 h2 => ?_⟩
    replace h_rule := rep_ext e3 h_rule
    replace hW := hW.ret0 e3
    obtain rfl := of_v h2
    refine ⟨_, rfl, ?_⟩
    refine ⟨_, rfl, ?_⟩
    refine ⟨ms, x_team, x_size, _, rfl, hW.enter0, hM, fun r6 u9 H10 hM e8 h7 => ?_⟩
    replace h_rule := rep_ext e8 h_rule
    replace hW := hW.ret0 e8
    obtain rfl := of_v h7
    exact hQ () _ _ hM hW.out rep_v
def M_check_day (x_day : Int) (x_rounds : Int) (KM : Unit → Prop) : Prop :=
  (M_is_count x_day fun r1 => (if (!r1) = true then False else (if (decide (x_rounds ≤ x_day)) = true then False else (KM ()))))
def sp_check_day (A : Ad) : Sp := fun vs H Q _ => ∃ (ms : List Addr) (x_day : Int) (x_rounds : Int) (KM : Unit → Prop), vs = [V.int x_day, V.int x_rounds] ∧ Wd ms [] [] H H ∧ M_check_day x_day x_rounds KM ∧ ∀ (r : Unit) (u : V) (H1 : Hp), KM r → Ret [] H H1 → rep ms H1 (D.v V.non) u → Q u H1
set_option maxHeartbeats 16000000 in
theorem ok_check_day {P : Program} {w : World} {K : PySem.W.Frag} {mg : Str → Option Value} {base : Heap} {A : Ad} (T : Txt w K mg A) : FnOk P w K mg base CX0 3 A.a_check_day A.d_check_day ["day", "rounds"] (sp_check_day A) := by
  refine T.F_check_day.ok sc_check_day (fun vs H Q E h => ?_) (fun cdv A_ outer s_ H_0 vs Q E hr h => ?_)
  · obtain ⟨ms, x_day, x_rounds, KM, rfl, _⟩ := h
    rfl
  · obtain ⟨ms, x_day, x_rounds, KM, rfl, hW, hM, hQ⟩ := h
    unfold M_check_day at hM
    refine ⟨_, (pss_one (ps_if (PW.pt (pw_or (pt_not (pt_val (pe_call (ok_is_count T) (hr.mono (by decide)) (by rfl) T.g_is_count T.F_is_count.kp T.b_is_count .nil pass0 (pa_cons (pv 0) pa_nil)))) (pw_or1 (pt_cmpR op_ge (pv 0) (pv 1) (nomark _))))) (pss_one ps_never) pss_nil)), ?_⟩
    refine ⟨_, rfl, ?_⟩
    refine ⟨ms, x_day, _, rfl, hW.enter0, hM, fun r1 u4 H5 hM e3 h2 => ?_⟩
    replace hW := hW.ret0 e3
    obtain rfl := of_v h2
    refine ⟨_, rfl, ?_⟩
    refine ite3 hM (fun hM => ?_) (fun hM => ?_)
    · skip
      refine iteT ?_
      exact hM
    · skip
      refine ⟨_, rfl, ?_⟩
      refine ⟨_, rfl, ?_⟩
      refine ⟨_, _, rfl, rfl, ?_⟩
      refine ⟨_, rfl, ?_⟩
      refine ite3 hM (fun hM => ?_) (fun hM => ?_)
      · skip
        exact hM
      · skip
        exact hQ () _ _ hM hW.out rep_v
def M_Rule_stander (x_self : (Int × (Str × Str × Str) × Str × Bool)) (KM : Str → Prop) : Prop :=
  (KM x_self.2.2.1)
def sp_Rule_stander (A : Ad) : Sp := fun vs H Q _ => ∃ (ms : List Addr) (v_self : V) (x_self : (Int × (Str × Str × Str) × Str × Bool)) (KM : Str → Prop), vs = [v_self] ∧ Wd ms [] [] H H ∧ rep ms H (eRule A x_self) v_self ∧ M_Rule_stander x_self KM ∧ ∀ (r : Str) (u : V) (H1 : Hp), KM r → Ret [] H H1 → rep ms H1 (D.v (V.str r)) u → Q u H1
set_option maxHeartbeats 16000000 in
theorem ok_Rule_stander {P : Program} {w : World} {K : PySem.W.Frag} {mg : Str → Option Value} {base : Heap} {A : Ad} (T : Txt w K mg A) : FnOk P w K mg base CX0 1 A.a_Rule_stander A.d_Rule_stander ["self"] (sp_Rule_stander A) := by
  refine T.F_Rule_stander.ok sc_Rule_stander (fun vs H Q E h => ?_) (fun cdv A_ outer s_ H_0 vs Q E hr h => ?_)
  · obtain ⟨ms, v_self, x_self, KM, rfl, _⟩ := h
    rfl
  · obtain ⟨ms, v_self, x_self, KM, rfl, hW, h_self, hM, hQ⟩ := h
    unfold M_Rule_stander at hM
    refine ⟨_, (pss_one (ps_ret (pe_fld (pv 0) rfl))), ?_⟩
    refine ⟨_, rfl, ?_⟩
    apply rep_fld (j := 2) h_self T.cl_Rule T.na_Rule__stander nd_Rule rfl rfl
    intro u2 h1
    obtain rfl := of_v h1
    exact hQ x_self.2.2.1 _ _ hM hW.out rep_v
def M_Rule_step (x_self : (Int × (Str × Str × Str) × Str × Bool)) (KM : Int → Prop) : Prop :=
  (KM x_self.1)
def sp_Rule_step (A : Ad) : Sp := fun vs H Q _ => ∃ (ms : List Addr) (v_self : V) (x_self : (Int × (Str × Str × Str) × Str × Bool)) (KM : Int → Prop), vs = [v_self] ∧ Wd ms [] [] H H ∧ rep ms H (eRule A x_self) v_self ∧ M_Rule_step x_self KM ∧ ∀ (r : Int) (u : V) (H1 : Hp), KM r → Ret [] H H1 → rep ms H1 (D.v (V.int r)) u → Q u H1
set_option maxHeartbeats 16000000 in
theorem ok_Rule_step {P : Program} {w : World} {K : PySem.W.Frag} {mg : Str → Option Value} {base : Heap} {A : Ad} (T : Txt w K mg A) : FnOk P w K mg base CX0 1 A.a_Rule_step A.d_Rule_step ["self"] (sp_Rule_step A) := by
  refine T.F_Rule_step.ok sc_Rule_step (fun vs H Q E h => ?_) (fun cdv A_ outer s_ H_0 vs Q E hr h => ?_)
  · obtain ⟨ms, v_self, x_self, KM, rfl, _⟩ := h
    rfl
  · obtain ⟨ms, v_self, x_self, KM, rfl, hW, h_self, hM, hQ⟩ := h
    unfold M_Rule_step at hM
    refine ⟨_, (pss_one (ps_ret (pe_fld (pv 0) rfl))), ?_⟩
    refine ⟨_, rfl, ?_⟩
    apply rep_fld (j := 0) h_self T.cl_Rule T.na_Rule__step nd_Rule rfl rfl
    intro u2 h1
    obtain rfl := of_v h1
    exact hQ x_self.1 _ _ hM hW.out rep_v
def M_Rule_word (x_self : (Int × (Str × Str × Str) × Str × Bool)) (KM : (Str × Str × Str) → Prop) : Prop :=
  (KM x_self.2.1)
def sp_Rule_word (A : Ad) : Sp := fun vs H Q _ => ∃ (ms : List Addr) (v_self : V) (x_self : (Int × (Str × Str × Str) × Str × Bool)) (KM : (Str × Str × Str) → Prop), vs = [v_self] ∧ Wd ms [] [] H H ∧ rep ms H (eRule A x_self) v_self ∧ M_Rule_word x_self KM ∧ ∀ (r : (Str × Str × Str)) (u : V) (H1 : Hp), KM r → Ret [] H H1 → rep ms H1 (eWord A r) u → Q u H1
set_option maxHeartbeats 16000000 in
theorem ok_Rule_word {P : Program} {w : World} {K : PySem.W.Frag} {mg : Str → Option Value} {base : Heap} {A : Ad} (T : Txt w K mg A) : FnOk P w K mg base CX0 1 A.a_Rule_word A.d_Rule_word ["self"] (sp_Rule_word A) := by
  refine T.F_Rule_word.ok sc_Rule_word (fun vs H Q E h => ?_) (fun cdv A_ outer s_ H_0 vs Q E hr h => ?_)
  · obtain ⟨ms, v_self, x_self, KM, rfl, _⟩ := h
    rfl
  · obtain ⟨ms, v_self, x_self, KM, rfl, hW, h_self, hM, hQ⟩ := h
    unfold M_Rule_word at hM
    refine ⟨_, (pss_one (ps_ret (pe_fld (pv 0) rfl))), ?_⟩
    refine ⟨_, rfl, ?_⟩
    apply rep_fld (j := 1) h_self T.cl_Rule T.na_Rule__word nd_Rule rfl rfl
    intro u2 h1
    exact hQ x_self.2.1 _ _ hM hW.out h1
def M_Word_head (x_self : (Str × Str × Str)) (KM : Str → Prop) : Prop :=
  (KM x_self.1)
def sp_Word_head (A : Ad) : Sp := fun vs H Q _ => ∃ (ms : List Addr) (v_self : V) (x_self : (Str × Str × Str)) (KM : Str → Prop), vs = [v_self] ∧ Wd ms [] [] H H ∧ rep ms H (eWord A x_self) v_self ∧ M_Word_head x_self KM ∧ ∀ (r : Str) (u : V) (H1 : Hp), KM r → Ret [] H H1 → rep ms H1 (D.v (V.str r)) u → Q u H1
set_option maxHeartbeats 16000000 in
theorem ok_Word_head {P : Program} {w : World} {K : PySem.W.Frag} {mg : Str → Option Value} {base : Heap} {A : Ad} (T : Txt w K mg A) : FnOk P w K mg base CX0 1 A.a_Word_head A.d_Word_head ["self"] (sp_Word_head A) := by
  refine T.F_Word_head.ok sc_Word_head (fun vs H Q E h => ?_) (fun cdv A_ outer s_ H_0 vs Q E hr h => ?_)
  · obtain ⟨ms, v_self, x_self, KM, rfl, _⟩ := h
    rfl
  · obtain ⟨ms, v_self, x_self, KM, rfl, hW, h_self, hM, hQ⟩ := h
    unfold M_Word_head at hM
    refine ⟨_, (pss_one (ps_ret (pe_fld (pv 0) rfl))), ?_⟩
    refine ⟨_, rfl, ?_⟩
    apply rep_fld (j := 0) h_self T.cl_Word T.na_Word__head nd_Word rfl rfl
    intro u2 h1
    obtain rfl := of_v h1
    exact hQ x_self.1 _ _ hM hW.out rep_v
def M_Word_tail (x_self : (Str × Str × Str)) (KM : Str → Prop) : Prop :=
  (KM x_self.2.2)
def sp_Word_tail (A : Ad) : Sp := fun vs H Q _ => ∃ (ms : List Addr) (v_self : V) (x_self : (Str × Str × Str)) (KM : Str → Prop), vs = [v_self] ∧ Wd ms [] [] H H ∧ rep ms H (eWord A x_self) v_self ∧ M_Word_tail x_self KM ∧ ∀ (r : Str) (u : V) (H1 : Hp), KM r → Ret [] H H1 → rep ms H1 (D.v (V.str r)) u → Q u H1
set_option maxHeartbeats 16000000 in
theorem ok_Word_tail {P : Program} {w : World} {K : PySem.W.Frag} {mg : Str → Option Value} {base : Heap} {A : Ad} (T : Txt w K mg A) : FnOk P w K mg base CX0 1 A.a_Word_tail A.d_Word_tail ["self"] (sp_Word_tail A) := by
  refine T.F_Word_tail.ok sc_Word_tail (fun vs H Q E h => ?_) (fun cdv A_ outer s_ H_0 vs Q E hr h => ?_)
  · obtain ⟨ms, v_self, x_self, KM, rfl, _⟩ := h
    rfl
  · obtain ⟨ms, v_self, x_self, KM, rfl, hW, h_self, hM, hQ⟩ := h
    unfold M_Word_tail at hM
    refine ⟨_, (pss_one (ps_ret (pe_fld (pv 0) rfl))), ?_⟩
    refine ⟨_, rfl, ?_⟩
    apply rep_fld (j := 2) h_self T.cl_Word T.na_Word__tail nd_Word rfl rfl
    intro u2 h1
    obtain rfl := of_v h1
    exact hQ x_self.2.2 _ _ hM hW.out rep_v
def M_stretches (x_word : (Str × Str × Str)) (x_places : Int) (KM : (List (Int × Int)) → Prop) : Prop :=
  (M_Word_head x_word fun r2 => (r2.length ≤ sizeLine ∧ (M_Word_tail x_word fun r9 => (r9.length ≤ sizeLine ∧ (([(0 : Int), (r2.length : Int), (x_places - (r9.length : Int)), x_places, (((2 : Int) * x_places) - (x_places - (r9.length : Int))), (((2 : Int) * x_places) - (r2.length : Int)), ((2 : Int) * x_places)] : List Int).length < 100000 ∧ mapC (fun (x43 : Int) (k36 : Int → Prop) => (k36 (x43 + (1 : Int)))) ([(0 : Int), (r2.length : Int), (x_places - (r9.length : Int)), x_places, (((2 : Int) * x_places) - (x_places - (r9.length : Int))), (((2 : Int) * x_places) - (r2.length : Int)), ((2 : Int) * x_places)] : List Int) [] fun ys54 => (([(0 : Int)] : List Int).length + ys54.length ≤ sizeLine ∧ ((([(0 : Int), (r2.length : Int), (x_places - (r9.length : Int)), x_places, (((2 : Int) * x_places) - (x_places - (r9.length : Int))), (((2 : Int) * x_places) - (r2.length : Int)), ((2 : Int) * x_places)] : List Int).length ≤ (([(0 : Int)] : List Int) ++ ys54).length ∧ 1 ≤ ([(0 : Int), (r2.length : Int), (x_places - (r9.length : Int)), x_places, (((2 : Int) * x_places) - (x_places - (r9.length : Int))), (((2 : Int) * x_places) - (r2.length : Int)), ((2 : Int) * x_places)] : List Int).length) ∧ (KM (List.zip (([(0 : Int)] : List Int) ++ ys54) ([(0 : Int), (r2.length : Int), (x_places - (r9.length : Int)), x_places, (((2 : Int) * x_places) - (x_places - (r9.length : Int))), (((2 : Int) * x_places) - (r2.length : Int)), ((2 : Int) * x_places)] : List Int))))))))))
def sp_stretches (A : Ad) : Sp := fun vs H Q _ => ∃ (ms : List Addr) (v_word : V) (x_word : (Str × Str × Str)) (x_places : Int) (KM : (List (Int × Int)) → Prop), vs = [v_word, V.int x_places] ∧ Wd ms [] [] H H ∧ rep ms H (eWord A x_word) v_word ∧ M_stretches x_word x_places KM ∧ ∀ (r : (List (Int × Int))) (u : V) (H1 : Hp), KM r → Ret [] H H1 → rep ms H1 (D.lst (r.map (fun y_ : (Int × Int) => (D.tup [(D.v (V.int y_.1)), (D.v (V.int y_.2))])))) u → Q u H1
set_option maxHeartbeats 16000000 in
theorem ok_stretches {P : Program} {w : World} {K : PySem.W.Frag} {mg : Str → Option Value} {base : Heap} {A : Ad} (T : Txt w K mg A) : FnOk P w K mg base CX0 3 A.a_stretches A.d_stretches ["word", "places"] (sp_stretches A) := by
  refine T.F_stretches.ok sc_stretches (fun vs H Q E h => ?_) (fun cdv A_ outer s_ H_0 vs Q E hr h => ?_)
  · obtain ⟨ms, v_word, x_word, x_places, KM, rfl, _⟩ := h
    rfl
  · obtain ⟨ms, v_word, x_word, x_places, KM, rfl, hW, h_word, hM, hQ⟩ := h
    unfold M_stretches at hM
    refine ⟨_, (pss_cons (ps_set (i := 2) sc_stretches.nd rfl (by first | exact Or.inl rfl | exact Or.inr rfl) (pe_callB call_len_str (by rfl) T.z_len PySem.boot_len (pa_cons (pe_prop (pv 0) T.cl_Word T.p_Word_head (ok_Word_head T) (hr.mono (by decide)) T.b_Word_head .nil pass0 rfl) pa_nil))) (pss_cons (ps_set (i := 3) sc_stretches.nd rfl (by first | exact Or.inl rfl | exact Or.inr rfl) (pe_op op_sub (pv 1) (pe_callB call_len_str (by rfl) T.z_len PySem.boot_len (pa_cons (pe_prop (pv 0) T.cl_Word T.p_Word_tail (ok_Word_tail T) (hr.mono (by decide)) T.b_Word_tail .nil pass0 rfl) pa_nil)))) (pss_cons (ps_set (i := 4) sc_stretches.nd rfl (by first | exact Or.inl rfl | exact Or.inr rfl) (pe_lst (pa_cons pe_int (pa_cons (pv 2) (pa_cons (pv 3) (pa_cons (pv 1) (pa_cons (pe_op op_sub (pe_op op_mul pe_int (pv 1)) (pv 3)) (pa_cons (pe_op op_sub (pe_op op_mul pe_int (pv 1)) (pv 2)) (pa_cons (pe_op op_mul pe_int (pv 1)) pa_nil))))))))) (pss_one (ps_ret (Z2.pe_zip2 (K := K) rfl rfl (by rfl) T.z_list (by rfl) T.z_zip (pa_cons (pe_op op_cat (pe_lst (pa_cons pe_int pa_nil)) (pe_lc (own := [("last", 5)]) (g := gName 5) rfl sc_stretches.nd (pi_list (pv 4)) (blkOk_by (N := ["word", "places", "head", "inner", "lasts", "last"]) (sc := defScope s_stretches) (by decide +kernel)) (fun _ _ _ _ _ => pg_name (i := 5) sc_stretches.nd rfl (by first | exact Or.inl rfl | exact Or.inr rfl)) (fun _ _ _ _ _ => pts_nil) (fun _ _ _ _ _ => (pe_op op_add (pv 5) pe_int)))) (pa_cons (pv 4) pa_nil)))))))), ?_⟩
    refine ⟨_, rfl, ?_⟩
    apply rep_prop h_word
    intro _ h1
    refine ⟨ms, _, x_word, _, rfl, hW.enter0, h1, hM, fun r2 u5 H6 hM e4 h3 => ?_⟩
    replace h_word := rep_ext e4 h_word
    replace hW := hW.ret0 e4
    obtain rfl := of_v h3
    obtain ⟨g7, hM⟩ := hM
    refine ⟨_, rfl, g7, ?_⟩
    refine ⟨_, rfl, ?_⟩
    refine ⟨_, rfl, ?_⟩
    apply rep_prop h_word
    intro _ h8
    refine ⟨ms, _, x_word, _, rfl, hW.enter0, h8, hM, fun r9 u12 H13 hM e11 h10 => ?_⟩
    replace h_word := rep_ext e11 h_word
    replace hW := hW.ret0 e11
    obtain rfl := of_v h10
    obtain ⟨g14, hM⟩ := hM
    refine ⟨_, rfl, g14, ?_⟩
    refine ⟨_, _, rfl, rfl, ?_⟩
    refine ⟨_, rfl, ?_⟩
    refine ⟨_, rfl, ?_⟩
    refine ⟨_, rfl, ?_⟩
    refine ⟨_, rfl, ?_⟩
    refine ⟨_, _, rfl, rfl, .inl ⟨by decide, by decide⟩, ?_⟩
    refine ⟨_, rfl, ?_⟩
    refine ⟨_, _, rfl, rfl, ?_⟩
    refine ⟨_, rfl, ?_⟩
    refine ⟨_, _, rfl, rfl, .inl ⟨by decide, by decide⟩, ?_⟩
    refine ⟨_, rfl, ?_⟩
    refine ⟨_, _, rfl, rfl, ?_⟩
    refine ⟨_, rfl, ?_⟩
    refine ⟨_, _, rfl, rfl, .inl ⟨by decide, by decide⟩, ?_⟩
    refine ⟨(by show 7 ≤ sizeLine; decide), ?_⟩
    intro p15 n19
    have e16 := Rx.Ext.new (H := H13) (o := (HO.lst [V.int (0 : Int), V.int (r2.length : Int), V.int (x_places - (r9.length : Int)), V.int x_places, V.int (((2 : Int) * x_places) - (x_places - (r9.length : Int))), V.int (((2 : Int) * x_places) - (r2.length : Int)), V.int ((2 : Int) * x_places)])) n19
    have hp17 : upd H13 p15 (HO.lst [V.int (0 : Int), V.int (r2.length : Int), V.int (x_places - (r9.length : Int)), V.int x_places, V.int (((2 : Int) * x_places) - (x_places - (r9.length : Int))), V.int (((2 : Int) * x_places) - (r2.length : Int)), V.int ((2 : Int) * x_places)]) p15 = some (HO.lst [V.int (0 : Int), V.int (r2.length : Int), V.int (x_places - (r9.length : Int)), V.int x_places, V.int (((2 : Int) * x_places) - (x_places - (r9.length : Int))), V.int (((2 : Int) * x_places) - (r2.length : Int)), V.int ((2 : Int) * x_places)]) := upd_same
    generalize upd H13 p15 (HO.lst [V.int (0 : Int), V.int (r2.length : Int), V.int (x_places - (r9.length : Int)), V.int x_places, V.int (((2 : Int) * x_places) - (x_places - (r9.length : Int))), V.int (((2 : Int) * x_places) - (r2.length : Int)), V.int ((2 : Int) * x_places)]) = H20 at e16 hp17 ⊢
    have h18 : rep ms H20 (D.lst (([(0 : Int), (r2.length : Int), (x_places - (r9.length : Int)), x_places, (((2 : Int) * x_places) - (x_places - (r9.length : Int))), (((2 : Int) * x_places) - (r2.length : Int)), ((2 : Int) * x_places)] : List Int).map (fun y_ : Int => (D.v (V.int y_))))) (.ref p15) := rep_lst_mk hW n19 e16 hp17 (repL_cons rep_v (repL_cons rep_v (repL_cons rep_v (repL_cons rep_v (repL_cons rep_v (repL_cons rep_v (repL_cons rep_v repL_nil)))))))
    replace h_word := rep_ext e16 h_word
    replace hW := hW.ret0 e16
    refine ⟨(by show 1 ≤ sizeLine; decide), ?_⟩
    intro p21 n25
    have e22 := Rx.Ext.new (H := H20) (o := (HO.lst [V.int (0 : Int)])) n25
    have hp23 : upd H20 p21 (HO.lst [V.int (0 : Int)]) p21 = some (HO.lst [V.int (0 : Int)]) := upd_same
    generalize upd H20 p21 (HO.lst [V.int (0 : Int)]) = H26 at e22 hp23 ⊢
    have h24 : rep ms H26 (D.lst (([(0 : Int)] : List Int).map (fun y_ : Int => (D.v (V.int y_))))) (.ref p21) := rep_lst_mk hW n25 e22 hp23 (repL_cons rep_v repL_nil)
    replace h_word := rep_ext e22 h_word
    replace h18 := rep_ext e22 h18
    replace hW := hW.ret0 e22
    refine ⟨_, rfl, ?_⟩
    apply rep_iter h18
    intro a27 xs28 _ an29 hp30 hl31
    refine fun L32 nl33 => ?_
    have nm47 := nm_new hW nl33
    refine lc_listG (L := L32) (fun n_ ys_ h_ => Wd (L32 :: ms) [] [] H_0 h_ ∧ Keep (L32 :: ms) H26 h_ ∧ MutO (L32 :: ms) [] H_0 h_ L32 (D.lst (ys_.map (fun y_ : Int => (D.v (V.int y_))))) ∧ ys_.length ≤ n_) (items := ([(0 : Int), (r2.length : Int), (x_places - (r9.length : Int)), x_places, (((2 : Int) * x_places) - (x_places - (r9.length : Int))), (((2 : Int) * x_places) - (r2.length : Int)), ((2 : Int) * x_places)] : List Int)) (e := (fun y_ : Int => (D.v (V.int y_)))) an29 hp30 hl31 nl33 (fun _ _ _ q_ => q_.2.1) hM ⟨wd_cell hW nl33, keep_cell nl33 Keep.refl, mo_newL (ds := []) hW nl33 repL_nil, Nat.le_refl _⟩ ?_ ?_
    · skip
      rintro x43 u44 n34 ys35 k36 H48 hn ⟨hW, hk37, mu38, ln39⟩ h45 hM Nx42 hN40
      replace h_word := rep_keep hk37 (rep_new nl33 h_word)
      replace h18 := rep_keep hk37 (rep_new nl33 h18)
      replace h24 := rep_keep hk37 (rep_new nl33 h24)
      obtain rfl := of_v h45
      refine ⟨rfl, ?_⟩
      refine tyes_of ?_
      refine ⟨_, rfl, ?_⟩
      refine ⟨_, _, rfl, rfl, ?_⟩
      refine mo_end mu38 hn (by rw [List.length_map]; exact ln39) fun vs49 hr50 => ?_
      have mk52 := mo_setL mu38 (repL_snoc (e := (fun y_ : Int => (D.v (V.int y_)))) (xs := ys35) (y := (x43 + (1 : Int))) hr50 rep_v)
      replace h_word := rep_put (o := .lst (vs49 ++ [V.int (x43 + (1 : Int))])) mu38.im h_word
      replace h18 := rep_put (o := .lst (vs49 ++ [V.int (x43 + (1 : Int))])) mu38.im h18
      replace h24 := rep_put (o := .lst (vs49 ++ [V.int (x43 + (1 : Int))])) mu38.im h24
      replace hk37 := keep_put (o := .lst (vs49 ++ [V.int (x43 + (1 : Int))])) mu38.im hk37
      replace hW := wd_put (o := .lst (vs49 ++ [V.int (x43 + (1 : Int))])) hW mu38
      replace mu38 := mk52
      generalize upd H48 L32 (.lst (vs49 ++ [V.int (x43 + (1 : Int))])) = H53 at *
      replace mu38 : MutO (L32 :: ms) [] H_0 H53 L32 (D.lst ((ys35 ++ [(x43 + (1 : Int))]).map (fun y_ : Int => (D.v (V.int y_))))) := mu38
      clear mk52
      exact hN40 (x43 + (1 : Int)) _ hM ⟨hW, hk37, mu38, by rw [List.length_append]; exact Nat.add_le_add_right ln39 1⟩
    · skip
      rintro n34 ys54 H55 hM ⟨hW, hk37, mu38, ln39⟩
      replace h_word := rep_keep hk37 (rep_new nl33 h_word)
      replace h18 := rep_keep hk37 (rep_new nl33 h18)
      replace h24 := rep_keep hk37 (rep_new nl33 h24)
      clear hk37 ln39
      have h56 := mo_rep_dr dr_here nm47 mu38
      replace hW := wd_dr dr_here mu38.hp hW
      replace h_word := rep_dr dr_here h_word
      replace h18 := rep_dr dr_here h18
      replace h24 := rep_dr dr_here h24
      clear mu38
      obtain ⟨g57, hM⟩ := hM
      apply rep_cat (xs := ([(0 : Int)] : List Int)) (ys := ys54) (e := (fun y_ : Int => (D.v (V.int y_)))) hW h24 h56 g57
      intro p58 H61 e60 h59
      replace h_word := rep_ext e60 h_word
      replace h18 := rep_ext e60 h18
      replace h24 := rep_ext e60 h24
      replace h56 := rep_ext e60 h56
      replace hW := hW.ret0 e60
      refine ⟨_, rfl, ?_⟩
      obtain ⟨g66, hM⟩ := hM
      apply Z2.rep_zip2 (f := (fun y_ : Int => (D.v (V.int y_)))) (g := (fun y_ : Int => (D.v (V.int y_)))) (xs := (([(0 : Int)] : List Int) ++ ys54)) (ys := ([(0 : Int), (r2.length : Int), (x_places - (r9.length : Int)), x_places, (((2 : Int) * x_places) - (x_places - (r9.length : Int))), (((2 : Int) * x_places) - (r2.length : Int)), ((2 : Int) * x_places)] : List Int)) hW h59 h18 g66
      intro p62 H63 e64 h65
      replace h_word := rep_ext e64 h_word
      replace h18 := rep_ext e64 h18
      replace h24 := rep_ext e64 h24
      replace h56 := rep_ext e64 h56
      replace h59 := rep_ext e64 h59
      replace hW := hW.ret0 e64
      exact hQ (List.zip (([(0 : Int)] : List Int) ++ ys54) ([(0 : Int), (r2.length : Int), (x_places - (r9.length : Int)), x_places, (((2 : Int) * x_places) - (x_places - (r9.length : Int))), (((2 : Int) * x_places) - (r2.length : Int)), ((2 : Int) * x_places)] : List Int)) _ _ hM hW.out h65
def M_check_seats (x_rule : (Int × (Str × Str × Str) × Str × Bool)) (x_size : Int) (x_team : Int) (x_day : Int) (KM : Unit → Prop) : Prop :=
  (M_check_size x_rule x_size fun r1 => (M_check_team x_team x_size fun r6 => (M_check_day x_day (x_size - (1 : Int)) fun r11 => (KM ()))))
def sp_check_seats (A : Ad) : Sp := fun vs H Q _ => ∃ (ms : List Addr) (v_rule : V) (x_rule : (Int × (Str × Str × Str) × Str × Bool)) (x_size : Int) (x_team : Int) (x_day : Int) (KM : Unit → Prop), vs = [v_rule, V.int x_size, V.int x_team, V.int x_day] ∧ Wd ms [] [] H H ∧ rep ms H (eRule A x_rule) v_rule ∧ M_check_seats x_rule x_size x_team x_day KM ∧ ∀ (r : Unit) (u : V) (H1 : Hp), KM r → Ret [] H H1 → rep ms H1 (D.v V.non) u → Q u H1
set_option maxHeartbeats 16000000 in
theorem ok_check_seats {P : Program} {w : World} {K : PySem.W.Frag} {mg : Str → Option Value} {base : Heap} {A : Ad} (T : Txt w K mg A) : FnOk P w K mg base CX0 7 A.a_check_seats A.d_check_seats ["rule", "size", "team", "day"] (sp_check_seats A) := by
  refine T.F_check_seats.ok sc_check_seats (fun vs H Q E h => ?_) (fun cdv A_ outer s_ H_0 vs Q E hr h => ?_)
  · obtain ⟨ms, v_rule, x_rule, x_size, x_team, x_day, KM, rfl, _⟩ := h
    rfl
  · obtain ⟨ms, v_rule, x_rule, x_size, x_team, x_day, KM, rfl, hW, h_rule, hM, hQ⟩ := h
    unfold M_check_seats at hM
    refine ⟨_, (pss_cons (ps_expr (pe_call (ok_check_size T) (hr.mono (by decide)) (by rfl) T.g_check_size T.F_check_size.kp T.b_check_size .nil pass0 (pa_cons (pv 0) (pa_cons (pv 1) pa_nil)))) (pss_cons (ps_expr (pe_call (ok_check_team T) (hr.mono (by decide)) (by rfl) T.g_check_team T.F_check_team.kp T.b_check_team .nil pass0 (pa_cons (pv 2) (pa_cons (pv 1) pa_nil)))) (pss_one (ps_expr (pe_call (ok_check_day T) (hr.mono (by decide)) (by rfl) T.g_check_day T.F_check_day.kp T.b_check_day .nil pass0 (pa_cons (pv 3) (pa_cons (pe_op op_sub (pv 1) pe_int) pa_nil))))))), ?_⟩
    refine ⟨_, rfl, ?_⟩
    refine ⟨_, rfl, ?_⟩
    refine ⟨ms, _, x_rule, x_size, _, rfl, hW.enter0, h_rule, hM, fun r1 u4 H5 hM e3 h2 => ?_⟩
    replace h_rule := rep_ext e3 h_rule
    replace hW := hW.ret0 e3
    obtain rfl := of_v h2
    refine ⟨_, rfl, ?_⟩
    refine ⟨_, rfl, ?_⟩
    refine ⟨ms, x_team, x_size, _, rfl, hW.enter0, hM, fun r6 u9 H10 hM e8 h7 => ?_⟩
    replace h_rule := rep_ext e8 h_rule
    replace hW := hW.ret0 e8
    obtain rfl := of_v h7
    refine ⟨_, rfl, ?_⟩
    refine ⟨_, rfl, ?_⟩
    refine ⟨_, _, rfl, rfl, ?_⟩
    refine ⟨ms, x_day, (x_size - (1 : Int)), _, rfl, hW.enter0, hM, fun r11 u14 H15 hM e13 h12 => ?_⟩
    replace h_rule := rep_ext e13 h_rule
    replace hW := hW.ret0 e13
    obtain rfl := of_v h12
    exact hQ () _ _ hM hW.out rep_v
def M_stander_mark (x_rule : (Int × (Str × Str × Str) × Str × Bool)) (x_day : Int) (KM : Str → Prop) : Prop :=
  (M_Rule_stander x_rule fun r2 => (∃ c7 : Str, wd_STANDER_MARKS.lookup r2 = some c7 ∧ (c7.length ≤ sizeLine ∧ ∃ c10, atI c7.cps.toList (x_day % (2 : Int)) = some c10 ∧ (KM (Str.mk #[c10])))))
def sp_stander_mark (A : Ad) : Sp := fun vs H Q _ => ∃ (ms : List Addr) (v_rule : V) (x_rule : (Int × (Str × Str × Str) × Str × Bool)) (x_day : Int) (KM : Str → Prop), vs = [v_rule, V.int x_day] ∧ Wd ms [] [] H H ∧ rep ms H (eRule A x_rule) v_rule ∧ M_stander_mark x_rule x_day KM ∧ ∀ (r : Str) (u : V) (H1 : Hp), KM r → Ret [] H H1 → rep ms H1 (D.v (V.str r)) u → Q u H1
set_option maxHeartbeats 16000000 in
theorem ok_stander_mark {P : Program} {w : World} {K : PySem.W.Frag} {mg : Str → Option Value} {base : Heap} {A : Ad} (T : Txt w K mg A) : FnOk P w K mg base CX0 3 A.a_stander_mark A.d_stander_mark ["rule", "day"] (sp_stander_mark A) := by
  refine T.F_stander_mark.ok sc_stander_mark (fun vs H Q E h => ?_) (fun cdv A_ outer s_ H_0 vs Q E hr h => ?_)
  · obtain ⟨ms, v_rule, x_rule, x_day, KM, rfl, _⟩ := h
    rfl
  · obtain ⟨ms, v_rule, x_rule, x_day, KM, rfl, hW, h_rule, hM, hQ⟩ := h
    unfold M_stander_mark at hM
    refine ⟨_, (pss_one (ps_ret (pe_ix ix_str (pe_ix (ix_kdictW (K := K) (w := w) rfl rfl) (pe_glob (v := .ref A.wd_STANDER_MARKS) (by rfl) T.g_STANDER_MARKS rfl) (pe_prop (pv 0) T.cl_Rule T.p_Rule_stander (ok_Rule_stander T) (hr.mono (by decide)) T.b_Rule_stander .nil pass0 rfl) (fun _ _ => rfl)) (pe_op op_mod (pv 1) pe_int) (fun _ _ => rfl)))), ?_⟩
    refine ⟨_, rfl, ?_⟩
    apply rep_prop h_rule
    intro _ h1
    refine ⟨ms, _, x_rule, _, rfl, hW.enter0, h1, hM, fun r2 u5 H6 hM e4 h3 => ?_⟩
    replace h_rule := rep_ext e4 h_rule
    replace hW := hW.ret0 e4
    obtain rfl := of_v h3
    obtain ⟨c7, h8, hM⟩ := hM
    apply rep_ixD T.kd_STANDER_MARKS h8
    refine ⟨_, rfl, ?_⟩
    refine ⟨_, _, rfl, rfl, (by show (0 : Int) < (2 : Int); decide), ?_⟩
    obtain ⟨g9, hM⟩ := hM
    obtain ⟨c10, c10h, hM⟩ := hM
    refine ⟨_, _, _, rfl, rfl, g9, c10h, ?_⟩
    exact hQ (Str.mk #[c10]) _ _ hM hW.out rep_v
def M_seat (x_rule : (Int × (Str × Str × Str) × Str × Bool)) (x_size : Int) (x_team : Int) (x_day : Int) (KM : Int → Prop) : Prop :=
  (M_Rule_step x_rule fun r2 => (CMulW r2 x_day ∧ (0 < (x_size - (1 : Int)) ∧ (∃ KB9 : Int → Prop, (if (decide (((x_team - (r2 * x_day)) % (x_size - (1 : Int))) < (x_size / (2 : Int)))) = true then (KB9 ((x_team - (r2 * x_day)) % (x_size - (1 : Int)))) else (KB9 (((x_team - (r2 * x_day)) % (x_size - (1 : Int))) - (x_size - (1 : Int))))) ∧ ∀ r12 : Int, KB9 r12 → (KM r12)))))
def sp_seat (A : Ad) : Sp := fun vs H Q _ => ∃ (ms : List Addr) (v_rule : V) (x_rule : (Int × (Str × Str × Str) × Str × Bool)) (x_size : Int) (x_team : Int) (x_day : Int) (KM : Int → Prop), vs = [v_rule, V.int x_size, V.int x_team, V.int x_day] ∧ Wd ms [] [] H H ∧ rep ms H (eRule A x_rule) v_rule ∧ M_seat x_rule x_size x_team x_day KM ∧ ∀ (r : Int) (u : V) (H1 : Hp), KM r → Ret [] H H1 → rep ms H1 (D.v (V.int r)) u → Q u H1
set_option maxHeartbeats 16000000 in
theorem ok_seat {P : Program} {w : World} {K : PySem.W.Frag} {mg : Str → Option Value} {base : Heap} {A : Ad} (T : Txt w K mg A) : FnOk P w K mg base CX0 3 A.a_seat A.d_seat ["rule", "size", "team", "day"] (sp_seat A) := by
  refine T.F_seat.ok sc_seat (fun vs H Q E h => ?_) (fun cdv A_ outer s_ H_0 vs Q E hr h => ?_)
  · obtain ⟨ms, v_rule, x_rule, x_size, x_team, x_day, KM, rfl, _⟩ := h
    rfl
  · obtain ⟨ms, v_rule, x_rule, x_size, x_team, x_day, KM, rfl, hW, h_rule, hM, hQ⟩ := h
    unfold M_seat at hM
    refine ⟨_, (pss_cons (ps_set (i := 4) sc_seat.nd rfl (by first | exact Or.inl rfl | exact Or.inr rfl) (pe_op op_mod (pe_op op_sub (pv 2) (pe_op op_mulW (pe_prop (pv 0) T.cl_Rule T.p_Rule_step (ok_Rule_step T) (hr.mono (by decide)) T.b_Rule_step .nil pass0 rfl) (pv 3))) (pe_op op_sub (pv 1) pe_int))) (pss_one (ps_ret (pe_up (pe_ifExp (pt_cmpR op_lt (pv 4) (pe_op op_fdivW (pv 1) pe_int) (nomark _)) (pv 4) (pe_op op_sub (pv 4) (pe_op op_sub (pv 1) pe_int))))))), ?_⟩
    refine ⟨_, rfl, ?_⟩
    refine ⟨_, rfl, ?_⟩
    apply rep_prop h_rule
    intro _ h1
    refine ⟨ms, _, x_rule, _, rfl, hW.enter0, h1, hM, fun r2 u5 H6 hM e4 h3 => ?_⟩
    replace h_rule := rep_ext e4 h_rule
    replace hW := hW.ret0 e4
    obtain rfl := of_v h3
    refine ⟨_, rfl, ?_⟩
    obtain ⟨g7, hM⟩ := hM
    refine ⟨_, _, rfl, rfl, g7, ?_⟩
    refine ⟨_, _, rfl, rfl, ?_⟩
    refine ⟨_, rfl, ?_⟩
    refine ⟨_, _, rfl, rfl, ?_⟩
    obtain ⟨g8, hM⟩ := hM
    refine ⟨_, _, rfl, rfl, g8, ?_⟩
    obtain ⟨KB9, hM, hKKB9⟩ := hM
    refine ⟨fun v H1 => ∃ r : Int, KB9 r ∧ Wd ms [] [] H_0 H1 ∧ Keep ms H6 H1 ∧ rep ms H1 (D.v (V.int r)) v, ?_, ?_⟩
    · skip
      have hj11 := Keep.refl (ms := ms) (H := H6)
      refine ⟨_, rfl, ?_⟩
      refine ⟨_, rfl, ?_⟩
      refine ⟨_, _, rfl, rfl, ⟨by decide, by decide⟩, ?_⟩
      refine ⟨_, _, rfl, rfl, ?_⟩
      refine ⟨_, rfl, ?_⟩
      refine ite3 hM (fun hM => ?_) (fun hM => ?_)
      · skip
        refine ⟨_, rfl, ?_⟩
        exact ⟨((x_team - (r2 * x_day)) % (x_size - (1 : Int))), hM, hW, hj11, rep_v⟩
      · skip
        refine ⟨_, rfl, ?_⟩
        refine ⟨_, rfl, ?_⟩
        refine ⟨_, _, rfl, rfl, ?_⟩
        refine ⟨_, _, rfl, rfl, ?_⟩
        exact ⟨(((x_team - (r2 * x_day)) % (x_size - (1 : Int))) - (x_size - (1 : Int))), hM, hW, hj11, rep_v⟩
    · skip
      rintro u14 Hj10 ⟨r12, hr, hW, hj11, h13⟩
      replace hM := hKKB9 r12 hr
      replace h_rule := rep_keep hj11 h_rule
      obtain rfl := of_v h13
      exact hQ r12 _ _ hM hW.out rep_v
def M_contrary_marks (x_marks : Str) (KM : Str → Prop) : Prop :=
  ((Rx.signs x_marks).length < 100000 ∧ mapC (fun (x12 : Str) (k5 : Str → Prop) => (∃ c18 : Str, wd_CONTRARIES.lookup x12 = some c18 ∧ (k5 c18))) (Rx.signs x_marks) [] fun ys25 => ((ys25.map (·.length)).sum + ys25.length * ("" : Str).length ≤ 16777216 ∧ (KM (Txt.join ("" : Str) ys25))))
def sp_contrary_marks (A : Ad) : Sp := fun vs H Q _ => ∃ (ms : List Addr) (x_marks : Str) (KM : Str → Prop), vs = [V.str x_marks] ∧ Wd ms [] [] H H ∧ M_contrary_marks x_marks KM ∧ ∀ (r : Str) (u : V) (H1 : Hp), KM r → Ret [] H H1 → rep ms H1 (D.v (V.str r)) u → Q u H1
set_option maxHeartbeats 16000000 in
theorem ok_contrary_marks {P : Program} {w : World} {K : PySem.W.Frag} {mg : Str → Option Value} {base : Heap} {A : Ad} (T : Txt w K mg A) : FnOk P w K mg base CX0 1 A.a_contrary_marks A.d_contrary_marks ["marks"] (sp_contrary_marks A) := by
  refine T.F_contrary_marks.ok sc_contrary_marks (fun vs H Q E h => ?_) (fun cdv A_ outer s_ H_0 vs Q E hr h => ?_)
  · obtain ⟨ms, x_marks, KM, rfl, _⟩ := h
    rfl
  · obtain ⟨ms, x_marks, KM, rfl, hW, hM, hQ⟩ := h
    unfold M_contrary_marks at hM
    refine ⟨_, (pss_one (ps_ret (pe_joinK (K := K) rfl pe_str (pe_lc (own := [("mark", 1)]) (g := gName 1) rfl sc_contrary_marks.nd (pi_str (pv 0)) (blkOk_by (N := ["marks", "mark"]) (sc := defScope s_contrary_marks) (by decide +kernel)) (fun _ _ _ _ _ => pg_name (i := 1) sc_contrary_marks.nd rfl (by first | exact Or.inl rfl | exact Or.inr rfl)) (fun _ _ _ _ _ => pts_nil) (fun _ _ _ _ _ => (pe_ix (ix_kdictW (K := K) (w := w) rfl rfl) (pe_glob (v := .ref A.wd_CONTRARIES) (by rfl) T.g_CONTRARIES rfl) (pv 1) (fun _ _ => rfl))))))), ?_⟩
    refine ⟨⟨_, rfl⟩, ?_⟩
    refine ⟨_, rfl, ?_⟩
    refine ⟨_, rfl, ?_⟩
    refine fun L1 nl2 => ?_
    have nm16 := nm_new hW nl2
    refine lc_strG (L := L1) (fun n_ ys_ h_ => Wd (L1 :: ms) [] [] H_0 h_ ∧ Keep (L1 :: ms) H_0 h_ ∧ MutO (L1 :: ms) [] H_0 h_ L1 (D.lst (ys_.map (fun y_ : Str => (D.v (V.str y_))))) ∧ ys_.length ≤ n_) hM ⟨wd_cell hW nl2, keep_cell nl2 Keep.refl, mo_newL (ds := []) hW nl2 repL_nil, Nat.le_refl _⟩ ?_ ?_
    · skip
      rintro x12  n3 ys4 k5 H17 hn ⟨hW, hk6, mu7, ln8⟩ hM Nx11 hN9
      refine ⟨rfl, ?_⟩
      refine tyes_of ?_
      refine ⟨_, rfl, ?_⟩
      obtain ⟨c18, h19, hM⟩ := hM
      apply rep_ixD T.kd_CONTRARIES h19
      refine mo_end mu7 hn (by rw [List.length_map]; exact ln8) fun vs20 hr21 => ?_
      have mk23 := mo_setL mu7 (repL_snoc (e := (fun y_ : Str => (D.v (V.str y_)))) (xs := ys4) (y := c18) hr21 rep_v)
      replace hk6 := keep_put (o := .lst (vs20 ++ [V.str c18])) mu7.im hk6
      replace hW := wd_put (o := .lst (vs20 ++ [V.str c18])) hW mu7
      replace mu7 := mk23
      generalize upd H17 L1 (.lst (vs20 ++ [V.str c18])) = H24 at *
      replace mu7 : MutO (L1 :: ms) [] H_0 H24 L1 (D.lst ((ys4 ++ [c18]).map (fun y_ : Str => (D.v (V.str y_))))) := mu7
      clear mk23
      exact hN9 c18 _ hM ⟨hW, hk6, mu7, by rw [List.length_append]; exact Nat.add_le_add_right ln8 1⟩
    · skip
      rintro n3 ys25 H26 hM ⟨hW, hk6, mu7, ln8⟩
      clear hk6 ln8
      have h27 := mo_rep_dr dr_here nm16 mu7
      replace hW := wd_dr dr_here mu7.hp hW
      clear mu7
      obtain ⟨g28, hM⟩ := hM
      apply rep_join (a := ("" : Str)) (ys := ys25) h27 g28
      exact hQ (Txt.join ("" : Str) ys25) _ _ hM hW.out rep_v
def M_check_places (x_word : (Str × Str × Str)) (x_places : Int) (KM : Unit → Prop) : Prop :=
  (M_is_integer x_places fun r1 => (if (!r1) = true then False else (M_Word_least x_word fun r7 => (if (decide (x_places < r7)) = true then False else (KM ())))))
def sp_check_places (A : Ad) : Sp := fun vs H Q _ => ∃ (ms : List Addr) (v_word : V) (x_word : (Str × Str × Str)) (x_places : Int) (KM : Unit → Prop), vs = [v_word, V.int x_places] ∧ Wd ms [] [] H H ∧ rep ms H (eWord A x_word) v_word ∧ M_check_places x_word x_places KM ∧ ∀ (r : Unit) (u : V) (H1 : Hp), KM r → Ret [] H H1 → rep ms H1 (D.v V.non) u → Q u H1
set_option maxHeartbeats 16000000 in
theorem ok_check_places {P : Program} {w : World} {K : PySem.W.Frag} {mg : Str → Option Value} {base : Heap} {A : Ad} (T : Txt w K mg A) : FnOk P w K mg base CX0 3 A.a_check_places A.d_check_places ["word", "places"] (sp_check_places A) := by
  refine T.F_check_places.ok sc_check_places (fun vs H Q E h => ?_) (fun cdv A_ outer s_ H_0 vs Q E hr h => ?_)
  · obtain ⟨ms, v_word, x_word, x_places, KM, rfl, _⟩ := h
    rfl
  · obtain ⟨ms, v_word, x_word, x_places, KM, rfl, hW, h_word, hM, hQ⟩ := h
    unfold M_check_places at hM
    refine ⟨_, (pss_one (ps_if (PW.pt (pw_or (pt_not (pt_val (pe_call (ok_is_integer T) (hr.mono (by decide)) (by rfl) T.g_is_integer T.F_is_integer.kp T.b_is_integer .nil pass0 (pa_cons (pv 1) pa_nil)))) (pw_or1 (pt_cmpR op_lt (pv 1) (pe_prop (pv 0) T.cl_Word T.p_Word_least (ok_Word_least T) (hr.mono (by decide)) T.b_Word_least .nil pass0 rfl) (nomark _))))) (pss_one ps_never) pss_nil)), ?_⟩
    refine ⟨_, rfl, ?_⟩
    refine ⟨ms, x_places, _, rfl, hW.enter0, hM, fun r1 u4 H5 hM e3 h2 => ?_⟩
    replace h_word := rep_ext e3 h_word
    replace hW := hW.ret0 e3
    obtain rfl := of_v h2
    refine ⟨_, rfl, ?_⟩
    refine ite3 hM (fun hM => ?_) (fun hM => ?_)
    · skip
      refine iteT ?_
      exact hM
    · skip
      refine ⟨_, rfl, ?_⟩
      refine ⟨_, rfl, ?_⟩
      apply rep_prop h_word
      intro _ h6
      refine ⟨ms, _, x_word, _, rfl, hW.enter0, h6, hM, fun r7 u10 H11 hM e9 h8 => ?_⟩
      replace h_word := rep_ext e9 h_word
      replace hW := hW.ret0 e9
      obtain rfl := of_v h8
      refine ⟨_, _, rfl, rfl, ?_⟩
      refine ⟨_, rfl, ?_⟩
      refine ite3 hM (fun hM => ?_) (fun hM => ?_)
      · skip
        exact hM
      · skip
        exact hQ () _ _ hM hW.out rep_v
def M_Word_mark (x_self : (Str × Str × Str)) (x_places : Int) (x_place : Int) (KM : Str → Prop) : Prop :=
  (M_check_places x_self x_places fun r1 => (M_is_integer x_place fun r6 => (if (!r6) = true then False else (if (decide (x_place < (1 : Int))) = true then False else (if (decide (x_places < x_place)) = true then False else (x_self.1.length ≤ sizeLine ∧ (if (decide (x_place ≤ (x_self.1.length : Int))) = true then (x_self.1.length ≤ sizeLine ∧ ∃ c17, atI x_self.1.cps.toList (x_place - (1 : Int)) = some c17 ∧ (KM (Str.mk #[c17]))) else (x_self.2.2.length ≤ sizeLine ∧ (if (decide ((x_places - (x_self.2.2.length : Int)) < x_place)) = true then (x_self.2.2.length ≤ sizeLine ∧ ∃ c24, atI x_self.2.2.cps.toList ((x_place - (x_places - (x_self.2.2.length : Int))) - (1 : Int)) = some c24 ∧ (KM (Str.mk #[c24]))) else (x_self.1.length ≤ sizeLine ∧ (x_self.2.1.length ≤ sizeLine ∧ (0 < (x_self.2.1.length : Int) ∧ (x_self.2.1.length ≤ sizeLine ∧ ∃ c35, atI x_self.2.1.cps.toList (((x_place - (x_self.1.length : Int)) - (1 : Int)) % (x_self.2.1.length : Int)) = some c35 ∧ (KM (Str.mk #[c35])))))))))))))))
def sp_Word_mark (A : Ad) : Sp := fun vs H Q _ => ∃ (ms : List Addr) (v_self : V) (x_self : (Str × Str × Str)) (x_places : Int) (x_place : Int) (KM : Str → Prop), vs = [v_self, V.int x_places, V.int x_place] ∧ Wd ms [] [] H H ∧ rep ms H (eWord A x_self) v_self ∧ M_Word_mark x_self x_places x_place KM ∧ ∀ (r : Str) (u : V) (H1 : Hp), KM r → Ret [] H H1 → rep ms H1 (D.v (V.str r)) u → Q u H1
set_option maxHeartbeats 16000000 in
theorem ok_Word_mark {P : Program} {w : World} {K : PySem.W.Frag} {mg : Str → Option Value} {base : Heap} {A : Ad} (T : Txt w K mg A) : FnOk P w K mg base CX0 4 A.a_Word_mark A.d_Word_mark ["self", "places", "place"] (sp_Word_mark A) := by
  refine T.F_Word_mark.ok sc_Word_mark (fun vs H Q E h => ?_) (fun cdv A_ outer s_ H_0 vs Q E hr h => ?_)
  · obtain ⟨ms, v_self, x_self, x_places, x_place, KM, rfl, _⟩ := h
    rfl
  · obtain ⟨ms, v_self, x_self, x_places, x_place, KM, rfl, hW, h_self, hM, hQ⟩ := h
    unfold M_Word_mark at hM
    refine ⟨_, (pss_cons (ps_expr (pe_call (ok_check_places T) (hr.mono (by decide)) (by rfl) T.g_check_places T.F_check_places.kp T.b_check_places .nil pass0 (pa_cons (pv 0) (pa_cons (pv 1) pa_nil)))) (pss_cons (ps_if (PW.pt (pw_or (pt_not (pt_val (pe_call (ok_is_integer T) (hr.mono (by decide)) (by rfl) T.g_is_integer T.F_is_integer.kp T.b_is_integer .nil pass0 (pa_cons (pv 2) pa_nil)))) (pw_or (pt_cmpR op_lt (pv 2) pe_int (nomark _)) (pw_or1 (pt_cmpR op_gt (pv 2) (pv 1) (nomark _)))))) (pss_one ps_never) pss_nil) (pss_cons (ps_if (pt_cmpR op_le (pv 2) (pe_callB call_len_str (by rfl) T.z_len PySem.boot_len (pa_cons (pe_fld (pv 0) rfl) pa_nil)) (nomark _)) (pss_one (ps_ret (pe_ix ix_str (pe_fld (pv 0) rfl) (pe_op op_sub (pv 2) pe_int) (fun _ _ => rfl)))) pss_nil) (pss_cons (ps_set (i := 3) sc_Word_mark.nd rfl (by first | exact Or.inl rfl | exact Or.inr rfl) (pe_op op_sub (pv 1) (pe_callB call_len_str (by rfl) T.z_len PySem.boot_len (pa_cons (pe_fld (pv 0) rfl) pa_nil)))) (pss_cons (ps_if (pt_cmpR op_gt (pv 2) (pv 3) (nomark _)) (pss_one (ps_ret (pe_ix ix_str (pe_fld (pv 0) rfl) (pe_op op_sub (pe_op op_sub (pv 2) (pv 3)) pe_int) (fun _ _ => rfl)))) pss_nil) (pss_one (ps_ret (pe_ix ix_str (pe_fld (pv 0) rfl) (pe_op op_mod (pe_op op_sub (pe_op op_sub (pv 2) (pe_callB call_len_str (by rfl) T.z_len PySem.boot_len (pa_cons (pe_fld (pv 0) rfl) pa_nil))) pe_int) (pe_callB call_len_str (by rfl) T.z_len PySem.boot_len (pa_cons (pe_fld (pv 0) rfl) pa_nil))) (fun _ _ => rfl))))))))), ?_⟩
    refine ⟨_, rfl, ?_⟩
    refine ⟨_, rfl, ?_⟩
    refine ⟨ms, _, x_self, x_places, _, rfl, hW.enter0, h_self, hM, fun r1 u4 H5 hM e3 h2 => ?_⟩
    replace h_self := rep_ext e3 h_self
    replace hW := hW.ret0 e3
    obtain rfl := of_v h2
    refine ⟨_, rfl, ?_⟩
    refine ⟨ms, x_place, _, rfl, hW.enter0, hM, fun r6 u9 H10 hM e8 h7 => ?_⟩
    replace h_self := rep_ext e8 h_self
    replace hW := hW.ret0 e8
    obtain rfl := of_v h7
    refine ⟨_, rfl, ?_⟩
    refine ite3 hM (fun hM => ?_) (fun hM => ?_)
    · skip
      refine iteT ?_
      exact hM
    · skip
      refine ⟨_, rfl, ?_⟩
      refine ⟨_, _, rfl, rfl, ?_⟩
      refine ⟨_, rfl, ?_⟩
      refine ite3 hM (fun hM => ?_) (fun hM => ?_)
      · skip
        refine iteT ?_
        exact hM
      · skip
        refine ⟨_, rfl, ?_⟩
        refine ⟨_, rfl, ?_⟩
        refine ⟨_, _, rfl, rfl, ?_⟩
        refine ⟨_, rfl, ?_⟩
        refine ite3 hM (fun hM => ?_) (fun hM => ?_)
        · skip
          exact hM
        · skip
          refine ⟨_, rfl, ?_⟩
          refine ⟨_, rfl, ?_⟩
          apply rep_fld (j := 0) h_self T.cl_Word T.na_Word__head nd_Word rfl rfl
          intro u12 h11
          obtain rfl := of_v h11
          obtain ⟨g13, hM⟩ := hM
          refine ⟨_, rfl, g13, ?_⟩
          refine ⟨_, _, rfl, rfl, ?_⟩
          refine ⟨_, rfl, ?_⟩
          refine ite3 hM (fun hM => ?_) (fun hM => ?_)
          · skip
            refine ⟨_, rfl, ?_⟩
            apply rep_fld (j := 0) h_self T.cl_Word T.na_Word__head nd_Word rfl rfl
            intro u15 h14
            obtain rfl := of_v h14
            refine ⟨_, rfl, ?_⟩
            refine ⟨_, _, rfl, rfl, ?_⟩
            obtain ⟨g16, hM⟩ := hM
            obtain ⟨c17, c17h, hM⟩ := hM
            refine ⟨_, _, _, rfl, rfl, g16, c17h, ?_⟩
            exact hQ (Str.mk #[c17]) _ _ hM hW.out rep_v
          · skip
            refine ⟨_, rfl, ?_⟩
            refine ⟨_, rfl, ?_⟩
            apply rep_fld (j := 2) h_self T.cl_Word T.na_Word__tail nd_Word rfl rfl
            intro u19 h18
            obtain rfl := of_v h18
            obtain ⟨g20, hM⟩ := hM
            refine ⟨_, rfl, g20, ?_⟩
            refine ⟨_, _, rfl, rfl, ?_⟩
            refine ⟨_, rfl, ?_⟩
            refine ⟨_, rfl, ?_⟩
            refine ⟨_, _, rfl, rfl, ?_⟩
            refine ⟨_, rfl, ?_⟩
            refine ite3 hM (fun hM => ?_) (fun hM => ?_)
            · skip
              refine ⟨_, rfl, ?_⟩
              apply rep_fld (j := 2) h_self T.cl_Word T.na_Word__tail nd_Word rfl rfl
              intro u22 h21
              obtain rfl := of_v h21
              refine ⟨_, rfl, ?_⟩
              refine ⟨_, rfl, ?_⟩
              refine ⟨_, _, rfl, rfl, ?_⟩
              refine ⟨_, _, rfl, rfl, ?_⟩
              obtain ⟨g23, hM⟩ := hM
              obtain ⟨c24, c24h, hM⟩ := hM
              refine ⟨_, _, _, rfl, rfl, g23, c24h, ?_⟩
              exact hQ (Str.mk #[c24]) _ _ hM hW.out rep_v
            · skip
              refine ⟨_, rfl, ?_⟩
              apply rep_fld (j := 1) h_self T.cl_Word T.na_Word__middle nd_Word rfl rfl
              intro u26 h25
              obtain rfl := of_v h25
              refine ⟨_, rfl, ?_⟩
              refine ⟨_, rfl, ?_⟩
              apply rep_fld (j := 0) h_self T.cl_Word T.na_Word__head nd_Word rfl rfl
              intro u28 h27
              obtain rfl := of_v h27
              obtain ⟨g29, hM⟩ := hM
              refine ⟨_, rfl, g29, ?_⟩
              refine ⟨_, _, rfl, rfl, ?_⟩
              refine ⟨_, _, rfl, rfl, ?_⟩
              refine ⟨_, rfl, ?_⟩
              apply rep_fld (j := 1) h_self T.cl_Word T.na_Word__middle nd_Word rfl rfl
              intro u31 h30
              obtain rfl := of_v h30
              obtain ⟨g32, hM⟩ := hM
              refine ⟨_, rfl, g32, ?_⟩
              obtain ⟨g33, hM⟩ := hM
              refine ⟨_, _, rfl, rfl, g33, ?_⟩
              obtain ⟨g34, hM⟩ := hM
              obtain ⟨c35, c35h, hM⟩ := hM
              refine ⟨_, _, _, rfl, rfl, g34, c35h, ?_⟩
              exact hQ (Str.mk #[c35]) _ _ hM hW.out rep_v
def M_Rule_turned (x_self : (Int × (Str × Str × Str) × Str × Bool)) (KM : Bool → Prop) : Prop :=
  (KM x_self.2.2.2)
def sp_Rule_turned (A : Ad) : Sp := fun vs H Q _ => ∃ (ms : List Addr) (v_self : V) (x_self : (Int × (Str × Str × Str) × Str × Bool)) (KM : Bool → Prop), vs = [v_self] ∧ Wd ms [] [] H H ∧ rep ms H (eRule A x_self) v_self ∧ M_Rule_turned x_self KM ∧ ∀ (r : Bool) (u : V) (H1 : Hp), KM r → Ret [] H H1 → rep ms H1 (D.v (V.bl r)) u → Q u H1
set_option maxHeartbeats 16000000 in
theorem ok_Rule_turned {P : Program} {w : World} {K : PySem.W.Frag} {mg : Str → Option Value} {base : Heap} {A : Ad} (T : Txt w K mg A) : FnOk P w K mg base CX0 1 A.a_Rule_turned A.d_Rule_turned ["self"] (sp_Rule_turned A) := by
  refine T.F_Rule_turned.ok sc_Rule_turned (fun vs H Q E h => ?_) (fun cdv A_ outer s_ H_0 vs Q E hr h => ?_)
  · obtain ⟨ms, v_self, x_self, KM, rfl, _⟩ := h
    rfl
  · obtain ⟨ms, v_self, x_self, KM, rfl, hW, h_self, hM, hQ⟩ := h
    unfold M_Rule_turned at hM
    refine ⟨_, (pss_one (ps_ret (pe_fld (pv 0) rfl))), ?_⟩
    refine ⟨_, rfl, ?_⟩
    apply rep_fld (j := 3) h_self T.cl_Rule T.na_Rule__turned nd_Rule rfl rfl
    intro u2 h1
    obtain rfl := of_v h1
    exact hQ x_self.2.2.2 _ _ hM hW.out rep_v
def M_turned_if (x_rule : (Int × (Str × Str × Str) × Str × Bool)) (x_day : Int) (x_marks : Str) (KM : Str → Prop) : Prop :=
  (∃ KB1 : Str → Prop, (M_Rule_turned x_rule fun r5 => (if r5 = true then (if (decide (V.int (x_day % (2 : Int)) = V.int (1 : Int))) = true then (M_contrary_marks x_marks fun r10 => (KB1 r10)) else (KB1 x_marks)) else (KB1 x_marks))) ∧ ∀ r15 : Str, KB1 r15 → (KM r15))
def sp_turned_if (A : Ad) : Sp := fun vs H Q _ => ∃ (ms : List Addr) (v_rule : V) (x_rule : (Int × (Str × Str × Str) × Str × Bool)) (x_day : Int) (x_marks : Str) (KM : Str → Prop), vs = [v_rule, V.int x_day, V.str x_marks] ∧ Wd ms [] [] H H ∧ rep ms H (eRule A x_rule) v_rule ∧ M_turned_if x_rule x_day x_marks KM ∧ ∀ (r : Str) (u : V) (H1 : Hp), KM r → Ret [] H H1 → rep ms H1 (D.v (V.str r)) u → Q u H1
set_option maxHeartbeats 16000000 in
theorem ok_turned_if {P : Program} {w : World} {K : PySem.W.Frag} {mg : Str → Option Value} {base : Heap} {A : Ad} (T : Txt w K mg A) : FnOk P w K mg base CX0 3 A.a_turned_if A.d_turned_if ["rule", "day", "marks"] (sp_turned_if A) := by
  refine T.F_turned_if.ok sc_turned_if (fun vs H Q E h => ?_) (fun cdv A_ outer s_ H_0 vs Q E hr h => ?_)
  · obtain ⟨ms, v_rule, x_rule, x_day, x_marks, KM, rfl, _⟩ := h
    rfl
  · obtain ⟨ms, v_rule, x_rule, x_day, x_marks, KM, rfl, hW, h_rule, hM, hQ⟩ := h
    unfold M_turned_if at hM
    refine ⟨_, (pss_one (ps_ret (pe_up (pe_ifExp (PW.pt (pw_and (pt_val (pe_prop (pv 0) T.cl_Rule T.p_Rule_turned (ok_Rule_turned T) (hr.mono (by decide)) T.b_Rule_turned .nil pass0 rfl)) (pw_and1 (pt_cmpR op_eq (pe_op op_mod (pv 1) pe_int) pe_int (nomark _))))) (pe_call (ok_contrary_marks T) (hr.mono (by decide)) (by rfl) T.g_contrary_marks T.F_contrary_marks.kp T.b_contrary_marks .nil pass0 (pa_cons (pv 2) pa_nil)) (pv 2))))), ?_⟩
    obtain ⟨KB1, hM, hKKB1⟩ := hM
    refine ⟨fun v H1 => ∃ r : Str, KB1 r ∧ Wd ms [] [] H_0 H1 ∧ Keep ms H_0 H1 ∧ rep ms H1 (D.v (V.str r)) v, ?_, ?_⟩
    · skip
      have hj3 := Keep.refl (ms := ms) (H := H_0)
      refine ⟨_, rfl, ?_⟩
      apply rep_prop h_rule
      intro _ h4
      refine ⟨ms, _, x_rule, _, rfl, hW.enter0, h4, hM, fun r5 u8 H9 hM e7 h6 => ?_⟩
      replace h_rule := rep_ext e7 h_rule
      replace hj3 := keep_ext e7 hj3
      replace hW := hW.ret0 e7
      obtain rfl := of_v h6
      refine ⟨_, rfl, ?_⟩
      refine ite3 hM (fun hM => ?_) (fun hM => ?_)
      · skip
        refine ⟨_, rfl, ?_⟩
        refine ⟨_, _, rfl, rfl, (by show (0 : Int) < (2 : Int); decide), ?_⟩
        refine ⟨rfl, ?_⟩
        refine ⟨_, rfl, ?_⟩
        refine ite3 hM (fun hM => ?_) (fun hM => ?_)
        · skip
          refine ⟨_, rfl, ?_⟩
          refine ⟨ms, x_marks, _, rfl, hW.enter0, hM, fun r10 u13 H14 hM e12 h11 => ?_⟩
          replace h_rule := rep_ext e12 h_rule
          replace hj3 := keep_ext e12 hj3
          replace hW := hW.ret0 e12
          obtain rfl := of_v h11
          exact ⟨r10, hM, hW, hj3, rep_v⟩
        · skip
          refine ⟨_, rfl, ?_⟩
          exact ⟨x_marks, hM, hW, hj3, rep_v⟩
      · skip
        refine iteF ?_
        refine ⟨_, rfl, ?_⟩
        exact ⟨x_marks, hM, hW, hj3, rep_v⟩
    · skip
      rintro u17 Hj2 ⟨r15, hr, hW, hj3, h16⟩
      replace hM := hKKB1 r15 hr
      replace h_rule := rep_keep hj3 h_rule
      obtain rfl := of_v h16
      exact hQ r15 _ _ hM hW.out rep_v
def M_mark_at (x_rule : (Int × (Str × Str × Str) × Str × Bool)) (x_size : Int) (x_at : Int) (x_day : Int) (KM : Str → Prop) : Prop :=
  (if (decide (V.int x_at = V.int (0 : Int))) = true then (M_stander_mark x_rule x_day fun r1 => (M_contrary_marks r1 fun r6 => (KM r6))) else (M_Rule_word x_rule fun r12 => (M_Word_mark r12 ((x_size / (2 : Int)) - (1 : Int)) (if x_at < 0 then -x_at else x_at) fun r17 => (M_turned_if x_rule x_day r17 fun r22 => (∃ KB27 : Str → Prop, (if (decide ((0 : Int) < x_at)) = true then (KB27 r22) else (M_contrary_marks r22 fun r30 => (KB27 r30))) ∧ ∀ r35 : Str, KB27 r35 → (KM r35))))))
def sp_mark_at (A : Ad) : Sp := fun vs H Q _ => ∃ (ms : List Addr) (v_rule : V) (x_rule : (Int × (Str × Str × Str) × Str × Bool)) (x_size : Int) (x_at : Int) (x_day : Int) (KM : Str → Prop), vs = [v_rule, V.int x_size, V.int x_at, V.int x_day] ∧ Wd ms [] [] H H ∧ rep ms H (eRule A x_rule) v_rule ∧ M_mark_at x_rule x_size x_at x_day KM ∧ ∀ (r : Str) (u : V) (H1 : Hp), KM r → Ret [] H H1 → rep ms H1 (D.v (V.str r)) u → Q u H1
set_option maxHeartbeats 16000000 in
theorem ok_mark_at {P : Program} {w : World} {K : PySem.W.Frag} {mg : Str → Option Value} {base : Heap} {A : Ad} (T : Txt w K mg A) : FnOk P w K mg base CX0 5 A.a_mark_at A.d_mark_at ["rule", "size", "at", "day"] (sp_mark_at A) := by
  refine T.F_mark_at.ok sc_mark_at (fun vs H Q E h => ?_) (fun cdv A_ outer s_ H_0 vs Q E hr h => ?_)
  · obtain ⟨ms, v_rule, x_rule, x_size, x_at, x_day, KM, rfl, _⟩ := h
    rfl
  · obtain ⟨ms, v_rule, x_rule, x_size, x_at, x_day, KM, rfl, hW, h_rule, hM, hQ⟩ := h
    unfold M_mark_at at hM
    refine ⟨_, (pss_cons (ps_if (pt_cmpR op_eq (pv 2) pe_int (nomark _)) (pss_one (ps_ret (pe_call (ok_contrary_marks T) (hr.mono (by decide)) (by rfl) T.g_contrary_marks T.F_contrary_marks.kp T.b_contrary_marks .nil pass0 (pa_cons (pe_call (ok_stander_mark T) (hr.mono (by decide)) (by rfl) T.g_stander_mark T.F_stander_mark.kp T.b_stander_mark .nil pass0 (pa_cons (pv 0) (pa_cons (pv 3) pa_nil))) pa_nil)))) pss_nil) (pss_cons (ps_set (i := 4) sc_mark_at.nd rfl (by first | exact Or.inl rfl | exact Or.inr rfl) (pe_call (ok_turned_if T) (hr.mono (by decide)) (by rfl) T.g_turned_if T.F_turned_if.kp T.b_turned_if .nil pass0 (pa_cons (pv 0) (pa_cons (pv 3) (pa_cons (pe_meth (pe_prop (pv 0) T.cl_Rule T.p_Rule_word (ok_Rule_word T) (hr.mono (by decide)) T.b_Rule_word .nil pass0 rfl) T.cl_Word T.m_Word_mark (ok_Word_mark T) (hr.mono (by decide)) T.b_Word_mark .nil pass0 (pa_cons (pe_op op_sub (pe_op op_fdivW (pv 1) pe_int) pe_int) (pa_cons (pe_callB call_abs (by rfl) T.z_abs (by decide +kernel) (pa_cons (pv 2) pa_nil)) pa_nil))) pa_nil))))) (pss_one (ps_ret (pe_up (pe_ifExp (pt_cmpR op_gt (pv 2) pe_int (nomark _)) (pv 4) (pe_call (ok_contrary_marks T) (hr.mono (by decide)) (by rfl) T.g_contrary_marks T.F_contrary_marks.kp T.b_contrary_marks .nil pass0 (pa_cons (pv 4) pa_nil)))))))), ?_⟩
    refine ⟨_, rfl, ?_⟩
    refine ⟨rfl, ?_⟩
    refine ⟨_, rfl, ?_⟩
    refine ite3 hM (fun hM => ?_) (fun hM => ?_)
    · skip
      refine ⟨_, rfl, ?_⟩
      refine ⟨_, rfl, ?_⟩
      refine ⟨ms, _, x_rule, x_day, _, rfl, hW.enter0, h_rule, hM, fun r1 u4 H5 hM e3 h2 => ?_⟩
      replace h_rule := rep_ext e3 h_rule
      replace hW := hW.ret0 e3
      obtain rfl := of_v h2
      refine ⟨ms, r1, _, rfl, hW.enter0, hM, fun r6 u9 H10 hM e8 h7 => ?_⟩
      replace h_rule := rep_ext e8 h_rule
      replace hW := hW.ret0 e8
      obtain rfl := of_v h7
      exact hQ r6 _ _ hM hW.out rep_v
    · skip
      refine ⟨_, rfl, ?_⟩
      refine ⟨_, rfl, ?_⟩
      refine ⟨_, rfl, ?_⟩
      apply rep_prop h_rule
      intro _ h11
      refine ⟨ms, _, x_rule, _, rfl, hW.enter0, h11, hM, fun r12 u15 H16 hM e14 h13 => ?_⟩
      replace h_rule := rep_ext e14 h_rule
      replace hW := hW.ret0 e14
      apply rep_meth (m := "mark") h13 (by decide +kernel)
      refine ⟨_, rfl, ?_⟩
      refine ⟨_, _, rfl, rfl, ⟨by decide, by decide⟩, ?_⟩
      refine ⟨_, _, rfl, rfl, ?_⟩
      refine ⟨_, rfl, ?_⟩
      refine ⟨_, rfl, ?_⟩
      refine ⟨ms, _, r12, ((x_size / (2 : Int)) - (1 : Int)), (if x_at < 0 then -x_at else x_at), _, rfl, hW.enter0, h13, hM, fun r17 u20 H21 hM e19 h18 => ?_⟩
      replace h_rule := rep_ext e19 h_rule
      replace h13 := rep_ext e19 h13
      replace hW := hW.ret0 e19
      obtain rfl := of_v h18
      refine ⟨ms, _, x_rule, x_day, r17, _, rfl, hW.enter0, h_rule, hM, fun r22 u25 H26 hM e24 h23 => ?_⟩
      replace h_rule := rep_ext e24 h_rule
      replace h13 := rep_ext e24 h13
      replace hW := hW.ret0 e24
      obtain rfl := of_v h23
      obtain ⟨KB27, hM, hKKB27⟩ := hM
      refine ⟨fun v H1 => ∃ r : Str, KB27 r ∧ Wd ms [] [] H_0 H1 ∧ Keep ms H26 H1 ∧ rep ms H1 (D.v (V.str r)) v, ?_, ?_⟩
      · skip
        have hj29 := Keep.refl (ms := ms) (H := H26)
        refine ⟨_, rfl, ?_⟩
        refine ⟨_, _, rfl, rfl, ?_⟩
        refine ⟨_, rfl, ?_⟩
        refine ite3 hM (fun hM => ?_) (fun hM => ?_)
        · skip
          refine ⟨_, rfl, ?_⟩
          exact ⟨r22, hM, hW, hj29, rep_v⟩
        · skip
          refine ⟨_, rfl, ?_⟩
          refine ⟨ms, r22, _, rfl, hW.enter0, hM, fun r30 u33 H34 hM e32 h31 => ?_⟩
          replace h_rule := rep_ext e32 h_rule
          replace h13 := rep_ext e32 h13
          replace hj29 := keep_ext e32 hj29
          replace hW := hW.ret0 e32
          obtain rfl := of_v h31
          exact ⟨r30, hM, hW, hj29, rep_v⟩
      · skip
        rintro u37 Hj28 ⟨r35, hr, hW, hj29, h36⟩
        replace hM := hKKB27 r35 hr
        replace h_rule := rep_keep hj29 h_rule
        replace h13 := rep_keep hj29 h13
        obtain rfl := of_v h36
        exact hQ r35 _ _ hM hW.out rep_v
def M_mark_of (x_rule : (Int × (Str × Str × Str) × Str × Bool)) (x_size : Int) (x_team : Int) (x_day : Int) (KM : Str → Prop) : Prop :=
  (M_check_seats x_rule x_size x_team x_day fun r1 => (if (decide (V.int x_team = V.int (x_size - (1 : Int)))) = true then (M_stander_mark x_rule x_day fun r6 => (KM r6)) else (M_seat x_rule x_size x_team x_day fun r11 => (M_mark_at x_rule x_size r11 x_day fun r16 => (KM r16)))))
def sp_mark_of (A : Ad) : Sp := fun vs H Q _ => ∃ (ms : List Addr) (v_rule : V) (x_rule : (Int × (Str × Str × Str) × Str × Bool)) (x_size : Int) (x_team : Int) (x_day : Int) (KM : Str → Prop), vs = [v_rule, V.int x_size, V.int x_team, V.int x_day] ∧ Wd ms [] [] H H ∧ rep ms H (eRule A x_rule) v_rule ∧ M_mark_of x_rule x_size x_team x_day KM ∧ ∀ (r : Str) (u : V) (H1 : Hp), KM r → Ret [] H H1 → rep ms H1 (D.v (V.str r)) u → Q u H1
set_option maxHeartbeats 16000000 in
theorem ok_mark_of {P : Program} {w : World} {K : PySem.W.Frag} {mg : Str → Option Value} {base : Heap} {A : Ad} (T : Txt w K mg A) : FnOk P w K mg base CX0 8 A.a_mark_of A.d_mark_of ["rule", "size", "team", "day"] (sp_mark_of A) := by
  refine T.F_mark_of.ok sc_mark_of (fun vs H Q E h => ?_) (fun cdv A_ outer s_ H_0 vs Q E hr h => ?_)
  · obtain ⟨ms, v_rule, x_rule, x_size, x_team, x_day, KM, rfl, _⟩ := h
    rfl
  · obtain ⟨ms, v_rule, x_rule, x_size, x_team, x_day, KM, rfl, hW, h_rule, hM, hQ⟩ := h
    unfold M_mark_of at hM
    refine ⟨_, (pss_cons (ps_expr (pe_call (ok_check_seats T) (hr.mono (by decide)) (by rfl) T.g_check_seats T.F_check_seats.kp T.b_check_seats .nil pass0 (pa_cons (pv 0) (pa_cons (pv 1) (pa_cons (pv 2) (pa_cons (pv 3) pa_nil)))))) (pss_cons (ps_if (pt_cmpR op_eq (pv 2) (pe_op op_sub (pv 1) pe_int) (nomark _)) (pss_one (ps_ret (pe_call (ok_stander_mark T) (hr.mono (by decide)) (by rfl) T.g_stander_mark T.F_stander_mark.kp T.b_stander_mark .nil pass0 (pa_cons (pv 0) (pa_cons (pv 3) pa_nil))))) pss_nil) (pss_one (ps_ret (pe_call (ok_mark_at T) (hr.mono (by decide)) (by rfl) T.g_mark_at T.F_mark_at.kp T.b_mark_at .nil pass0 (pa_cons (pv 0) (pa_cons (pv 1) (pa_cons (pe_call (ok_seat T) (hr.mono (by decide)) (by rfl) T.g_seat T.F_seat.kp T.b_seat .nil pass0 (pa_cons (pv 0) (pa_cons (pv 1) (pa_cons (pv 2) (pa_cons (pv 3) pa_nil))))) (pa_cons (pv 3) pa_nil))))))))), ?_⟩
    refine ⟨_, rfl, ?_⟩
    refine ⟨_, rfl, ?_⟩
    refine ⟨_, rfl, ?_⟩
    refine ⟨_, rfl, ?_⟩
    refine ⟨ms, _, x_rule, x_size, x_team, x_day, _, rfl, hW.enter0, h_rule, hM, fun r1 u4 H5 hM e3 h2 => ?_⟩
    replace h_rule := rep_ext e3 h_rule
    replace hW := hW.ret0 e3
    obtain rfl := of_v h2
    refine ⟨_, rfl, ?_⟩
    refine ⟨_, rfl, ?_⟩
    refine ⟨_, _, rfl, rfl, ?_⟩
    refine ⟨rfl, ?_⟩
    refine ⟨_, rfl, ?_⟩
    refine ite3 hM (fun hM => ?_) (fun hM => ?_)
    · skip
      refine ⟨_, rfl, ?_⟩
      refine ⟨_, rfl, ?_⟩
      refine ⟨ms, _, x_rule, x_day, _, rfl, hW.enter0, h_rule, hM, fun r6 u9 H10 hM e8 h7 => ?_⟩
      replace h_rule := rep_ext e8 h_rule
      replace hW := hW.ret0 e8
      obtain rfl := of_v h7
      exact hQ r6 _ _ hM hW.out rep_v
    · skip
      refine ⟨_, rfl, ?_⟩
      refine ⟨_, rfl, ?_⟩
      refine ⟨_, rfl, ?_⟩
      refine ⟨_, rfl, ?_⟩
      refine ⟨_, rfl, ?_⟩
      refine ⟨_, rfl, ?_⟩
      refine ⟨ms, _, x_rule, x_size, x_team, x_day, _, rfl, hW.enter0, h_rule, hM, fun r11 u14 H15 hM e13 h12 => ?_⟩
      replace h_rule := rep_ext e13 h_rule
      replace hW := hW.ret0 e13
      obtain rfl := of_v h12
      refine ⟨_, rfl, ?_⟩
      refine ⟨ms, _, x_rule, x_size, r11, x_day, _, rfl, hW.enter0, h_rule, hM, fun r16 u19 H20 hM e18 h17 => ?_⟩
      replace h_rule := rep_ext e18 h_rule
      replace hW := hW.ret0 e18
      obtain rfl := of_v h17
      exact hQ r16 _ _ hM hW.out rep_v
def M_marks_from (x_rule : (Int × (Str × Str × Str) × Str × Bool)) (x_size : Int) (x_team : Int) (x_first : Int) (x_last : Int) (KM : Str → Prop) : Prop :=
  ((rangeI x_first (if (x_first + (12 : Int)) < (x_last + (1 : Int)) then (x_first + (12 : Int)) else (x_last + (1 : Int)))).length < 100000 ∧ mapC (fun (x12 : Int) (k5 : Str → Prop) => (M_mark_of x_rule x_size x_team x12 fun r18 => (k5 r18))) (rangeI x_first (if (x_first + (12 : Int)) < (x_last + (1 : Int)) then (x_first + (12 : Int)) else (x_last + (1 : Int)))) [] fun ys28 => ((ys28.map (·.length)).sum + ys28.length * ("" : Str).length ≤ 16777216 ∧ (KM (Txt.join ("" : Str) ys28))))
def sp_marks_from (A : Ad) : Sp := fun vs H Q _ => ∃ (ms : List Addr) (v_rule : V) (x_rule : (Int × (Str × Str × Str) × Str × Bool)) (x_size : Int) (x_team : Int) (x_first : Int) (x_last : Int) (KM : Str → Prop), vs = [v_rule, V.int x_size, V.int x_team, V.int x_first, V.int x_last] ∧ Wd ms [] [] H H ∧ rep ms H (eRule A x_rule) v_rule ∧ M_marks_from x_rule x_size x_team x_first x_last KM ∧ ∀ (r : Str) (u : V) (H1 : Hp), KM r → Ret [] H H1 → rep ms H1 (D.v (V.str r)) u → Q u H1
set_option maxHeartbeats 16000000 in
theorem ok_marks_from {P : Program} {w : World} {K : PySem.W.Frag} {mg : Str → Option Value} {base : Heap} {A : Ad} (T : Txt w K mg A) : FnOk P w K mg base CX0 9 A.a_marks_from A.d_marks_from ["rule", "size", "team", "first", "last"] (sp_marks_from A) := by
  refine T.F_marks_from.ok sc_marks_from (fun vs H Q E h => ?_) (fun cdv A_ outer s_ H_0 vs Q E hr h => ?_)
  · obtain ⟨ms, v_rule, x_rule, x_size, x_team, x_first, x_last, KM, rfl, _⟩ := h
    rfl
  · obtain ⟨ms, v_rule, x_rule, x_size, x_team, x_first, x_last, KM, rfl, hW, h_rule, hM, hQ⟩ := h
    unfold M_marks_from at hM
    refine ⟨_, (pss_cons (ps_set (i := 5) sc_marks_from.nd rfl (by first | exact Or.inl rfl | exact Or.inr rfl) (pe_callB (call_min2 rfl) (by rfl) T.z_min (by decide +kernel) (pa_cons (pe_op op_add (pv 4) pe_int) (pa_cons (pe_op op_add (pv 3) (C8.pe_gc (by rfl) T.c_MARKS_TOLD)) pa_nil)))) (pss_one (ps_ret (pe_joinK (K := K) rfl pe_str (pe_lc (own := [("day", 6)]) (g := gName 6) rfl sc_marks_from.nd (pi_rangeW2 (by rfl) T.z_range (pa_cons (pv 3) (pa_cons (pv 5) pa_nil))) (blkOk_by (N := ["rule", "size", "team", "first", "last", "behind", "day"]) (sc := defScope s_marks_from) (by decide +kernel)) (fun _ _ _ _ _ => pg_name (i := 6) sc_marks_from.nd rfl (by first | exact Or.inl rfl | exact Or.inr rfl)) (fun _ _ _ _ _ => pts_nil) (fun _ _ _ _ _ => (pe_call (ok_mark_of T) (hr.mono (by decide)) (by rfl) T.g_mark_of T.F_mark_of.kp T.b_mark_of .nil pass0 (pa_cons (pv 0) (pa_cons (pv 1) (pa_cons (pv 2) (pa_cons (pv 6) pa_nil))))))))))), ?_⟩
    refine ⟨_, rfl, ?_⟩
    refine ⟨_, _, rfl, rfl, ?_⟩
    refine ⟨_, rfl, ?_⟩
    refine ⟨_, _, rfl, rfl, ?_⟩
    refine ⟨_, _, rfl, ?_⟩
    refine ⟨⟨_, rfl⟩, ?_⟩
    refine ⟨_, rfl, ?_⟩
    refine ⟨_, rfl, ?_⟩
    refine ⟨_, _, rfl, ?_⟩
    refine fun L1 nl2 => ?_
    have nm16 := nm_new hW nl2
    refine lc_rangeG (L := L1) (fun n_ ys_ h_ => Wd (L1 :: ms) [] [] H_0 h_ ∧ Keep (L1 :: ms) H_0 h_ ∧ MutO (L1 :: ms) [] H_0 h_ L1 (D.lst (ys_.map (fun y_ : Str => (D.v (V.str y_))))) ∧ ys_.length ≤ n_) (lo := x_first) (hi := (if (x_first + (12 : Int)) < (x_last + (1 : Int)) then (x_first + (12 : Int)) else (x_last + (1 : Int)))) (N := Int.toNat ((if (x_first + (12 : Int)) < (x_last + (1 : Int)) then (x_first + (12 : Int)) else (x_last + (1 : Int))) - x_first)) (by simp) hM ⟨wd_cell hW nl2, keep_cell nl2 Keep.refl, mo_newL (ds := []) hW nl2 repL_nil, Nat.le_refl _⟩ ?_ ?_
    · skip
      rintro x12  n3 ys4 k5 H17 hn ⟨hW, hk6, mu7, ln8⟩ hM Nx11 hN9
      replace h_rule := rep_keep hk6 (rep_new nl2 h_rule)
      refine ⟨rfl, ?_⟩
      refine tyes_of ?_
      refine ⟨_, rfl, ?_⟩
      refine ⟨_, rfl, ?_⟩
      refine ⟨_, rfl, ?_⟩
      refine ⟨_, rfl, ?_⟩
      refine ⟨(L1 :: ms), _, x_rule, x_size, x_team, x12, _, rfl, hW.enter0, h_rule, hM, fun r18 u21 H22 hM e20 h19 => ?_⟩
      replace h_rule := rep_ext e20 h_rule
      replace hk6 := keep_ext e20 hk6
      replace mu7 := mo_ext e20 mu7
      replace hW := hW.ret0 e20
      obtain rfl := of_v h19
      refine mo_end mu7 hn (by rw [List.length_map]; exact ln8) fun vs23 hr24 => ?_
      have mk26 := mo_setL mu7 (repL_snoc (e := (fun y_ : Str => (D.v (V.str y_)))) (xs := ys4) (y := r18) hr24 rep_v)
      replace h_rule := rep_put (o := .lst (vs23 ++ [V.str r18])) mu7.im h_rule
      replace hk6 := keep_put (o := .lst (vs23 ++ [V.str r18])) mu7.im hk6
      replace hW := wd_put (o := .lst (vs23 ++ [V.str r18])) hW mu7
      replace mu7 := mk26
      generalize upd H22 L1 (.lst (vs23 ++ [V.str r18])) = H27 at *
      replace mu7 : MutO (L1 :: ms) [] H_0 H27 L1 (D.lst ((ys4 ++ [r18]).map (fun y_ : Str => (D.v (V.str y_))))) := mu7
      clear mk26
      exact hN9 r18 _ hM ⟨hW, hk6, mu7, by rw [List.length_append]; exact Nat.add_le_add_right ln8 1⟩
    · skip
      rintro n3 ys28 H29 hM ⟨hW, hk6, mu7, ln8⟩
      replace h_rule := rep_keep hk6 (rep_new nl2 h_rule)
      clear hk6 ln8
      have h30 := mo_rep_dr dr_here nm16 mu7
      replace hW := wd_dr dr_here mu7.hp hW
      replace h_rule := rep_dr dr_here h_rule
      clear mu7
      obtain ⟨g31, hM⟩ := hM
      apply rep_join (a := ("" : Str)) (ys := ys28) h30 g31
      exact hQ (Txt.join ("" : Str) ys28) _ _ hM hW.out rep_v
def M_row (x_rule : (Int × (Str × Str × Str) × Str × Bool)) (x_size : Int) (x_team : Int) (KM : (List (Int × Str)) → Prop) : Prop :=
  (if (decide (V.int x_team = V.int (x_size - (1 : Int)))) = true then (M_Rule_stander x_rule fun r2 => (∃ c7 : Str, wd_STANDER_MARKS.lookup r2 = some c7 ∧ (KM ([((x_size - (1 : Int)), c7)] : List (Int × Str))))) else (M_Rule_step x_rule fun r22 => (∃ KB27 : Int → Prop, (M_Rule_step x_rule fun r31 => (if (decide (r31 < (0 : Int))) = true then (KB27 x_team) else (0 < (x_size - (1 : Int)) ∧ (KB27 ((-x_team) % (x_size - (1 : Int))))))) ∧ ∀ r37 : Int, KB27 r37 → (forC (fun (x45 : Int) (s47 : (List (Int × Str))) (k48 : ((List (Int × Str))) → Prop) => (M_Rule_word x_rule fun r61 => (M_stretches r61 ((x_size / (2 : Int)) - (1 : Int)) fun r66 => (forC (fun (x76 : (Int × Int)) (s78 : (List (Int × Str))) (k79 : ((List (Int × Str))) → Prop) => (CMulW x45 (x_size - (1 : Int)) ∧ (CDivW ((r37 - (x45 * (x_size - (1 : Int)))) - x76.1) (if r22 < 0 then -r22 else r22) ∧ (CMulW x45 (x_size - (1 : Int)) ∧ (CDivW (((x45 * (x_size - (1 : Int))) + x76.2) - r37) (if r22 < 0 then -r22 else r22) ∧ (if (decide ((if (-(((r37 - (x45 * (x_size - (1 : Int)))) - x76.1) / (if r22 < 0 then -r22 else r22))) > (0 : Int) then (-(((r37 - (x45 * (x_size - (1 : Int)))) - x76.1) / (if r22 < 0 then -r22 else r22))) else (0 : Int)) ≤ (if ((((x45 * (x_size - (1 : Int))) + x76.2) - r37) / (if r22 < 0 then -r22 else r22)) < ((x_size - (1 : Int)) - (1 : Int)) then ((((x45 * (x_size - (1 : Int))) + x76.2) - r37) / (if r22 < 0 then -r22 else r22)) else ((x_size - (1 : Int)) - (1 : Int))))) = true then (M_marks_from x_rule x_size x_team (if (-(((r37 - (x45 * (x_size - (1 : Int)))) - x76.1) / (if r22 < 0 then -r22 else r22))) > (0 : Int) then (-(((r37 - (x45 * (x_size - (1 : Int)))) - x76.1) / (if r22 < 0 then -r22 else r22))) else (0 : Int)) (if ((((x45 * (x_size - (1 : Int))) + x76.2) - r37) / (if r22 < 0 then -r22 else r22)) < ((x_size - (1 : Int)) - (1 : Int)) then ((((x45 * (x_size - (1 : Int))) + x76.2) - r37) / (if r22 < 0 then -r22 else r22)) else ((x_size - (1 : Int)) - (1 : Int))) fun r104 => (s78.length < 16777216 ∧ (k79 ((s78 ++ [((((if ((((x45 * (x_size - (1 : Int))) + x76.2) - r37) / (if r22 < 0 then -r22 else r22)) < ((x_size - (1 : Int)) - (1 : Int)) then ((((x45 * (x_size - (1 : Int))) + x76.2) - r37) / (if r22 < 0 then -r22 else r22)) else ((x_size - (1 : Int)) - (1 : Int))) - (if (-(((r37 - (x45 * (x_size - (1 : Int)))) - x76.1) / (if r22 < 0 then -r22 else r22))) > (0 : Int) then (-(((r37 - (x45 * (x_size - (1 : Int)))) - x76.1) / (if r22 < 0 then -r22 else r22))) else (0 : Int))) + (1 : Int)), r104)]))))) else (k79 (s78)))))))) r66 (s47) fun s122 => (k48 (s122)))))) (rangeI (0 : Int) ((if r22 < 0 then -r22 else r22) + (1 : Int))) (([] : List (Int × Str))) fun s130 => (KM s130)))))
def sp_row (A : Ad) : Sp := fun vs H Q _ => ∃ (ms : List Addr) (v_rule : V) (x_rule : (Int × (Str × Str × Str) × Str × Bool)) (x_size : Int) (x_team : Int) (KM : (List (Int × Str)) → Prop), vs = [v_rule, V.int x_size, V.int x_team] ∧ Wd ms [] [] H H ∧ rep ms H (eRule A x_rule) v_rule ∧ M_row x_rule x_size x_team KM ∧ ∀ (r : (List (Int × Str))) (u : V) (H1 : Hp), KM r → Ret [] H H1 → rep ms H1 (D.lst (r.map (fun y_ : (Int × Str) => (D.tup [(D.v (V.int y_.1)), (D.v (V.str y_.2))])))) u → Q u H1
set_option maxHeartbeats 16000000 in
theorem ok_row {P : Program} {w : World} {K : PySem.W.Frag} {mg : Str → Option Value} {base : Heap} {A : Ad} (T : Txt w K mg A) : FnOk P w K mg base CX0 10 A.a_row A.d_row ["rule", "size", "team"] (sp_row A) := by
  refine T.F_row.ok sc_row (fun vs H Q E h => ?_) (fun cdv A_ outer s_ H_0 vs Q E hr h => ?_)
  · obtain ⟨ms, v_rule, x_rule, x_size, x_team, KM, rfl, _⟩ := h
    rfl
  · obtain ⟨ms, v_rule, x_rule, x_size, x_team, KM, rfl, hW, h_rule, hM, hQ⟩ := h
    unfold M_row at hM
    refine ⟨_, (pss_cons (ps_set (i := 3) sc_row.nd rfl (by first | exact Or.inl rfl | exact Or.inr rfl) (pe_op op_sub (pv 1) pe_int)) (pss_cons (ps_if (pt_cmpR op_eq (pv 2) (pv 3) (nomark _)) (pss_one (ps_ret (pe_lst (pa_cons (pe_tup (pa_cons (pv 3) (pa_cons (pe_ix (ix_kdictW (K := K) (w := w) rfl rfl) (pe_glob (v := .ref A.wd_STANDER_MARKS) (by rfl) T.g_STANDER_MARKS rfl) (pe_prop (pv 0) T.cl_Rule T.p_Rule_stander (ok_Rule_stander T) (hr.mono (by decide)) T.b_Rule_stander .nil pass0 rfl) (fun _ _ => rfl)) pa_nil))) pa_nil)))) pss_nil) (pss_cons (ps_set (i := 4) sc_row.nd rfl (by first | exact Or.inl rfl | exact Or.inr rfl) (pe_callB call_abs (by rfl) T.z_abs (by decide +kernel) (pa_cons (pe_prop (pv 0) T.cl_Rule T.p_Rule_step (ok_Rule_step T) (hr.mono (by decide)) T.b_Rule_step .nil pass0 rfl) pa_nil))) (pss_cons (ps_set (i := 5) sc_row.nd rfl (by first | exact Or.inl rfl | exact Or.inr rfl) (pe_up (pe_ifExp (pt_cmpR op_lt (pe_prop (pv 0) T.cl_Rule T.p_Rule_step (ok_Rule_step T) (hr.mono (by decide)) T.b_Rule_step .nil pass0 rfl) pe_int (nomark _)) (pv 2) (pe_op op_mod (pe_un un_neg (pv 2)) (pv 3))))) (pss_cons (ps_set (i := 6) sc_row.nd rfl (by first | exact Or.inl rfl | exact Or.inr rfl) (pe_lst pa_nil)) (pss_cons (ps_for PassesOwn.never rfl (pi_rangeW1 (by rfl) T.z_range (pa_cons (pe_op op_add (pv 4) pe_int) pa_nil)) (pg_name (i := 7) sc_row.nd rfl (by first | exact Or.inl rfl | exact Or.inr rfl)) (pss_one (ps_for PassesOwn.never rfl (pi_list (pe_call (ok_stretches T) (hr.mono (by decide)) (by rfl) T.g_stretches T.F_stretches.kp T.b_stretches .nil pass0 (pa_cons (pe_prop (pv 0) T.cl_Rule T.p_Rule_word (ok_Rule_word T) (hr.mono (by decide)) T.b_Rule_word .nil pass0 rfl) (pa_cons (pe_op op_sub (pe_op op_fdivW (pv 1) pe_int) pe_int) pa_nil)))) (pg_tup rfl (pgs_cons (pg_name (i := 8) sc_row.nd rfl (by first | exact Or.inl rfl | exact Or.inr rfl)) (pgs_cons (pg_name (i := 9) sc_row.nd rfl (by first | exact Or.inl rfl | exact Or.inr rfl)) pgs_nil))) (pss_cons (ps_set (i := 10) sc_row.nd rfl (by first | exact Or.inl rfl | exact Or.inr rfl) (pe_callB (call_max2 rfl) (by rfl) T.z_max (by decide +kernel) (pa_cons pe_int (pa_cons (pe_un un_neg (pe_op op_fdivW (pe_op op_sub (pe_op op_sub (pv 5) (pe_op op_mulW (pv 7) (pv 3))) (pv 8)) (pv 4))) pa_nil)))) (pss_cons (ps_set (i := 11) sc_row.nd rfl (by first | exact Or.inl rfl | exact Or.inr rfl) (pe_callB (call_min2 rfl) (by rfl) T.z_min (by decide +kernel) (pa_cons (pe_op op_sub (pv 3) pe_int) (pa_cons (pe_op op_fdivW (pe_op op_sub (pe_op op_add (pe_op op_mulW (pv 7) (pv 3)) (pv 9)) (pv 5)) (pv 4)) pa_nil)))) (pss_one (ps_if (pt_cmpR op_le (pv 10) (pv 11) (nomark _)) (pss_one (ps_expr (pe_bmK (K := K) rfl PySem.F.plainAttrs_list PySem.F.slot_list_append PySem.F.type_list_append mt_append (pv 6) (pa_cons (pe_tup (pa_cons (pe_op op_add (pe_op op_sub (pv 11) (pv 10)) pe_int) (pa_cons (pe_call (ok_marks_from T) (hr.mono (by decide)) (by rfl) T.g_marks_from T.F_marks_from.kp T.b_marks_from .nil pass0 (pa_cons (pv 0) (pa_cons (pv 1) (pa_cons (pv 2) (pa_cons (pv 10) (pa_cons (pv 11) pa_nil)))))) pa_nil))) pa_nil)))) pss_nil))))))) (pss_one (ps_ret (pv 6))))))))), ?_⟩
    refine ⟨_, rfl, ?_⟩
    refine ⟨_, _, rfl, rfl, ?_⟩
    refine ⟨_, rfl, ?_⟩
    refine ⟨_, rfl, ?_⟩
    refine ⟨rfl, ?_⟩
    refine ⟨_, rfl, ?_⟩
    refine ite3 hM (fun hM => ?_) (fun hM => ?_)
    · skip
      refine ⟨_, rfl, ?_⟩
      refine ⟨_, rfl, ?_⟩
      apply rep_prop h_rule
      intro _ h1
      refine ⟨ms, _, x_rule, _, rfl, hW.enter0, h1, hM, fun r2 u5 H6 hM e4 h3 => ?_⟩
      replace h_rule := rep_ext e4 h_rule
      replace hW := hW.ret0 e4
      obtain rfl := of_v h3
      obtain ⟨c7, h8, hM⟩ := hM
      apply rep_ixD T.kd_STANDER_MARKS h8
      refine ⟨(by show 2 ≤ sizeLine; decide), ?_⟩
      intro p9 n13
      have e10 := Rx.Ext.new (H := H6) (o := (HO.tup [V.int (x_size - (1 : Int)), V.str c7])) n13
      have hp11 : upd H6 p9 (HO.tup [V.int (x_size - (1 : Int)), V.str c7]) p9 = some (HO.tup [V.int (x_size - (1 : Int)), V.str c7]) := upd_same
      generalize upd H6 p9 (HO.tup [V.int (x_size - (1 : Int)), V.str c7]) = H14 at e10 hp11 ⊢
      have h12 : rep ms H14 (D.tup [(D.v (V.int (x_size - (1 : Int)))), (D.v (V.str c7))]) (.ref p9) := rep_tup_mk hW n13 e10 hp11 (repL_cons rep_v (repL_cons rep_v repL_nil))
      replace h_rule := rep_ext e10 h_rule
      replace hW := hW.ret0 e10
      refine ⟨(by show 1 ≤ sizeLine; decide), ?_⟩
      intro p15 n19
      have e16 := Rx.Ext.new (H := H14) (o := (HO.lst [(V.ref p9)])) n19
      have hp17 : upd H14 p15 (HO.lst [(V.ref p9)]) p15 = some (HO.lst [(V.ref p9)]) := upd_same
      generalize upd H14 p15 (HO.lst [(V.ref p9)]) = H20 at e16 hp17 ⊢
      have h18 : rep ms H20 (D.lst (([((x_size - (1 : Int)), c7)] : List (Int × Str)).map (fun y_ : (Int × Str) => (D.tup [(D.v (V.int y_.1)), (D.v (V.str y_.2))])))) (.ref p15) := rep_lst_mk hW n19 e16 hp17 (repL_cons h12 repL_nil)
      replace h_rule := rep_ext e16 h_rule
      replace h12 := rep_ext e16 h12
      replace hW := hW.ret0 e16
      exact hQ ([((x_size - (1 : Int)), c7)] : List (Int × Str)) _ _ hM hW.out h18
    · skip
      refine ⟨_, rfl, ?_⟩
      apply rep_prop h_rule
      intro _ h21
      refine ⟨ms, _, x_rule, _, rfl, hW.enter0, h21, hM, fun r22 u25 H26 hM e24 h23 => ?_⟩
      replace h_rule := rep_ext e24 h_rule
      replace hW := hW.ret0 e24
      obtain rfl := of_v h23
      refine ⟨_, rfl, ?_⟩
      obtain ⟨KB27, hM, hKKB27⟩ := hM
      refine ⟨fun v H1 => ∃ r : Int, KB27 r ∧ Wd ms [] [] H_0 H1 ∧ Keep ms H26 H1 ∧ rep ms H1 (D.v (V.int r)) v, ?_, ?_⟩
      · skip
        have hj29 := Keep.refl (ms := ms) (H := H26)
        refine ⟨_, rfl, ?_⟩
        apply rep_prop h_rule
        intro _ h30
        refine ⟨ms, _, x_rule, _, rfl, hW.enter0, h30, hM, fun r31 u34 H35 hM e33 h32 => ?_⟩
        replace h_rule := rep_ext e33 h_rule
        replace hj29 := keep_ext e33 hj29
        replace hW := hW.ret0 e33
        obtain rfl := of_v h32
        refine ⟨_, _, rfl, rfl, ?_⟩
        refine ⟨_, rfl, ?_⟩
        refine ite3 hM (fun hM => ?_) (fun hM => ?_)
        · skip
          refine ⟨_, rfl, ?_⟩
          exact ⟨x_team, hM, hW, hj29, rep_v⟩
        · skip
          refine ⟨_, rfl, ?_⟩
          refine ⟨_, rfl, ?_⟩
          refine ⟨_, rfl, ?_⟩
          obtain ⟨g36, hM⟩ := hM
          refine ⟨_, _, rfl, rfl, g36, ?_⟩
          exact ⟨((-x_team) % (x_size - (1 : Int))), hM, hW, hj29, rep_v⟩
      · skip
        rintro u39 Hj28 ⟨r37, hr, hW, hj29, h38⟩
        replace hM := hKKB27 r37 hr
        replace h_rule := rep_keep hj29 h_rule
        obtain rfl := of_v h38
        refine ⟨(by show 0 ≤ sizeLine; decide), ?_⟩
        intro L40 nl41
        have nm42 := nm_new hW nl41
        have mu43 := mo_newL (ds := ([] : List (Int × Str)).map (fun y_ : (Int × Str) => (D.tup [(D.v (V.int y_.1)), (D.v (V.str y_.2))]))) (vs := []) hW nl41 repL_nil
        replace h_rule := rep_cell (o := .lst []) nl41 h_rule
        replace hW := wd_cell (o := .lst []) hW nl41
        generalize upd Hj28 L40 (.lst []) = H44 at *
        replace mu43 : MutO (L40 :: ms) [] H_0 H44 L40 (D.lst (([] : List (Int × Str)).map (fun y_ : (Int × Str) => (D.tup [(D.v (V.int y_.1)), (D.v (V.str y_.2))])))) := mu43
        refine ⟨_, rfl, ?_⟩
        refine ⟨_, _, rfl, rfl, ?_⟩
        refine ⟨_, rfl, ?_⟩
        refine for_rangeG (S := (List (Int × Str))) (lo := (0 : Int)) (hi := ((if r22 < 0 then -r22 else r22) + (1 : Int))) (N := Int.toNat ((if r22 < 0 then -r22 else r22) + (1 : Int))) (fun (s : (List (Int × Str))) σ_ h_ => ∃ (w_0 : Option V), ∃ (w_1 : Option V), ∃ (w_2 : Option V), ∃ (w_3 : Option V), ∃ (w_4 : Option V), σ_ = [some v_rule, some (V.int x_size), some (V.int x_team), some (V.int (x_size - (1 : Int))), some (V.int (if r22 < 0 then -r22 else r22)), some (V.int r37), some (V.ref L40), w_0, w_1, w_2, w_3, w_4] ∧ Wd (L40 :: ms) [] [] H_0 h_ ∧ Keep (L40 :: ms) H44 h_ ∧ MutO (L40 :: ms) [] H_0 h_ L40 (D.lst (s.map (fun y_ : (Int × Str) => (D.tup [(D.v (V.int y_.1)), (D.v (V.str y_.2))]))))) (([] : List (Int × Str))) (by simp) hM ⟨_, _, _, _, _, rfl, hW, Keep.refl, mu43⟩ ?_ ?_
        · skip
          clear mu43
          rintro x45 s47 k48 _ H59 ⟨w53, w54, w55, w56, w57, rfl, hW, hk49, mu58⟩ hM Nx51 hN52
          replace h_rule := rep_keep hk49 h_rule
          refine ⟨_, rfl, ?_⟩
          apply rep_prop h_rule
          intro _ h60
          refine ⟨(L40 :: ms), _, x_rule, _, rfl, hW.enter0, h60, hM, fun r61 u64 H65 hM e63 h62 => ?_⟩
          replace h_rule := rep_ext e63 h_rule
          replace hk49 := keep_ext e63 hk49
          replace mu58 := mo_ext e63 mu58
          replace hW := hW.ret0 e63
          refine ⟨_, rfl, ?_⟩
          refine ⟨_, _, rfl, rfl, ⟨by decide, by decide⟩, ?_⟩
          refine ⟨_, _, rfl, rfl, ?_⟩
          refine ⟨(L40 :: ms), _, r61, ((x_size / (2 : Int)) - (1 : Int)), _, rfl, hW.enter0, h62, hM, fun r66 u69 H70 hM e68 h67 => ?_⟩
          replace h_rule := rep_ext e68 h_rule
          replace hk49 := keep_ext e68 hk49
          replace h62 := rep_ext e68 h62
          replace mu58 := mo_ext e68 mu58
          replace hW := hW.ret0 e68
          apply rep_iter h67
          intro a71 xs72 _ an73 hp74 hl75
          refine for_listG (S := (List (Int × Str))) (items := r66) (e := (fun y_ : (Int × Int) => (D.tup [(D.v (V.int y_.1)), (D.v (V.int y_.2))]))) (ms := (L40 :: ms)) (fun (s : (List (Int × Str))) σ_ h_ => ∃ (w_0 : Option V), ∃ (w_1 : Option V), ∃ (w_2 : Option V), ∃ (w_3 : Option V), σ_ = [some v_rule, some (V.int x_size), some (V.int x_team), some (V.int (x_size - (1 : Int))), some (V.int (if r22 < 0 then -r22 else r22)), some (V.int r37), some (V.ref L40), some (V.int x45), w_0, w_1, w_2, w_3] ∧ Wd (L40 :: ms) [] [] H_0 h_ ∧ Keep (L40 :: ms) H70 h_ ∧ MutO (L40 :: ms) [] H_0 h_ L40 (D.lst (s.map (fun y_ : (Int × Str) => (D.tup [(D.v (V.int y_.1)), (D.v (V.str y_.2))]))))) (s47) an73 hp74 hl75 (fun _ _ _ z_ => by obtain ⟨_, _, _, _, _, _, q_, _⟩ := z_; exact q_) hM ⟨_, _, _, _, rfl, hW, Keep.refl, mu58⟩ ?_ ?_
          · skip
            clear mu58
            rintro x76 u77 s78 k79 _ H89 ⟨w84, w85, w86, w87, rfl, hW, hk80, mu88⟩ h81 hM Nx82 hN83
            replace h_rule := rep_keep hk80 h_rule
            replace hk49 := Keep.trans hk49 hk80
            replace h62 := rep_keep hk80 h62
            replace h67 := rep_keep hk80 h67
            apply rep_gtup h81 rfl
            intro vs90 hv91
            obtain ⟨u92, us93, rfl, h94, hv95⟩ := repL_uncons hv91
            obtain rfl := of_v h94
            obtain ⟨u96, us97, rfl, h98, hv99⟩ := repL_uncons hv95
            obtain rfl := of_v h98
            obtain rfl := repL_empty hv99
            refine ⟨_, _, rfl, ?_⟩
            refine ⟨_, _, rfl, ?_⟩
            refine ⟨rfl, ?_⟩
            refine ⟨_, rfl, ?_⟩
            refine ⟨_, rfl, ?_⟩
            refine ⟨_, rfl, ?_⟩
            obtain ⟨g100, hM⟩ := hM
            refine ⟨_, _, rfl, rfl, g100, ?_⟩
            refine ⟨_, _, rfl, rfl, ?_⟩
            refine ⟨_, rfl, ?_⟩
            refine ⟨_, _, rfl, rfl, ?_⟩
            refine ⟨_, rfl, ?_⟩
            obtain ⟨g101, hM⟩ := hM
            refine ⟨_, _, rfl, rfl, g101, ?_⟩
            refine ⟨_, rfl, ?_⟩
            refine ⟨_, _, rfl, ?_⟩
            refine ⟨_, rfl, ?_⟩
            refine ⟨_, _, rfl, rfl, ?_⟩
            refine ⟨_, rfl, ?_⟩
            refine ⟨_, rfl, ?_⟩
            obtain ⟨g102, hM⟩ := hM
            refine ⟨_, _, rfl, rfl, g102, ?_⟩
            refine ⟨_, rfl, ?_⟩
            refine ⟨_, _, rfl, rfl, ?_⟩
            refine ⟨_, rfl, ?_⟩
            refine ⟨_, _, rfl, rfl, ?_⟩
            refine ⟨_, rfl, ?_⟩
            obtain ⟨g103, hM⟩ := hM
            refine ⟨_, _, rfl, rfl, g103, ?_⟩
            refine ⟨_, _, rfl, ?_⟩
            refine ⟨_, rfl, ?_⟩
            refine ⟨_, rfl, ?_⟩
            refine ⟨_, _, rfl, rfl, ?_⟩
            refine ⟨_, rfl, ?_⟩
            refine ite3 hM (fun hM => ?_) (fun hM => ?_)
            · skip
              refine ⟨_, rfl, ?_⟩
              refine ⟨mo_tyL mu88, ?_⟩
              refine ⟨_, rfl, ?_⟩
              refine ⟨_, rfl, ?_⟩
              refine ⟨_, _, rfl, rfl, ?_⟩
              refine ⟨_, _, rfl, rfl, ?_⟩
              refine ⟨_, rfl, ?_⟩
              refine ⟨_, rfl, ?_⟩
              refine ⟨_, rfl, ?_⟩
              refine ⟨_, rfl, ?_⟩
              refine ⟨_, rfl, ?_⟩
              refine ⟨(L40 :: ms), _, x_rule, x_size, x_team, (if (-(((r37 - (x45 * (x_size - (1 : Int)))) - x76.1) / (if r22 < 0 then -r22 else r22))) > (0 : Int) then (-(((r37 - (x45 * (x_size - (1 : Int)))) - x76.1) / (if r22 < 0 then -r22 else r22))) else (0 : Int)), (if ((((x45 * (x_size - (1 : Int))) + x76.2) - r37) / (if r22 < 0 then -r22 else r22)) < ((x_size - (1 : Int)) - (1 : Int)) then ((((x45 * (x_size - (1 : Int))) + x76.2) - r37) / (if r22 < 0 then -r22 else r22)) else ((x_size - (1 : Int)) - (1 : Int))), _, rfl, hW.enter0, h_rule, hM, fun r104 u107 H108 hM e106 h105 => ?_⟩
              replace h_rule := rep_ext e106 h_rule
              replace hk49 := keep_ext e106 hk49
              replace h62 := rep_ext e106 h62
              replace h67 := rep_ext e106 h67
              replace hk80 := keep_ext e106 hk80
              replace h81 := rep_ext e106 h81
              replace mu88 := mo_ext e106 mu88
              replace hW := hW.ret0 e106
              obtain rfl := of_v h105
              refine ⟨(by show 2 ≤ sizeLine; decide), ?_⟩
              intro p109 n113
              have e110 := Rx.Ext.new (H := H108) (o := (HO.tup [V.int (((if ((((x45 * (x_size - (1 : Int))) + x76.2) - r37) / (if r22 < 0 then -r22 else r22)) < ((x_size - (1 : Int)) - (1 : Int)) then ((((x45 * (x_size - (1 : Int))) + x76.2) - r37) / (if r22 < 0 then -r22 else r22)) else ((x_size - (1 : Int)) - (1 : Int))) - (if (-(((r37 - (x45 * (x_size - (1 : Int)))) - x76.1) / (if r22 < 0 then -r22 else r22))) > (0 : Int) then (-(((r37 - (x45 * (x_size - (1 : Int)))) - x76.1) / (if r22 < 0 then -r22 else r22))) else (0 : Int))) + (1 : Int)), V.str r104])) n113
              have hp111 : upd H108 p109 (HO.tup [V.int (((if ((((x45 * (x_size - (1 : Int))) + x76.2) - r37) / (if r22 < 0 then -r22 else r22)) < ((x_size - (1 : Int)) - (1 : Int)) then ((((x45 * (x_size - (1 : Int))) + x76.2) - r37) / (if r22 < 0 then -r22 else r22)) else ((x_size - (1 : Int)) - (1 : Int))) - (if (-(((r37 - (x45 * (x_size - (1 : Int)))) - x76.1) / (if r22 < 0 then -r22 else r22))) > (0 : Int) then (-(((r37 - (x45 * (x_size - (1 : Int)))) - x76.1) / (if r22 < 0 then -r22 else r22))) else (0 : Int))) + (1 : Int)), V.str r104]) p109 = some (HO.tup [V.int (((if ((((x45 * (x_size - (1 : Int))) + x76.2) - r37) / (if r22 < 0 then -r22 else r22)) < ((x_size - (1 : Int)) - (1 : Int)) then ((((x45 * (x_size - (1 : Int))) + x76.2) - r37) / (if r22 < 0 then -r22 else r22)) else ((x_size - (1 : Int)) - (1 : Int))) - (if (-(((r37 - (x45 * (x_size - (1 : Int)))) - x76.1) / (if r22 < 0 then -r22 else r22))) > (0 : Int) then (-(((r37 - (x45 * (x_size - (1 : Int)))) - x76.1) / (if r22 < 0 then -r22 else r22))) else (0 : Int))) + (1 : Int)), V.str r104]) := upd_same
              generalize upd H108 p109 (HO.tup [V.int (((if ((((x45 * (x_size - (1 : Int))) + x76.2) - r37) / (if r22 < 0 then -r22 else r22)) < ((x_size - (1 : Int)) - (1 : Int)) then ((((x45 * (x_size - (1 : Int))) + x76.2) - r37) / (if r22 < 0 then -r22 else r22)) else ((x_size - (1 : Int)) - (1 : Int))) - (if (-(((r37 - (x45 * (x_size - (1 : Int)))) - x76.1) / (if r22 < 0 then -r22 else r22))) > (0 : Int) then (-(((r37 - (x45 * (x_size - (1 : Int)))) - x76.1) / (if r22 < 0 then -r22 else r22))) else (0 : Int))) + (1 : Int)), V.str r104]) = H114 at e110 hp111 ⊢
              have h112 : rep (L40 :: ms) H114 (D.tup [(D.v (V.int (((if ((((x45 * (x_size - (1 : Int))) + x76.2) - r37) / (if r22 < 0 then -r22 else r22)) < ((x_size - (1 : Int)) - (1 : Int)) then ((((x45 * (x_size - (1 : Int))) + x76.2) - r37) / (if r22 < 0 then -r22 else r22)) else ((x_size - (1 : Int)) - (1 : Int))) - (if (-(((r37 - (x45 * (x_size - (1 : Int)))) - x76.1) / (if r22 < 0 then -r22 else r22))) > (0 : Int) then (-(((r37 - (x45 * (x_size - (1 : Int)))) - x76.1) / (if r22 < 0 then -r22 else r22))) else (0 : Int))) + (1 : Int)))), (D.v (V.str r104))]) (.ref p109) := rep_tup_mk hW n113 e110 hp111 (repL_cons rep_v (repL_cons rep_v repL_nil))
              replace h_rule := rep_ext e110 h_rule
              replace hk49 := keep_ext e110 hk49
              replace h62 := rep_ext e110 h62
              replace h67 := rep_ext e110 h67
              replace hk80 := keep_ext e110 hk80
              replace h81 := rep_ext e110 h81
              replace mu88 := mo_ext e110 mu88
              replace hW := hW.ret0 e110
              obtain ⟨g115, hM⟩ := hM
              apply mo_appU mu88 (by rw [List.length_map]; exact g115)
              intro vs116 hr118
              have mk120 := mo_setL mu88 (repL_snoc (e := (fun y_ : (Int × Str) => (D.tup [(D.v (V.int y_.1)), (D.v (V.str y_.2))]))) (xs := s78) (y := ((((if ((((x45 * (x_size - (1 : Int))) + x76.2) - r37) / (if r22 < 0 then -r22 else r22)) < ((x_size - (1 : Int)) - (1 : Int)) then ((((x45 * (x_size - (1 : Int))) + x76.2) - r37) / (if r22 < 0 then -r22 else r22)) else ((x_size - (1 : Int)) - (1 : Int))) - (if (-(((r37 - (x45 * (x_size - (1 : Int)))) - x76.1) / (if r22 < 0 then -r22 else r22))) > (0 : Int) then (-(((r37 - (x45 * (x_size - (1 : Int)))) - x76.1) / (if r22 < 0 then -r22 else r22))) else (0 : Int))) + (1 : Int)), r104)) hr118 h112)
              replace h_rule := rep_put (o := .lst (vs116 ++ [(V.ref p109)])) mu88.im h_rule
              replace hk49 := keep_put (o := .lst (vs116 ++ [(V.ref p109)])) mu88.im hk49
              replace h62 := rep_put (o := .lst (vs116 ++ [(V.ref p109)])) mu88.im h62
              replace h67 := rep_put (o := .lst (vs116 ++ [(V.ref p109)])) mu88.im h67
              replace hk80 := keep_put (o := .lst (vs116 ++ [(V.ref p109)])) mu88.im hk80
              replace h81 := rep_put (o := .lst (vs116 ++ [(V.ref p109)])) mu88.im h81
              replace h112 := rep_put (o := .lst (vs116 ++ [(V.ref p109)])) mu88.im h112
              replace hW := wd_put (o := .lst (vs116 ++ [(V.ref p109)])) hW mu88
              replace mu88 := mk120
              generalize upd H114 L40 (.lst (vs116 ++ [(V.ref p109)])) = H121 at *
              replace mu88 : MutO (L40 :: ms) [] H_0 H121 L40 (D.lst ((s78 ++ [((((if ((((x45 * (x_size - (1 : Int))) + x76.2) - r37) / (if r22 < 0 then -r22 else r22)) < ((x_size - (1 : Int)) - (1 : Int)) then ((((x45 * (x_size - (1 : Int))) + x76.2) - r37) / (if r22 < 0 then -r22 else r22)) else ((x_size - (1 : Int)) - (1 : Int))) - (if (-(((r37 - (x45 * (x_size - (1 : Int)))) - x76.1) / (if r22 < 0 then -r22 else r22))) > (0 : Int) then (-(((r37 - (x45 * (x_size - (1 : Int)))) - x76.1) / (if r22 < 0 then -r22 else r22))) else (0 : Int))) + (1 : Int)), r104)]).map (fun y_ : (Int × Str) => (D.tup [(D.v (V.int y_.1)), (D.v (V.str y_.2))])))) := mu88
              clear mk120
              exact hN83 ((s78 ++ [((((if ((((x45 * (x_size - (1 : Int))) + x76.2) - r37) / (if r22 < 0 then -r22 else r22)) < ((x_size - (1 : Int)) - (1 : Int)) then ((((x45 * (x_size - (1 : Int))) + x76.2) - r37) / (if r22 < 0 then -r22 else r22)) else ((x_size - (1 : Int)) - (1 : Int))) - (if (-(((r37 - (x45 * (x_size - (1 : Int)))) - x76.1) / (if r22 < 0 then -r22 else r22))) > (0 : Int) then (-(((r37 - (x45 * (x_size - (1 : Int)))) - x76.1) / (if r22 < 0 then -r22 else r22))) else (0 : Int))) + (1 : Int)), r104)])) _ _ hM ⟨_, _, _, _, rfl, hW, hk80, mu88⟩
            · skip
              exact hN83 (s78) _ _ hM ⟨_, _, _, _, rfl, hW, hk80, mu88⟩
          · skip
            clear mu58
            rintro s122 _ H129 hM ⟨w124, w125, w126, w127, rfl, hW, hk123, mu128⟩
            replace h_rule := rep_keep hk123 h_rule
            replace hk49 := Keep.trans hk49 hk123
            replace h62 := rep_keep hk123 h62
            replace h67 := rep_keep hk123 h67
            exact hN52 (s122) _ _ hM ⟨_, _, _, _, _, rfl, hW, hk49, mu128⟩
        · skip
          clear mu43
          rintro s130 _ H138 hM ⟨w132, w133, w134, w135, w136, rfl, hW, hk131, mu137⟩
          replace h_rule := rep_keep hk131 h_rule
          have h139 := mo_rep_dr dr_here nm42 mu137
          replace hW := wd_dr dr_here mu137.hp hW
          replace h_rule := rep_dr dr_here h_rule
          clear mu137
          refine ⟨_, rfl, ?_⟩
          exact hQ s130 _ _ hM hW.out h139
def M_compared (x_marks : Str) (x_others : Str) (KM : Str → Prop) : Prop :=
  (((rangeI 0 ((Rx.signs x_marks).length : Int)).zip (Rx.signs x_marks)).length < 100000 ∧ mapC (fun (x12 : (Int × Str)) (k5 : Str → Prop) => (∃ KB30 : Str → Prop, (x_others.length ≤ sizeLine ∧ (if (decide (V.str (cutS x_others (some x12.1) (some (x12.1 + (1 : Int)))) = V.str x12.2)) = true then (KB30 ("s" : Str)) else (KB30 ("o" : Str)))) ∧ ∀ r34 : Str, KB30 r34 → (k5 r34))) ((rangeI 0 ((Rx.signs x_marks).length : Int)).zip (Rx.signs x_marks)) [] fun ys43 => ((ys43.map (·.length)).sum + ys43.length * ("" : Str).length ≤ 16777216 ∧ (KM (Txt.join ("" : Str) ys43))))
def sp_compared (A : Ad) : Sp := fun vs H Q _ => ∃ (ms : List Addr) (x_marks : Str) (x_others : Str) (KM : Str → Prop), vs = [V.str x_marks, V.str x_others] ∧ Wd ms [] [] H H ∧ M_compared x_marks x_others KM ∧ ∀ (r : Str) (u : V) (H1 : Hp), KM r → Ret [] H H1 → rep ms H1 (D.v (V.str r)) u → Q u H1
set_option maxHeartbeats 16000000 in
theorem ok_compared {P : Program} {w : World} {K : PySem.W.Frag} {mg : Str → Option Value} {base : Heap} {A : Ad} (T : Txt w K mg A) : FnOk P w K mg base CX0 1 A.a_compared A.d_compared ["marks", "others"] (sp_compared A) := by
  refine T.F_compared.ok sc_compared (fun vs H Q E h => ?_) (fun cdv A_ outer s_ H_0 vs Q E hr h => ?_)
  · obtain ⟨ms, x_marks, x_others, KM, rfl, _⟩ := h
    rfl
  · obtain ⟨ms, x_marks, x_others, KM, rfl, hW, hM, hQ⟩ := h
    unfold M_compared at hM
    refine ⟨_, (pss_one (ps_ret (pe_joinK (K := K) rfl pe_str (pe_lc (own := [("at", 2), ("mark", 3)]) (g := (gTup K 2 (gCons (gName 2) (gCons (gName 3) gNil)))) rfl sc_compared.nd (pi_enumStr (by rfl) T.z_enumerate (pa_cons (pv 0) pa_nil)) (blkOk_by (N := ["marks", "others", "at", "mark"]) (sc := defScope s_compared) (by decide +kernel)) (fun _ _ _ _ _ => (pg_tup rfl (pgs_cons (pg_name (i := 2) sc_compared.nd rfl (by first | exact Or.inl rfl | exact Or.inr rfl)) (pgs_cons (pg_name (i := 3) sc_compared.nd rfl (by first | exact Or.inl rfl | exact Or.inr rfl)) pgs_nil)))) (fun _ _ _ _ _ => pts_nil) (fun _ _ _ _ _ => (pe_up (pe_ifExp (pt_cmpR op_eq (pe_slice sl_str (pv 1) (po_some (pv 2)) (po_some (pe_op op_add (pv 2) pe_int))) (pv 3) (nomark _)) (C8.pe_gc (by rfl) T.c_SAME) (C8.pe_gc (by rfl) T.c_OTHER)))))))), ?_⟩
    refine ⟨⟨_, rfl⟩, ?_⟩
    refine ⟨_, rfl, ?_⟩
    refine ⟨_, rfl, ?_⟩
    refine fun L1 nl2 => ?_
    have nm16 := nm_new hW nl2
    refine lc_pairG (L := L1) (fun n_ ys_ h_ => Wd (L1 :: ms) [] [] H_0 h_ ∧ Keep (L1 :: ms) H_0 h_ ∧ MutO (L1 :: ms) [] H_0 h_ L1 (D.lst (ys_.map (fun y_ : Str => (D.v (V.str y_))))) ∧ ys_.length ≤ n_) (e := fun i_ => .v (.int i_)) (e2 := fun y_ => .v (.str y_)) (pair_enumStr x_marks) (fun _ _ _ q_ => q_.2.1) (fun _ _ _ q_ => q_.1.tr) hM ⟨wd_cell hW nl2, keep_cell nl2 Keep.refl, mo_newL (ds := []) hW nl2 repL_nil, Nat.le_refl _⟩ ?_ ?_
    · skip
      rintro x12 u13 n3 ys4 k5 H17 H18 hn ⟨hW, hk6, mu7, ln8⟩ ex19 h14 hM Nx11 hN9
      replace hk6 := keep_ext ex19 hk6
      replace mu7 := mo_ext ex19 mu7
      replace hW := hW.ret0 ex19
      apply rep_gtup h14 rfl
      intro vs20 hv21
      obtain ⟨u22, us23, rfl, h24, hv25⟩ := repL_uncons hv21
      obtain rfl := of_v h24
      obtain ⟨u26, us27, rfl, h28, hv29⟩ := repL_uncons hv25
      obtain rfl := of_v h28
      obtain rfl := repL_empty hv29
      refine ⟨_, _, rfl, ?_⟩
      refine ⟨_, _, rfl, ?_⟩
      refine ⟨rfl, ?_⟩
      refine ⟨rfl, ?_⟩
      refine tyes_of ?_
      obtain ⟨KB30, hM, hKKB30⟩ := hM
      refine ⟨fun v H1 => ∃ r : Str, KB30 r ∧ Wd (L1 :: ms) [] [] H_0 H1 ∧ Keep (L1 :: ms) H18 H1 ∧ rep (L1 :: ms) H1 (D.v (V.str r)) v ∧ MutO (L1 :: ms) [] H_0 H1 L1 (D.lst (ys4.map (fun y_ : Str => (D.v (V.str y_))))), ?_, ?_⟩
      · skip
        have hj32 := Keep.refl (ms := (L1 :: ms)) (H := H18)
        refine ⟨_, rfl, ?_⟩
        refine ⟨_, rfl, ?_⟩
        refine ⟨_, rfl, ?_⟩
        refine ⟨_, rfl, ?_⟩
        refine ⟨_, _, rfl, rfl, ?_⟩
        refine ⟨_, rfl, ?_⟩
        obtain ⟨g33, hM⟩ := hM
        refine ⟨_, rfl, g33, ?_⟩
        refine ⟨_, rfl, ?_⟩
        refine ⟨rfl, ?_⟩
        refine ⟨_, rfl, ?_⟩
        refine ite3 hM (fun hM => ?_) (fun hM => ?_)
        · skip
          exact ⟨("s" : Str), hM, hW, hj32, rep_v, mu7⟩
        · skip
          exact ⟨("o" : Str), hM, hW, hj32, rep_v, mu7⟩
      · skip
        clear mu7
        rintro u36 Hj31 ⟨r34, hr, hW, hj32, h35, mu37⟩
        replace hM := hKKB30 r34 hr
        replace hk6 := Keep.trans hk6 hj32
        replace h14 := rep_keep hj32 h14
        obtain rfl := of_v h35
        refine mo_end mu37 hn (by rw [List.length_map]; exact ln8) fun vs38 hr39 => ?_
        have mk41 := mo_setL mu37 (repL_snoc (e := (fun y_ : Str => (D.v (V.str y_)))) (xs := ys4) (y := r34) hr39 rep_v)
        replace hk6 := keep_put (o := .lst (vs38 ++ [V.str r34])) mu37.im hk6
        replace h14 := rep_put (o := .lst (vs38 ++ [V.str r34])) mu37.im h14
        replace hW := wd_put (o := .lst (vs38 ++ [V.str r34])) hW mu37
        replace mu37 := mk41
        generalize upd Hj31 L1 (.lst (vs38 ++ [V.str r34])) = H42 at *
        replace mu37 : MutO (L1 :: ms) [] H_0 H42 L1 (D.lst ((ys4 ++ [r34]).map (fun y_ : Str => (D.v (V.str y_))))) := mu37
        clear mk41
        exact hN9 r34 _ hM ⟨hW, hk6, mu37, by rw [List.length_append]; exact Nat.add_le_add_right ln8 1⟩
    · skip
      rintro n3 ys43 H44 hM ⟨hW, hk6, mu7, ln8⟩
      clear hk6 ln8
      have h45 := mo_rep_dr dr_here nm16 mu7
      replace hW := wd_dr dr_here mu7.hp hW
      clear mu7
      obtain ⟨g46, hM⟩ := hM
      apply rep_join (a := ("" : Str)) (ys := ys43) h45 g46
      exact hQ (Txt.join ("" : Str) ys43) _ _ hM hW.out rep_v
def M_likeness (x_pieces : (List (Int × Str))) (KM : (List (Int × Str)) → Prop) : Prop :=
  ((cutM x_pieces (some (1 : Int)) none).length < 100000 ∧ mapC (fun (x30 : (Int × Str)) (k23 : Str → Prop) => (x30.2.length ≤ sizeLine ∧ ∃ c49, atI x30.2.cps.toList (0 : Int) = some c49 ∧ (k23 (Str.mk #[c49])))) (cutM x_pieces (some (1 : Int)) none) [] fun ys55 => (ys55.length + ([("" : Str)] : List Str).length ≤ sizeLine ∧ (forC (fun (x82 : ((Int × Str) × Str)) (s84 : (List (Int × Str))) (k85 : ((List (Int × Str))) → Prop) => (if (decide ((1 : Int) < x82.1.1)) = true then (x82.1.2.length ≤ sizeLine ∧ (x82.1.2.length ≤ sizeLine ∧ ∃ c119, atI x82.1.2.cps.toList (0 : Int) = some c119 ∧ (((cutS x82.1.2 (some (1 : Int)) none).length + (Str.mk #[c119]).length ≤ sizeLine) ∧ (M_compared x82.1.2 ((cutS x82.1.2 (some (1 : Int)) none) ++ (Str.mk #[c119])) fun r121 => (s84.length < 16777216 ∧ (x82.1.2.length ≤ sizeLine ∧ (0 < (x82.1.2.length : Int) ∧ (x82.1.2.length ≤ sizeLine ∧ ∃ c142, atI x82.1.2.cps.toList ((x82.1.1 - (1 : Int)) % (x82.1.2.length : Int)) = some c142 ∧ (M_compared (Str.mk #[c142]) x82.2 fun r143 => ((s84 ++ [((x82.1.1 - (1 : Int)), r121)]).length < 16777216 ∧ (k85 (((s84 ++ [((x82.1.1 - (1 : Int)), r121)]) ++ [((1 : Int), r143)]))))))))))))) else (x82.1.2.length ≤ sizeLine ∧ (0 < (x82.1.2.length : Int) ∧ (x82.1.2.length ≤ sizeLine ∧ ∃ c164, atI x82.1.2.cps.toList ((x82.1.1 - (1 : Int)) % (x82.1.2.length : Int)) = some c164 ∧ (M_compared (Str.mk #[c164]) x82.2 fun r165 => (s84.length < 16777216 ∧ (k85 ((s84 ++ [((1 : Int), r165)])))))))))) (List.zip x_pieces (ys55 ++ ([("" : Str)] : List Str))) (([] : List (Int × Str))) fun s183 => (KM s183))))
def sp_likeness (A : Ad) : Sp := fun vs H Q _ => ∃ (ms : List Addr) (v_pieces : V) (x_pieces : (List (Int × Str))) (KM : (List (Int × Str)) → Prop), vs = [v_pieces] ∧ Wd ms [] [] H H ∧ rep ms H (D.lst (x_pieces.map (fun y_ : (Int × Str) => (D.tup [(D.v (V.int y_.1)), (D.v (V.str y_.2))])))) v_pieces ∧ M_likeness x_pieces KM ∧ ∀ (r : (List (Int × Str))) (u : V) (H1 : Hp), KM r → Ret [] H H1 → rep ms H1 (D.lst (r.map (fun y_ : (Int × Str) => (D.tup [(D.v (V.int y_.1)), (D.v (V.str y_.2))])))) u → Q u H1
set_option maxHeartbeats 16000000 in
theorem ok_likeness {P : Program} {w : World} {K : PySem.W.Frag} {mg : Str → Option Value} {base : Heap} {A : Ad} (T : Txt w K mg A) : FnOk P w K mg base CX0 2 A.a_likeness A.d_likeness ["pieces"] (sp_likeness A) := by
  refine T.F_likeness.ok sc_likeness (fun vs H Q E h => ?_) (fun cdv A_ outer s_ H_0 vs Q E hr h => ?_)
  · obtain ⟨ms, v_pieces, x_pieces, KM, rfl, _⟩ := h
    rfl
  · obtain ⟨ms, v_pieces, x_pieces, KM, rfl, hW, h_pieces, hM, hQ⟩ := h
    unfold M_likeness at hM
    refine ⟨_, (pss_cons (ps_set (i := 1) sc_likeness.nd rfl (by first | exact Or.inl rfl | exact Or.inr rfl) (pe_lst pa_nil)) (pss_cons (ps_set (i := 2) sc_likeness.nd rfl (by first | exact Or.inl rfl | exact Or.inr rfl) (pe_op op_cat (pe_lc (own := [("_", 6), ("marks", 4)]) (g := (gTup K 2 (gCons (gName 6) (gCons (gName 4) gNil)))) rfl sc_likeness.nd (pi_list (pe_slice (sl_listK (K := K) rfl) (pv 0) (po_some pe_int) po_none)) (blkOk_by (N := ["pieces", "told", "nexts", "length", "marks", "behind", "_"]) (sc := defScope s_likeness) (by decide +kernel)) (fun _ _ _ _ _ => (pg_tup rfl (pgs_cons (pg_name (i := 6) sc_likeness.nd rfl (by first | exact Or.inl rfl | exact Or.inr rfl)) (pgs_cons (pg_name (i := 4) sc_likeness.nd rfl (by first | exact Or.inl rfl | exact Or.inr rfl)) pgs_nil)))) (fun _ _ _ _ _ => pts_nil) (fun _ _ _ _ _ => (pe_ix ix_str (pv 4) pe_int (fun _ _ => rfl)))) (pe_lst (pa_cons pe_str pa_nil)))) (pss_cons (ps_for PassesOwn.never rfl (pi_zip (by rfl) T.z_zip (pa_cons (pv 0) (pa_cons (pv 2) pa_nil))) (pg_tup rfl (pgs_cons (pg_tup rfl (pgs_cons (pg_name (i := 3) sc_likeness.nd rfl (by first | exact Or.inl rfl | exact Or.inr rfl)) (pgs_cons (pg_name (i := 4) sc_likeness.nd rfl (by first | exact Or.inl rfl | exact Or.inr rfl)) pgs_nil))) (pgs_cons (pg_name (i := 5) sc_likeness.nd rfl (by first | exact Or.inl rfl | exact Or.inr rfl)) pgs_nil))) (pss_cons (ps_if (pt_cmpR op_gt (pv 3) pe_int (nomark _)) (pss_one (ps_expr (pe_bmK (K := K) rfl PySem.F.plainAttrs_list PySem.F.slot_list_append PySem.F.type_list_append mt_append (pv 1) (pa_cons (pe_tup (pa_cons (pe_op op_sub (pv 3) pe_int) (pa_cons (pe_call (ok_compared T) (hr.mono (by decide)) (by rfl) T.g_compared T.F_compared.kp T.b_compared .nil pass0 (pa_cons (pv 4) (pa_cons (pe_op op_add_str (pe_slice sl_str (pv 4) (po_some pe_int) po_none) (pe_ix ix_str (pv 4) pe_int (fun _ _ => rfl))) pa_nil))) pa_nil))) pa_nil)))) pss_nil) (pss_one (ps_expr (pe_bmK (K := K) rfl PySem.F.plainAttrs_list PySem.F.slot_list_append PySem.F.type_list_append mt_append (pv 1) (pa_cons (pe_tup (pa_cons pe_int (pa_cons (pe_call (ok_compared T) (hr.mono (by decide)) (by rfl) T.g_compared T.F_compared.kp T.b_compared .nil pass0 (pa_cons (pe_ix ix_str (pv 4) (pe_op op_mod (pe_op op_sub (pv 3) pe_int) (pe_callB call_len_str (by rfl) T.z_len PySem.boot_len (pa_cons (pv 4) pa_nil))) (fun _ _ => rfl)) (pa_cons (pv 5) pa_nil))) pa_nil))) pa_nil)))))) (pss_one (ps_ret (pv 1)))))), ?_⟩
    refine ⟨(by show 0 ≤ sizeLine; decide), ?_⟩
    intro L1 nl2
    have nm3 := nm_new hW nl2
    have mu4 := mo_newL (ds := ([] : List (Int × Str)).map (fun y_ : (Int × Str) => (D.tup [(D.v (V.int y_.1)), (D.v (V.str y_.2))]))) (vs := []) hW nl2 repL_nil
    replace h_pieces := rep_cell (o := .lst []) nl2 h_pieces
    replace hW := wd_cell (o := .lst []) hW nl2
    generalize upd H_0 L1 (.lst []) = H5 at *
    replace mu4 : MutO (L1 :: ms) [] H_0 H5 L1 (D.lst (([] : List (Int × Str)).map (fun y_ : (Int × Str) => (D.tup [(D.v (V.int y_.1)), (D.v (V.str y_.2))])))) := mu4
    refine ⟨_, rfl, ?_⟩
    refine ⟨_, rfl, ?_⟩
    apply rep_lsU h_pieces
    intro vs6 hr7
    intro p8 n12
    have e9 := Rx.Ext.new (H := H5) (o := (HO.lst (cutV vs6 (some (1 : Int)) none))) n12
    have hp10 : upd H5 p8 (HO.lst (cutV vs6 (some (1 : Int)) none)) p8 = some (HO.lst (cutV vs6 (some (1 : Int)) none)) := upd_same
    generalize upd H5 p8 (HO.lst (cutV vs6 (some (1 : Int)) none)) = H13 at e9 hp10 ⊢
    have h11 : rep (L1 :: ms) H13 (D.lst ((cutM x_pieces (some (1 : Int)) none).map (fun y_ : (Int × Str) => (D.tup [(D.v (V.int y_.1)), (D.v (V.str y_.2))])))) (.ref p8) := rep_lst_mk hW n12 e9 hp10 (repL_cut (e := (fun y_ : (Int × Str) => (D.tup [(D.v (V.int y_.1)), (D.v (V.str y_.2))]))) (xs := x_pieces) hr7)
    replace h_pieces := rep_ext e9 h_pieces
    replace mu4 := mo_ext e9 mu4
    replace hW := hW.ret0 e9
    apply rep_iter h11
    intro a14 xs15 _ an16 hp17 hl18
    refine fun L19 nl20 => ?_
    have nm34 := nm_new hW nl20
    have ne35 := mo_ne nl20 mu4
    refine lc_listG (L := L19) (fun n_ ys_ h_ => Wd (L19 :: (L1 :: ms)) [] [] H_0 h_ ∧ Keep (L19 :: (L1 :: ms)) H13 h_ ∧ MutO (L19 :: (L1 :: ms)) [] H_0 h_ L19 (D.lst (ys_.map (fun y_ : Str => (D.v (V.str y_))))) ∧ ys_.length ≤ n_ ∧ MutO (L19 :: (L1 :: ms)) [] H_0 h_ L1 (D.lst (([] : List (Int × Str)).map (fun y_ : (Int × Str) => (D.tup [(D.v (V.int y_.1)), (D.v (V.str y_.2))]))))) (items := (cutM x_pieces (some (1 : Int)) none)) (e := (fun y_ : (Int × Str) => (D.tup [(D.v (V.int y_.1)), (D.v (V.str y_.2))]))) an16 hp17 hl18 nl20 (fun _ _ _ q_ => q_.2.1) hM ⟨wd_cell hW nl20, keep_cell nl20 Keep.refl, mo_newL (ds := []) hW nl20 repL_nil, Nat.le_refl _, mo_cell nl20 mu4⟩ ?_ ?_
    · skip
      clear mu4
      rintro x30 u31 n21 ys22 k23 H36 hn ⟨hW, hk24, mu25, ln26, mu37⟩ h32 hM Nx29 hN27
      replace h_pieces := rep_keep hk24 (rep_new nl20 h_pieces)
      replace h11 := rep_keep hk24 (rep_new nl20 h11)
      apply rep_gtup h32 rfl
      intro vs38 hv39
      obtain ⟨u40, us41, rfl, h42, hv43⟩ := repL_uncons hv39
      obtain rfl := of_v h42
      obtain ⟨u44, us45, rfl, h46, hv47⟩ := repL_uncons hv43
      obtain rfl := of_v h46
      obtain rfl := repL_empty hv47
      refine ⟨_, _, rfl, ?_⟩
      refine ⟨_, _, rfl, ?_⟩
      refine ⟨rfl, ?_⟩
      refine ⟨rfl, ?_⟩
      refine tyes_of ?_
      refine ⟨_, rfl, ?_⟩
      obtain ⟨g48, hM⟩ := hM
      obtain ⟨c49, c49h, hM⟩ := hM
      refine ⟨_, _, _, rfl, rfl, g48, c49h, ?_⟩
      refine mo_end mu25 hn (by rw [List.length_map]; exact ln26) fun vs50 hr51 => ?_
      have mk53 := mo_setL mu25 (repL_snoc (e := (fun y_ : Str => (D.v (V.str y_)))) (xs := ys22) (y := (Str.mk #[c49])) hr51 rep_v)
      replace mu37 := mo_put (o := .lst (vs50 ++ [V.str (Str.mk #[c49])])) mu25.im ne35 mu37
      replace h_pieces := rep_put (o := .lst (vs50 ++ [V.str (Str.mk #[c49])])) mu25.im h_pieces
      replace h11 := rep_put (o := .lst (vs50 ++ [V.str (Str.mk #[c49])])) mu25.im h11
      replace hk24 := keep_put (o := .lst (vs50 ++ [V.str (Str.mk #[c49])])) mu25.im hk24
      replace h32 := rep_put (o := .lst (vs50 ++ [V.str (Str.mk #[c49])])) mu25.im h32
      replace hW := wd_put (o := .lst (vs50 ++ [V.str (Str.mk #[c49])])) hW mu25
      replace mu25 := mk53
      generalize upd H36 L19 (.lst (vs50 ++ [V.str (Str.mk #[c49])])) = H54 at *
      replace mu25 : MutO (L19 :: (L1 :: ms)) [] H_0 H54 L19 (D.lst ((ys22 ++ [(Str.mk #[c49])]).map (fun y_ : Str => (D.v (V.str y_))))) := mu25
      clear mk53
      exact hN27 (Str.mk #[c49]) _ hM ⟨hW, hk24, mu25, by rw [List.length_append]; exact Nat.add_le_add_right ln26 1, mu37⟩
    · skip
      clear mu4
      rintro n21 ys55 H56 hM ⟨hW, hk24, mu25, ln26, mu57⟩
      replace h_pieces := rep_keep hk24 (rep_new nl20 h_pieces)
      replace h11 := rep_keep hk24 (rep_new nl20 h11)
      clear hk24 ln26
      have h58 := mo_rep_dr dr_here nm34 mu25
      replace hW := wd_dr dr_here mu25.hp hW
      replace h_pieces := rep_dr dr_here h_pieces
      replace h11 := rep_dr dr_here h11
      replace mu57 := mo_dr dr_here ne35 mu57
      clear mu25
      refine ⟨(by show 1 ≤ sizeLine; decide), ?_⟩
      intro p59 n63
      have e60 := Rx.Ext.new (H := H56) (o := (HO.lst [V.str ("" : Str)])) n63
      have hp61 : upd H56 p59 (HO.lst [V.str ("" : Str)]) p59 = some (HO.lst [V.str ("" : Str)]) := upd_same
      generalize upd H56 p59 (HO.lst [V.str ("" : Str)]) = H64 at e60 hp61 ⊢
      have h62 : rep (L1 :: ms) H64 (D.lst (([("" : Str)] : List Str).map (fun y_ : Str => (D.v (V.str y_))))) (.ref p59) := rep_lst_mk hW n63 e60 hp61 (repL_cons rep_v repL_nil)
      replace h_pieces := rep_ext e60 h_pieces
      replace h11 := rep_ext e60 h11
      replace h58 := rep_ext e60 h58
      replace mu57 := mo_ext e60 mu57
      replace hW := hW.ret0 e60
      obtain ⟨g65, hM⟩ := hM
      apply rep_cat (xs := ys55) (ys := ([("" : Str)] : List Str)) (e := (fun y_ : Str => (D.v (V.str y_)))) hW h58 h62 g65
      intro p66 H69 e68 h67
      replace h_pieces := rep_ext e68 h_pieces
      replace h11 := rep_ext e68 h11
      replace h58 := rep_ext e68 h58
      replace h62 := rep_ext e68 h62
      replace mu57 := mo_ext e68 mu57
      replace hW := hW.ret0 e68
      refine ⟨_, rfl, ?_⟩
      refine ⟨_, rfl, ?_⟩
      obtain ⟨a70, xs71, ez75, an72, hp73, hl74⟩ := rep_lstAt h_pieces
      obtain ⟨a76, xs77, ez81, an78, hp79, hl80⟩ := rep_lstAt h67
      refine ⟨_, _, _, _, (by rw [ez75, ez81]), .inl (.inl hp73), .inl (.inl hp79), ?_⟩
      refine for_pairG (S := (List (Int × Str))) (e := (fun y_ : (Int × Str) => (D.tup [(D.v (V.int y_.1)), (D.v (V.str y_.2))]))) (e2 := (fun y_ : Str => (D.v (V.str y_)))) (ms := (L1 :: ms)) (fun (s : (List (Int × Str))) σ_ h_ => ∃ (w_0 : Option V), ∃ (w_1 : Option V), ∃ (w_2 : Option V), σ_ = [some v_pieces, some (V.ref L1), some (V.ref p66), w_0, w_1, w_2, none] ∧ Wd (L1 :: ms) [] [] H_0 h_ ∧ Keep (L1 :: ms) H69 h_ ∧ MutO (L1 :: ms) [] H_0 h_ L1 (D.lst (s.map (fun y_ : (Int × Str) => (D.tup [(D.v (V.int y_.1)), (D.v (V.str y_.2))]))))) (([] : List (Int × Str))) (pair_zip (K := K) (items := x_pieces) (items2 := (ys55 ++ ([("" : Str)] : List Str))) (e := (fun y_ : (Int × Str) => (D.tup [(D.v (V.int y_.1)), (D.v (V.str y_.2))]))) (e2 := (fun y_ : Str => (D.v (V.str y_)))) an72 hp73 hl74 an78 hp79 hl80) (fun _ _ _ z_ => by obtain ⟨_, _, _, _, _, q_, _⟩ := z_; exact q_) (fun _ _ _ z_ => by obtain ⟨_, _, _, _, w_, _, _⟩ := z_; exact w_.tr) hM ⟨_, _, _, rfl, hW, Keep.refl, mu57⟩ ?_ ?_
      · skip
        clear mu57
        rintro x82 u83 s84 k85 _ H96 H95 ⟨w90, w91, w92, rfl, hW, hk86, mu93⟩ ex94 h87 hM Nx88 hN89
        replace h_pieces := rep_keep hk86 h_pieces
        replace h11 := rep_keep hk86 h11
        replace h58 := rep_keep hk86 h58
        replace h62 := rep_keep hk86 h62
        replace h67 := rep_keep hk86 h67
        replace h_pieces := rep_ext ex94 h_pieces
        replace h11 := rep_ext ex94 h11
        replace h58 := rep_ext ex94 h58
        replace h62 := rep_ext ex94 h62
        replace h67 := rep_ext ex94 h67
        replace hk86 := keep_ext ex94 hk86
        replace mu93 := mo_ext ex94 mu93
        replace hW := hW.ret0 ex94
        apply rep_gtup h87 rfl
        intro vs97 hv98
        obtain ⟨u99, us100, rfl, h101, hv102⟩ := repL_uncons hv98
        obtain ⟨u103, us104, rfl, h105, hv106⟩ := repL_uncons hv102
        obtain rfl := of_v h105
        obtain rfl := repL_empty hv106
        refine ⟨_, _, rfl, ?_⟩
        apply rep_gtup h101 rfl
        intro vs107 hv108
        obtain ⟨u109, us110, rfl, h111, hv112⟩ := repL_uncons hv108
        obtain rfl := of_v h111
        obtain ⟨u113, us114, rfl, h115, hv116⟩ := repL_uncons hv112
        obtain rfl := of_v h115
        obtain rfl := repL_empty hv116
        refine ⟨_, _, rfl, ?_⟩
        refine ⟨_, _, rfl, ?_⟩
        refine ⟨rfl, ?_⟩
        refine ⟨_, _, rfl, ?_⟩
        refine ⟨rfl, ?_⟩
        refine ⟨_, rfl, ?_⟩
        refine ⟨_, _, rfl, rfl, ?_⟩
        refine ⟨_, rfl, ?_⟩
        refine ite3 hM (fun hM => ?_) (fun hM => ?_)
        · skip
          refine ⟨_, rfl, ?_⟩
          refine ⟨mo_tyL mu93, ?_⟩
          refine ⟨_, rfl, ?_⟩
          refine ⟨_, _, rfl, rfl, ?_⟩
          refine ⟨_, rfl, ?_⟩
          refine ⟨_, rfl, ?_⟩
          refine ⟨_, rfl, ?_⟩
          obtain ⟨g117, hM⟩ := hM
          refine ⟨_, rfl, g117, ?_⟩
          refine ⟨_, rfl, ?_⟩
          obtain ⟨g118, hM⟩ := hM
          obtain ⟨c119, c119h, hM⟩ := hM
          refine ⟨_, _, _, rfl, rfl, g118, c119h, ?_⟩
          obtain ⟨g120, hM⟩ := hM
          refine ⟨_, _, rfl, rfl, g120, ?_⟩
          refine ⟨(L1 :: ms), x82.1.2, ((cutS x82.1.2 (some (1 : Int)) none) ++ (Str.mk #[c119])), _, rfl, hW.enter0, hM, fun r121 u124 H125 hM e123 h122 => ?_⟩
          replace h_pieces := rep_ext e123 h_pieces
          replace h11 := rep_ext e123 h11
          replace h58 := rep_ext e123 h58
          replace h62 := rep_ext e123 h62
          replace h67 := rep_ext e123 h67
          replace hk86 := keep_ext e123 hk86
          replace h87 := rep_ext e123 h87
          replace h101 := rep_ext e123 h101
          replace mu93 := mo_ext e123 mu93
          replace hW := hW.ret0 e123
          obtain rfl := of_v h122
          refine ⟨(by show 2 ≤ sizeLine; decide), ?_⟩
          intro p126 n130
          have e127 := Rx.Ext.new (H := H125) (o := (HO.tup [V.int (x82.1.1 - (1 : Int)), V.str r121])) n130
          have hp128 : upd H125 p126 (HO.tup [V.int (x82.1.1 - (1 : Int)), V.str r121]) p126 = some (HO.tup [V.int (x82.1.1 - (1 : Int)), V.str r121]) := upd_same
          generalize upd H125 p126 (HO.tup [V.int (x82.1.1 - (1 : Int)), V.str r121]) = H131 at e127 hp128 ⊢
          have h129 : rep (L1 :: ms) H131 (D.tup [(D.v (V.int (x82.1.1 - (1 : Int)))), (D.v (V.str r121))]) (.ref p126) := rep_tup_mk hW n130 e127 hp128 (repL_cons rep_v (repL_cons rep_v repL_nil))
          replace h_pieces := rep_ext e127 h_pieces
          replace h11 := rep_ext e127 h11
          replace h58 := rep_ext e127 h58
          replace h62 := rep_ext e127 h62
          replace h67 := rep_ext e127 h67
          replace hk86 := keep_ext e127 hk86
          replace h87 := rep_ext e127 h87
          replace h101 := rep_ext e127 h101
          replace mu93 := mo_ext e127 mu93
          replace hW := hW.ret0 e127
          obtain ⟨g132, hM⟩ := hM
          apply mo_appU mu93 (by rw [List.length_map]; exact g132)
          intro vs133 hr135
          have mk137 := mo_setL mu93 (repL_snoc (e := (fun y_ : (Int × Str) => (D.tup [(D.v (V.int y_.1)), (D.v (V.str y_.2))]))) (xs := s84) (y := ((x82.1.1 - (1 : Int)), r121)) hr135 h129)
          replace h_pieces := rep_put (o := .lst (vs133 ++ [(V.ref p126)])) mu93.im h_pieces
          replace h11 := rep_put (o := .lst (vs133 ++ [(V.ref p126)])) mu93.im h11
          replace h58 := rep_put (o := .lst (vs133 ++ [(V.ref p126)])) mu93.im h58
          replace h62 := rep_put (o := .lst (vs133 ++ [(V.ref p126)])) mu93.im h62
          replace h67 := rep_put (o := .lst (vs133 ++ [(V.ref p126)])) mu93.im h67
          replace hk86 := keep_put (o := .lst (vs133 ++ [(V.ref p126)])) mu93.im hk86
          replace h87 := rep_put (o := .lst (vs133 ++ [(V.ref p126)])) mu93.im h87
          replace h101 := rep_put (o := .lst (vs133 ++ [(V.ref p126)])) mu93.im h101
          replace h129 := rep_put (o := .lst (vs133 ++ [(V.ref p126)])) mu93.im h129
          replace hW := wd_put (o := .lst (vs133 ++ [(V.ref p126)])) hW mu93
          replace mu93 := mk137
          generalize upd H131 L1 (.lst (vs133 ++ [(V.ref p126)])) = H138 at *
          replace mu93 : MutO (L1 :: ms) [] H_0 H138 L1 (D.lst ((s84 ++ [((x82.1.1 - (1 : Int)), r121)]).map (fun y_ : (Int × Str) => (D.tup [(D.v (V.int y_.1)), (D.v (V.str y_.2))])))) := mu93
          clear mk137
          refine ⟨_, rfl, ?_⟩
          refine ⟨mo_tyL mu93, ?_⟩
          refine ⟨_, rfl, ?_⟩
          refine ⟨_, rfl, ?_⟩
          refine ⟨_, _, rfl, rfl, ?_⟩
          refine ⟨_, rfl, ?_⟩
          obtain ⟨g139, hM⟩ := hM
          refine ⟨_, rfl, g139, ?_⟩
          obtain ⟨g140, hM⟩ := hM
          refine ⟨_, _, rfl, rfl, g140, ?_⟩
          obtain ⟨g141, hM⟩ := hM
          obtain ⟨c142, c142h, hM⟩ := hM
          refine ⟨_, _, _, rfl, rfl, g141, c142h, ?_⟩
          refine ⟨_, rfl, ?_⟩
          refine ⟨(L1 :: ms), (Str.mk #[c142]), x82.2, _, rfl, hW.enter0, hM, fun r143 u146 H147 hM e145 h144 => ?_⟩
          replace h_pieces := rep_ext e145 h_pieces
          replace h11 := rep_ext e145 h11
          replace h58 := rep_ext e145 h58
          replace h62 := rep_ext e145 h62
          replace h67 := rep_ext e145 h67
          replace hk86 := keep_ext e145 hk86
          replace h87 := rep_ext e145 h87
          replace h101 := rep_ext e145 h101
          replace h129 := rep_ext e145 h129
          replace mu93 := mo_ext e145 mu93
          replace hW := hW.ret0 e145
          obtain rfl := of_v h144
          refine ⟨(by show 2 ≤ sizeLine; decide), ?_⟩
          intro p148 n152
          have e149 := Rx.Ext.new (H := H147) (o := (HO.tup [V.int (1 : Int), V.str r143])) n152
          have hp150 : upd H147 p148 (HO.tup [V.int (1 : Int), V.str r143]) p148 = some (HO.tup [V.int (1 : Int), V.str r143]) := upd_same
          generalize upd H147 p148 (HO.tup [V.int (1 : Int), V.str r143]) = H153 at e149 hp150 ⊢
          have h151 : rep (L1 :: ms) H153 (D.tup [(D.v (V.int (1 : Int))), (D.v (V.str r143))]) (.ref p148) := rep_tup_mk hW n152 e149 hp150 (repL_cons rep_v (repL_cons rep_v repL_nil))
          replace h_pieces := rep_ext e149 h_pieces
          replace h11 := rep_ext e149 h11
          replace h58 := rep_ext e149 h58
          replace h62 := rep_ext e149 h62
          replace h67 := rep_ext e149 h67
          replace hk86 := keep_ext e149 hk86
          replace h87 := rep_ext e149 h87
          replace h101 := rep_ext e149 h101
          replace h129 := rep_ext e149 h129
          replace mu93 := mo_ext e149 mu93
          replace hW := hW.ret0 e149
          obtain ⟨g154, hM⟩ := hM
          apply mo_appU mu93 (by rw [List.length_map]; exact g154)
          intro vs155 hr157
          have mk159 := mo_setL mu93 (repL_snoc (e := (fun y_ : (Int × Str) => (D.tup [(D.v (V.int y_.1)), (D.v (V.str y_.2))]))) (xs := (s84 ++ [((x82.1.1 - (1 : Int)), r121)])) (y := ((1 : Int), r143)) hr157 h151)
          replace h_pieces := rep_put (o := .lst (vs155 ++ [(V.ref p148)])) mu93.im h_pieces
          replace h11 := rep_put (o := .lst (vs155 ++ [(V.ref p148)])) mu93.im h11
          replace h58 := rep_put (o := .lst (vs155 ++ [(V.ref p148)])) mu93.im h58
          replace h62 := rep_put (o := .lst (vs155 ++ [(V.ref p148)])) mu93.im h62
          replace h67 := rep_put (o := .lst (vs155 ++ [(V.ref p148)])) mu93.im h67
          replace hk86 := keep_put (o := .lst (vs155 ++ [(V.ref p148)])) mu93.im hk86
          replace h87 := rep_put (o := .lst (vs155 ++ [(V.ref p148)])) mu93.im h87
          replace h101 := rep_put (o := .lst (vs155 ++ [(V.ref p148)])) mu93.im h101
          replace h129 := rep_put (o := .lst (vs155 ++ [(V.ref p148)])) mu93.im h129
          replace h151 := rep_put (o := .lst (vs155 ++ [(V.ref p148)])) mu93.im h151
          replace hW := wd_put (o := .lst (vs155 ++ [(V.ref p148)])) hW mu93
          replace mu93 := mk159
          generalize upd H153 L1 (.lst (vs155 ++ [(V.ref p148)])) = H160 at *
          replace mu93 : MutO (L1 :: ms) [] H_0 H160 L1 (D.lst (((s84 ++ [((x82.1.1 - (1 : Int)), r121)]) ++ [((1 : Int), r143)]).map (fun y_ : (Int × Str) => (D.tup [(D.v (V.int y_.1)), (D.v (V.str y_.2))])))) := mu93
          clear mk159
          exact hN89 (((s84 ++ [((x82.1.1 - (1 : Int)), r121)]) ++ [((1 : Int), r143)])) _ _ hM ⟨_, _, _, rfl, hW, hk86, mu93⟩
        · skip
          refine ⟨_, rfl, ?_⟩
          refine ⟨mo_tyL mu93, ?_⟩
          refine ⟨_, rfl, ?_⟩
          refine ⟨_, rfl, ?_⟩
          refine ⟨_, _, rfl, rfl, ?_⟩
          refine ⟨_, rfl, ?_⟩
          obtain ⟨g161, hM⟩ := hM
          refine ⟨_, rfl, g161, ?_⟩
          obtain ⟨g162, hM⟩ := hM
          refine ⟨_, _, rfl, rfl, g162, ?_⟩
          obtain ⟨g163, hM⟩ := hM
          obtain ⟨c164, c164h, hM⟩ := hM
          refine ⟨_, _, _, rfl, rfl, g163, c164h, ?_⟩
          refine ⟨_, rfl, ?_⟩
          refine ⟨(L1 :: ms), (Str.mk #[c164]), x82.2, _, rfl, hW.enter0, hM, fun r165 u168 H169 hM e167 h166 => ?_⟩
          replace h_pieces := rep_ext e167 h_pieces
          replace h11 := rep_ext e167 h11
          replace h58 := rep_ext e167 h58
          replace h62 := rep_ext e167 h62
          replace h67 := rep_ext e167 h67
          replace hk86 := keep_ext e167 hk86
          replace h87 := rep_ext e167 h87
          replace h101 := rep_ext e167 h101
          replace mu93 := mo_ext e167 mu93
          replace hW := hW.ret0 e167
          obtain rfl := of_v h166
          refine ⟨(by show 2 ≤ sizeLine; decide), ?_⟩
          intro p170 n174
          have e171 := Rx.Ext.new (H := H169) (o := (HO.tup [V.int (1 : Int), V.str r165])) n174
          have hp172 : upd H169 p170 (HO.tup [V.int (1 : Int), V.str r165]) p170 = some (HO.tup [V.int (1 : Int), V.str r165]) := upd_same
          generalize upd H169 p170 (HO.tup [V.int (1 : Int), V.str r165]) = H175 at e171 hp172 ⊢
          have h173 : rep (L1 :: ms) H175 (D.tup [(D.v (V.int (1 : Int))), (D.v (V.str r165))]) (.ref p170) := rep_tup_mk hW n174 e171 hp172 (repL_cons rep_v (repL_cons rep_v repL_nil))
          replace h_pieces := rep_ext e171 h_pieces
          replace h11 := rep_ext e171 h11
          replace h58 := rep_ext e171 h58
          replace h62 := rep_ext e171 h62
          replace h67 := rep_ext e171 h67
          replace hk86 := keep_ext e171 hk86
          replace h87 := rep_ext e171 h87
          replace h101 := rep_ext e171 h101
          replace mu93 := mo_ext e171 mu93
          replace hW := hW.ret0 e171
          obtain ⟨g176, hM⟩ := hM
          apply mo_appU mu93 (by rw [List.length_map]; exact g176)
          intro vs177 hr179
          have mk181 := mo_setL mu93 (repL_snoc (e := (fun y_ : (Int × Str) => (D.tup [(D.v (V.int y_.1)), (D.v (V.str y_.2))]))) (xs := s84) (y := ((1 : Int), r165)) hr179 h173)
          replace h_pieces := rep_put (o := .lst (vs177 ++ [(V.ref p170)])) mu93.im h_pieces
          replace h11 := rep_put (o := .lst (vs177 ++ [(V.ref p170)])) mu93.im h11
          replace h58 := rep_put (o := .lst (vs177 ++ [(V.ref p170)])) mu93.im h58
          replace h62 := rep_put (o := .lst (vs177 ++ [(V.ref p170)])) mu93.im h62
          replace h67 := rep_put (o := .lst (vs177 ++ [(V.ref p170)])) mu93.im h67
          replace hk86 := keep_put (o := .lst (vs177 ++ [(V.ref p170)])) mu93.im hk86
          replace h87 := rep_put (o := .lst (vs177 ++ [(V.ref p170)])) mu93.im h87
          replace h101 := rep_put (o := .lst (vs177 ++ [(V.ref p170)])) mu93.im h101
          replace h173 := rep_put (o := .lst (vs177 ++ [(V.ref p170)])) mu93.im h173
          replace hW := wd_put (o := .lst (vs177 ++ [(V.ref p170)])) hW mu93
          replace mu93 := mk181
          generalize upd H175 L1 (.lst (vs177 ++ [(V.ref p170)])) = H182 at *
          replace mu93 : MutO (L1 :: ms) [] H_0 H182 L1 (D.lst ((s84 ++ [((1 : Int), r165)]).map (fun y_ : (Int × Str) => (D.tup [(D.v (V.int y_.1)), (D.v (V.str y_.2))])))) := mu93
          clear mk181
          exact hN89 ((s84 ++ [((1 : Int), r165)])) _ _ hM ⟨_, _, _, rfl, hW, hk86, mu93⟩
      · skip
        clear mu57
        rintro s183 _ H189 hM ⟨w185, w186, w187, rfl, hW, hk184, mu188⟩
        replace h_pieces := rep_keep hk184 h_pieces
        replace h11 := rep_keep hk184 h11
        replace h58 := rep_keep hk184 h58
        replace h62 := rep_keep hk184 h62
        replace h67 := rep_keep hk184 h67
        have h190 := mo_rep_dr dr_here nm3 mu188
        replace hW := wd_dr dr_here mu188.hp hW
        replace h_pieces := rep_dr dr_here h_pieces
        replace h11 := rep_dr dr_here h11
        replace h58 := rep_dr dr_here h58
        replace h62 := rep_dr dr_here h62
        replace h67 := rep_dr dr_here h67
        clear mu188
        refine ⟨_, rfl, ?_⟩
        exact hQ s183 _ _ hM hW.out h190
def M_times_said (x_marks : Str) (x_mark : Str) (x_many : Int) (KM : Int → Prop) : Prop :=
  (x_marks.length ≤ sizeLine ∧ (CDiv x_many (x_marks.length : Int) ∧ (CMulW (x_many / (x_marks.length : Int)) (Txt.count x_marks x_mark : Int) ∧ (x_marks.length ≤ sizeLine ∧ (KM (((x_many / (x_marks.length : Int)) * (Txt.count x_marks x_mark : Int)) + (Txt.count (cutS x_marks none (some (x_many % (x_marks.length : Int)))) x_mark : Int)))))))
def sp_times_said (A : Ad) : Sp := fun vs H Q _ => ∃ (ms : List Addr) (x_marks : Str) (x_mark : Str) (x_many : Int) (KM : Int → Prop), vs = [V.str x_marks, V.str x_mark, V.int x_many] ∧ Wd ms [] [] H H ∧ M_times_said x_marks x_mark x_many KM ∧ ∀ (r : Int) (u : V) (H1 : Hp), KM r → Ret [] H H1 → rep ms H1 (D.v (V.int r)) u → Q u H1
set_option maxHeartbeats 16000000 in
theorem ok_times_said {P : Program} {w : World} {K : PySem.W.Frag} {mg : Str → Option Value} {base : Heap} {A : Ad} (T : Txt w K mg A) : FnOk P w K mg base CX0 1 A.a_times_said A.d_times_said ["marks", "mark", "many"] (sp_times_said A) := by
  refine T.F_times_said.ok sc_times_said (fun vs H Q E h => ?_) (fun cdv A_ outer s_ H_0 vs Q E hr h => ?_)
  · obtain ⟨ms, x_marks, x_mark, x_many, KM, rfl, _⟩ := h
    rfl
  · obtain ⟨ms, x_marks, x_mark, x_many, KM, rfl, hW, hM, hQ⟩ := h
    unfold M_times_said at hM
    refine ⟨_, (pss_cons (ps_asg (pe_callB call_divmod (by rfl) T.z_divmod (by decide +kernel) (pa_cons (pv 2) (pa_cons (pe_callB call_len_str (by rfl) T.z_len PySem.boot_len (pa_cons (pv 0) pa_nil)) pa_nil))) (pg_tup rfl (pgs_cons (pg_name (i := 3) sc_times_said.nd rfl (by first | exact Or.inl rfl | exact Or.inr rfl)) (pgs_cons (pg_name (i := 4) sc_times_said.nd rfl (by first | exact Or.inl rfl | exact Or.inr rfl)) pgs_nil)))) (pss_one (ps_ret (pe_op op_add (pe_op op_mulW (pv 3) (pe_m1 PySem.F.slot_str_count PySem.F.type_str_count mt_count (pv 0) (pv 1))) (pe_m1 PySem.F.slot_str_count PySem.F.type_str_count mt_count (pe_slice sl_str (pv 0) po_none (po_some (pv 4))) (pv 1)))))), ?_⟩
    refine ⟨_, rfl, ?_⟩
    refine ⟨_, rfl, ?_⟩
    obtain ⟨g1, hM⟩ := hM
    refine ⟨_, rfl, g1, ?_⟩
    obtain ⟨g2, hM⟩ := hM
    refine ⟨_, _, rfl, g2, ?_⟩
    intro p3 n7
    have e4 := Rx.Ext.new (H := H_0) (o := (HO.tup [V.int (x_many / (x_marks.length : Int)), V.int (x_many % (x_marks.length : Int))])) n7
    have hp5 : upd H_0 p3 (HO.tup [V.int (x_many / (x_marks.length : Int)), V.int (x_many % (x_marks.length : Int))]) p3 = some (HO.tup [V.int (x_many / (x_marks.length : Int)), V.int (x_many % (x_marks.length : Int))]) := upd_same
    generalize upd H_0 p3 (HO.tup [V.int (x_many / (x_marks.length : Int)), V.int (x_many % (x_marks.length : Int))]) = H8 at e4 hp5 ⊢
    have h6 : rep ms _ (D.tup [D.v (V.int (x_many / (x_marks.length : Int))), D.v (V.int (x_many % (x_marks.length : Int)))]) (.ref p3) := rep_tup_mk hW n7 e4 hp5 (repL_cons rep_v (repL_cons rep_v repL_nil))
    replace hW := hW.ret0 e4
    apply rep_gtup h6 rfl
    intro vs9 hv10
    obtain ⟨u11, us12, rfl, h13, hv14⟩ := repL_uncons hv10
    obtain rfl := of_v h13
    obtain ⟨u15, us16, rfl, h17, hv18⟩ := repL_uncons hv14
    obtain rfl := of_v h17
    obtain rfl := repL_empty hv18
    refine ⟨_, _, rfl, ?_⟩
    refine ⟨_, _, rfl, ?_⟩
    refine ⟨rfl, ?_⟩
    refine ⟨_, rfl, ?_⟩
    refine ⟨_, rfl, ?_⟩
    refine ⟨⟨_, rfl⟩, ?_⟩
    refine ⟨_, rfl, ?_⟩
    refine ⟨_, _, rfl, rfl, ?_⟩
    obtain ⟨g19, hM⟩ := hM
    refine ⟨_, _, rfl, rfl, g19, ?_⟩
    refine ⟨_, rfl, ?_⟩
    refine ⟨_, rfl, ?_⟩
    refine ⟨_, rfl, ?_⟩
    obtain ⟨g20, hM⟩ := hM
    refine ⟨_, rfl, g20, ?_⟩
    refine ⟨⟨_, rfl⟩, ?_⟩
    refine ⟨_, rfl, ?_⟩
    refine ⟨_, _, rfl, rfl, ?_⟩
    refine ⟨_, _, rfl, rfl, ?_⟩
    exact hQ (((x_many / (x_marks.length : Int)) * (Txt.count x_marks x_mark : Int)) + (Txt.count (cutS x_marks none (some (x_many % (x_marks.length : Int)))) x_mark : Int)) _ _ hM hW.out rep_v
def M_times_until (x_pieces : (List (Int × Str))) (x_mark : Str) (x_many : Int) (KM : Int → Prop) : Prop :=
  (forC (fun (x6 : (Int × Str)) (s8 : Int × Int) (k9 : (Int × Int) → Prop) => (M_times_said x6.2 x_mark (if x6.1 < s8.2 then x6.1 else s8.2) fun r28 => (k9 ((s8.1 + r28), (s8.2 - (if x6.1 < s8.2 then x6.1 else s8.2)))))) x_pieces ((0 : Int), x_many) fun s33 => (KM s33.1))
def sp_times_until (A : Ad) : Sp := fun vs H Q _ => ∃ (ms : List Addr) (v_pieces : V) (x_pieces : (List (Int × Str))) (x_mark : Str) (x_many : Int) (KM : Int → Prop), vs = [v_pieces, V.str x_mark, V.int x_many] ∧ Wd ms [] [] H H ∧ rep ms H (D.lst (x_pieces.map (fun y_ : (Int × Str) => (D.tup [(D.v (V.int y_.1)), (D.v (V.str y_.2))])))) v_pieces ∧ M_times_until x_pieces x_mark x_many KM ∧ ∀ (r : Int) (u : V) (H1 : Hp), KM r → Ret [] H H1 → rep ms H1 (D.v (V.int r)) u → Q u H1
set_option maxHeartbeats 16000000 in
theorem ok_times_until {P : Program} {w : World} {K : PySem.W.Frag} {mg : Str → Option Value} {base : Heap} {A : Ad} (T : Txt w K mg A) : FnOk P w K mg base CX0 2 A.a_times_until A.d_times_until ["pieces", "mark", "many"] (sp_times_until A) := by
  refine T.F_times_until.ok sc_times_until (fun vs H Q E h => ?_) (fun cdv A_ outer s_ H_0 vs Q E hr h => ?_)
  · obtain ⟨ms, v_pieces, x_pieces, x_mark, x_many, KM, rfl, _⟩ := h
    rfl
  · obtain ⟨ms, v_pieces, x_pieces, x_mark, x_many, KM, rfl, hW, h_pieces, hM, hQ⟩ := h
    unfold M_times_until at hM
    refine ⟨_, (pss_cons (ps_set (i := 3) sc_times_until.nd rfl (by first | exact Or.inl rfl | exact Or.inr rfl) pe_int) (pss_cons (ps_set (i := 4) sc_times_until.nd rfl (by first | exact Or.inl rfl | exact Or.inr rfl) (pv 2)) (pss_cons (ps_for PassesOwn.never rfl (pi_list (pv 0)) (pg_tup rfl (pgs_cons (pg_name (i := 5) sc_times_until.nd rfl (by first | exact Or.inl rfl | exact Or.inr rfl)) (pgs_cons (pg_name (i := 6) sc_times_until.nd rfl (by first | exact Or.inl rfl | exact Or.inr rfl)) pgs_nil))) (pss_cons (ps_set (i := 7) sc_times_until.nd rfl (by first | exact Or.inl rfl | exact Or.inr rfl) (pe_callB (call_min2 rfl) (by rfl) T.z_min (by decide +kernel) (pa_cons (pv 4) (pa_cons (pv 5) pa_nil)))) (pss_cons (ps_set (i := 3) sc_times_until.nd rfl (by first | exact Or.inl rfl | exact Or.inr rfl) (pe_op op_add (pv 3) (pe_call (ok_times_said T) (hr.mono (by decide)) (by rfl) T.g_times_said T.F_times_said.kp T.b_times_said .nil pass0 (pa_cons (pv 6) (pa_cons (pv 1) (pa_cons (pv 7) pa_nil)))))) (pss_one (ps_set (i := 4) sc_times_until.nd rfl (by first | exact Or.inl rfl | exact Or.inr rfl) (pe_op op_sub (pv 4) (pv 7))))))) (pss_one (ps_ret (pv 3)))))), ?_⟩
    refine ⟨_, rfl, ?_⟩
    refine ⟨_, rfl, ?_⟩
    apply rep_iter h_pieces
    intro a1 xs2 _ an3 hp4 hl5
    refine for_listG (S := Int × Int) (items := x_pieces) (e := (fun y_ : (Int × Str) => (D.tup [(D.v (V.int y_.1)), (D.v (V.str y_.2))]))) (ms := ms) (fun (s : Int × Int) σ_ h_ => ∃ (w_0 : Option V), ∃ (w_1 : Option V), ∃ (w_2 : Option V), σ_ = [some v_pieces, some (V.str x_mark), some (V.int x_many), some (V.int s.1), some (V.int s.2), w_0, w_1, w_2] ∧ Wd ms [] [] H_0 h_ ∧ Keep ms H_0 h_) ((0 : Int), x_many) an3 hp4 hl5 (fun _ _ _ z_ => by obtain ⟨_, _, _, _, _, q_⟩ := z_; exact q_) hM ⟨_, _, _, rfl, hW, Keep.refl⟩ ?_ ?_
    · skip
      rintro x6 u7 s8 k9 _ H17 ⟨w14, w15, w16, rfl, hW, hk10⟩ h11 hM Nx12 hN13
      replace h_pieces := rep_keep hk10 h_pieces
      apply rep_gtup h11 rfl
      intro vs18 hv19
      obtain ⟨u20, us21, rfl, h22, hv23⟩ := repL_uncons hv19
      obtain rfl := of_v h22
      obtain ⟨u24, us25, rfl, h26, hv27⟩ := repL_uncons hv23
      obtain rfl := of_v h26
      obtain rfl := repL_empty hv27
      refine ⟨_, _, rfl, ?_⟩
      refine ⟨_, _, rfl, ?_⟩
      refine ⟨rfl, ?_⟩
      refine ⟨_, rfl, ?_⟩
      refine ⟨_, rfl, ?_⟩
      refine ⟨_, _, rfl, ?_⟩
      refine ⟨_, rfl, ?_⟩
      refine ⟨_, rfl, ?_⟩
      refine ⟨_, rfl, ?_⟩
      refine ⟨_, rfl, ?_⟩
      refine ⟨ms, x6.2, x_mark, (if x6.1 < s8.2 then x6.1 else s8.2), _, rfl, hW.enter0, hM, fun r28 u31 H32 hM e30 h29 => ?_⟩
      replace h_pieces := rep_ext e30 h_pieces
      replace hk10 := keep_ext e30 hk10
      replace h11 := rep_ext e30 h11
      replace hW := hW.ret0 e30
      obtain rfl := of_v h29
      refine ⟨_, _, rfl, rfl, ?_⟩
      refine ⟨_, rfl, ?_⟩
      refine ⟨_, rfl, ?_⟩
      refine ⟨_, _, rfl, rfl, ?_⟩
      exact hN13 ((s8.1 + r28), (s8.2 - (if x6.1 < s8.2 then x6.1 else s8.2))) _ _ hM ⟨_, _, _, rfl, hW, hk10⟩
    · skip
      rintro s33 _ H38 hM ⟨w35, w36, w37, rfl, hW, hk34⟩
      replace h_pieces := rep_keep hk34 h_pieces
      refine ⟨_, rfl, ?_⟩
      exact hQ s33.1 _ _ hM hW.out rep_v
def M_position_said (x_marks : Str) (x_mark : Str) (x_number : Int) (KM : Int → Prop) : Prop :=
  (CDiv (x_number - (1 : Int)) (Txt.count x_marks x_mark : Int) ∧ (((rangeI 0 ((Rx.signs x_marks).length : Int)).zip (Rx.signs x_marks)).length < 100000 ∧ filC (fun (x29 : (Int × Str)) (k22 : Option Int → Prop) => (if (decide (V.str x29.2 = V.str x_mark)) = true then (k22 (some x29.1)) else (k22 none))) ((rangeI 0 ((Rx.signs x_marks).length : Int)).zip (Rx.signs x_marks)) [] fun ys52 => (x_marks.length ≤ sizeLine ∧ (CMulW ((x_number - (1 : Int)) / (Txt.count x_marks x_mark : Int)) (x_marks.length : Int) ∧ (0 ≤ ((x_number - (1 : Int)) % (Txt.count x_marks x_mark : Int)) ∧ ∃ g58 : Int.toNat ((x_number - (1 : Int)) % (Txt.count x_marks x_mark : Int)) < ys52.length, ∀ x60, x60 = ys52[Int.toNat ((x_number - (1 : Int)) % (Txt.count x_marks x_mark : Int))]'g58 → (KM ((((x_number - (1 : Int)) / (Txt.count x_marks x_mark : Int)) * (x_marks.length : Int)) + x60)))))))
def sp_position_said (A : Ad) : Sp := fun vs H Q _ => ∃ (ms : List Addr) (x_marks : Str) (x_mark : Str) (x_number : Int) (KM : Int → Prop), vs = [V.str x_marks, V.str x_mark, V.int x_number] ∧ Wd ms [] [] H H ∧ M_position_said x_marks x_mark x_number KM ∧ ∀ (r : Int) (u : V) (H1 : Hp), KM r → Ret [] H H1 → rep ms H1 (D.v (V.int r)) u → Q u H1
set_option maxHeartbeats 16000000 in
theorem ok_position_said {P : Program} {w : World} {K : PySem.W.Frag} {mg : Str → Option Value} {base : Heap} {A : Ad} (T : Txt w K mg A) : FnOk P w K mg base CX0 1 A.a_position_said A.d_position_said ["marks", "mark", "number"] (sp_position_said A) := by
  refine T.F_position_said.ok sc_position_said (fun vs H Q E h => ?_) (fun cdv A_ outer s_ H_0 vs Q E hr h => ?_)
  · obtain ⟨ms, x_marks, x_mark, x_number, KM, rfl, _⟩ := h
    rfl
  · obtain ⟨ms, x_marks, x_mark, x_number, KM, rfl, hW, hM, hQ⟩ := h
    unfold M_position_said at hM
    refine ⟨_, (pss_cons (ps_asg (pe_callB call_divmod (by rfl) T.z_divmod (by decide +kernel) (pa_cons (pe_op op_sub (pv 2) pe_int) (pa_cons (pe_m1 PySem.F.slot_str_count PySem.F.type_str_count mt_count (pv 0) (pv 1)) pa_nil))) (pg_tup rfl (pgs_cons (pg_name (i := 3) sc_position_said.nd rfl (by first | exact Or.inl rfl | exact Or.inr rfl)) (pgs_cons (pg_name (i := 4) sc_position_said.nd rfl (by first | exact Or.inl rfl | exact Or.inr rfl)) pgs_nil)))) (pss_cons (ps_setLc (i := 5) (own := [("at", 6), ("said", 7)]) (g := (gTup K 2 (gCons (gName 6) (gCons (gName 7) gNil)))) rfl sc_position_said.nd rfl rfl (sw_true rfl rfl rfl (by decide +kernel)) (pi_enumStr (by rfl) T.z_enumerate (pa_cons (pv 0) pa_nil)) (blkOk_by (N := ["marks", "mark", "number", "turns", "rest", "positions", "at", "said"]) (sc := defScope s_position_said) (by decide +kernel)) (fun _ _ _ _ _ => (pg_tup rfl (pgs_cons (pg_name (i := 6) sc_position_said.nd rfl (by first | exact Or.inl rfl | exact Or.inr rfl)) (pgs_cons (pg_name (i := 7) sc_position_said.nd rfl (by first | exact Or.inl rfl | exact Or.inr rfl)) pgs_nil)))) (fun _ _ _ _ _ => (pts_one (pt_cmpR op_eq (pv 7) (pv 1) (nomark _)))) (fun _ _ _ _ _ => (pv 6))) (pss_one (ps_ret (pe_op op_add (pe_op op_mulW (pv 3) (pe_callB call_len_str (by rfl) T.z_len PySem.boot_len (pa_cons (pv 0) pa_nil))) (pe_ix (ix_listK (K := K) rfl) (pv 5) (pv 4) (fun _ _ => rfl))))))), ?_⟩
    refine ⟨_, rfl, ?_⟩
    refine ⟨_, _, rfl, rfl, ?_⟩
    refine ⟨_, rfl, ?_⟩
    refine ⟨⟨_, rfl⟩, ?_⟩
    refine ⟨_, rfl, ?_⟩
    refine ⟨_, _, rfl, rfl, ?_⟩
    obtain ⟨g1, hM⟩ := hM
    refine ⟨_, _, rfl, g1, ?_⟩
    intro p2 n6
    have e3 := Rx.Ext.new (H := H_0) (o := (HO.tup [V.int ((x_number - (1 : Int)) / (Txt.count x_marks x_mark : Int)), V.int ((x_number - (1 : Int)) % (Txt.count x_marks x_mark : Int))])) n6
    have hp4 : upd H_0 p2 (HO.tup [V.int ((x_number - (1 : Int)) / (Txt.count x_marks x_mark : Int)), V.int ((x_number - (1 : Int)) % (Txt.count x_marks x_mark : Int))]) p2 = some (HO.tup [V.int ((x_number - (1 : Int)) / (Txt.count x_marks x_mark : Int)), V.int ((x_number - (1 : Int)) % (Txt.count x_marks x_mark : Int))]) := upd_same
    generalize upd H_0 p2 (HO.tup [V.int ((x_number - (1 : Int)) / (Txt.count x_marks x_mark : Int)), V.int ((x_number - (1 : Int)) % (Txt.count x_marks x_mark : Int))]) = H7 at e3 hp4 ⊢
    have h5 : rep ms _ (D.tup [D.v (V.int ((x_number - (1 : Int)) / (Txt.count x_marks x_mark : Int))), D.v (V.int ((x_number - (1 : Int)) % (Txt.count x_marks x_mark : Int)))]) (.ref p2) := rep_tup_mk hW n6 e3 hp4 (repL_cons rep_v (repL_cons rep_v repL_nil))
    replace hW := hW.ret0 e3
    apply rep_gtup h5 rfl
    intro vs8 hv9
    obtain ⟨u10, us11, rfl, h12, hv13⟩ := repL_uncons hv9
    obtain rfl := of_v h12
    obtain ⟨u14, us15, rfl, h16, hv17⟩ := repL_uncons hv13
    obtain rfl := of_v h16
    obtain rfl := repL_empty hv17
    refine ⟨_, _, rfl, ?_⟩
    refine ⟨_, _, rfl, ?_⟩
    refine ⟨rfl, ?_⟩
    refine ⟨_, rfl, ?_⟩
    refine ⟨_, rfl, ?_⟩
    refine fun L18 nl19 => ?_
    have nm33 := nm_new hW nl19
    refine lf_pairG (L := L18) (fun n_ ys_ h_ => Wd (L18 :: ms) [] [] H_0 h_ ∧ Keep (L18 :: ms) H7 h_ ∧ MutO (L18 :: ms) [] H_0 h_ L18 (D.lst (ys_.map (fun y_ : Int => (D.v (V.int y_))))) ∧ ys_.length ≤ n_) (e := fun i_ => .v (.int i_)) (e2 := fun y_ => .v (.str y_)) (pair_enumStr x_marks) (fun _ _ _ q_ => q_.2.1) (fun _ _ _ q_ => q_.1.tr) hM ⟨wd_cell hW nl19, keep_cell nl19 Keep.refl, mo_newL (ds := []) hW nl19 repL_nil, Nat.le_refl _⟩ ?_ ?_
    · skip
      rintro x29 u30 n20 ys21 k22 H34 H35 hn ⟨hW, hk23, mu24, ln25⟩ ex36 h31 hM Nx28 hN26 hNn27
      replace h5 := rep_keep hk23 (rep_new nl19 h5)
      replace h5 := rep_ext ex36 h5
      replace hk23 := keep_ext ex36 hk23
      replace mu24 := mo_ext ex36 mu24
      replace hW := hW.ret0 ex36
      apply rep_gtup h31 rfl
      intro vs37 hv38
      obtain ⟨u39, us40, rfl, h41, hv42⟩ := repL_uncons hv38
      obtain rfl := of_v h41
      obtain ⟨u43, us44, rfl, h45, hv46⟩ := repL_uncons hv42
      obtain rfl := of_v h45
      obtain rfl := repL_empty hv46
      refine ⟨_, _, rfl, ?_⟩
      refine ⟨_, _, rfl, ?_⟩
      refine ⟨rfl, ?_⟩
      refine ⟨rfl, ?_⟩
      refine ⟨_, rfl, ?_⟩
      refine ⟨_, rfl, ?_⟩
      refine ⟨rfl, ?_⟩
      refine ⟨_, rfl, ?_⟩
      refine ite3 hM (fun hM => ?_) (fun hM => ?_)
      · skip
        refine ⟨_, rfl, ?_⟩
        refine mo_end mu24 hn (by rw [List.length_map]; exact ln25) fun vs47 hr48 => ?_
        have mk50 := mo_setL mu24 (repL_snoc (e := (fun y_ : Int => (D.v (V.int y_)))) (xs := ys21) (y := x29.1) hr48 rep_v)
        replace h5 := rep_put (o := .lst (vs47 ++ [V.int x29.1])) mu24.im h5
        replace hk23 := keep_put (o := .lst (vs47 ++ [V.int x29.1])) mu24.im hk23
        replace h31 := rep_put (o := .lst (vs47 ++ [V.int x29.1])) mu24.im h31
        replace hW := wd_put (o := .lst (vs47 ++ [V.int x29.1])) hW mu24
        replace mu24 := mk50
        generalize upd H35 L18 (.lst (vs47 ++ [V.int x29.1])) = H51 at *
        replace mu24 : MutO (L18 :: ms) [] H_0 H51 L18 (D.lst ((ys21 ++ [x29.1]).map (fun y_ : Int => (D.v (V.int y_))))) := mu24
        clear mk50
        exact hN26 x29.1 _ hM ⟨hW, hk23, mu24, by rw [List.length_append]; exact Nat.add_le_add_right ln25 1⟩
      · skip
        exact hNn27 _ hM ⟨hW, hk23, mu24, Nat.le_succ_of_le ln25⟩
    · skip
      rintro n20 ys52 H53 hM ⟨hW, hk23, mu24, ln25⟩
      replace h5 := rep_keep hk23 (rep_new nl19 h5)
      clear hk23 ln25
      have h54 := mo_rep_dr dr_here nm33 mu24
      replace hW := wd_dr dr_here mu24.hp hW
      replace h5 := rep_dr dr_here h5
      clear mu24
      refine ⟨_, rfl, ?_⟩
      refine ⟨_, rfl, ?_⟩
      obtain ⟨g55, hM⟩ := hM
      refine ⟨_, rfl, g55, ?_⟩
      obtain ⟨g56, hM⟩ := hM
      refine ⟨_, _, rfl, rfl, g56, ?_⟩
      refine ⟨_, rfl, ?_⟩
      refine ⟨_, rfl, ?_⟩
      obtain ⟨g57, g58, hM⟩ := hM
      apply rep_ixL (e := (fun y_ : Int => (D.v (V.int y_)))) (xs := ys52) h54 g57 g58
      intro u61 h59
      obtain ⟨x60, x60e⟩ : ∃ x_, x_ = ys52[Int.toNat ((x_number - (1 : Int)) % (Txt.count x_marks x_mark : Int))]'g58 := ⟨_, rfl⟩
      rw [← x60e] at h59
      replace hM := hM x60 x60e
      obtain rfl := of_v h59
      refine ⟨_, _, rfl, rfl, ?_⟩
      exact hQ ((((x_number - (1 : Int)) / (Txt.count x_marks x_mark : Int)) * (x_marks.length : Int)) + x60) _ _ hM hW.out rep_v
def M_position_of (x_pieces : (List (Int × Str))) (x_mark : Str) (x_number : Int) (KM : (Option Int) → Prop) : Prop :=
  (forC (fun (x6 : (Int × Str)) (s8 : Int × Int) (k9 : (Int × Int) → Prop) => (M_times_said x6.2 x_mark x6.1 fun r28 => (if (decide (s8.1 ≤ r28)) = true then (M_position_said x6.2 x_mark s8.1 fun r33 => (KM (some (s8.2 + r33)))) else (k9 ((s8.1 - r28), (s8.2 + x6.1)))))) x_pieces (x_number, (0 : Int)) fun s38 => (KM none))
def sp_position_of (A : Ad) : Sp := fun vs H Q _ => ∃ (ms : List Addr) (v_pieces : V) (x_pieces : (List (Int × Str))) (x_mark : Str) (x_number : Int) (KM : (Option Int) → Prop), vs = [v_pieces, V.str x_mark, V.int x_number] ∧ Wd ms [] [] H H ∧ rep ms H (D.lst (x_pieces.map (fun y_ : (Int × Str) => (D.tup [(D.v (V.int y_.1)), (D.v (V.str y_.2))])))) v_pieces ∧ M_position_of x_pieces x_mark x_number KM ∧ ∀ (r : (Option Int)) (u : V) (H1 : Hp), KM r → Ret [] H H1 → rep ms H1 (encO (fun y_ : Int => (D.v (V.int y_))) r) u → Q u H1
set_option maxHeartbeats 16000000 in
theorem ok_position_of {P : Program} {w : World} {K : PySem.W.Frag} {mg : Str → Option Value} {base : Heap} {A : Ad} (T : Txt w K mg A) : FnOk P w K mg base CX0 2 A.a_position_of A.d_position_of ["pieces", "mark", "number"] (sp_position_of A) := by
  refine T.F_position_of.ok sc_position_of (fun vs H Q E h => ?_) (fun cdv A_ outer s_ H_0 vs Q E hr h => ?_)
  · obtain ⟨ms, v_pieces, x_pieces, x_mark, x_number, KM, rfl, _⟩ := h
    rfl
  · obtain ⟨ms, v_pieces, x_pieces, x_mark, x_number, KM, rfl, hW, h_pieces, hM, hQ⟩ := h
    unfold M_position_of at hM
    refine ⟨_, (pss_cons (ps_set (i := 3) sc_position_of.nd rfl (by first | exact Or.inl rfl | exact Or.inr rfl) (pv 2)) (pss_cons (ps_set (i := 4) sc_position_of.nd rfl (by first | exact Or.inl rfl | exact Or.inr rfl) pe_int) (pss_cons (ps_for PassesOwn.never rfl (pi_list (pv 0)) (pg_tup rfl (pgs_cons (pg_name (i := 5) sc_position_of.nd rfl (by first | exact Or.inl rfl | exact Or.inr rfl)) (pgs_cons (pg_name (i := 6) sc_position_of.nd rfl (by first | exact Or.inl rfl | exact Or.inr rfl)) pgs_nil))) (pss_cons (ps_set (i := 7) sc_position_of.nd rfl (by first | exact Or.inl rfl | exact Or.inr rfl) (pe_call (ok_times_said T) (hr.mono (by decide)) (by rfl) T.g_times_said T.F_times_said.kp T.b_times_said .nil pass0 (pa_cons (pv 6) (pa_cons (pv 1) (pa_cons (pv 5) pa_nil))))) (pss_cons (ps_if (pt_cmpR op_le (pv 3) (pv 7) (nomark _)) (pss_one (ps_ret (pe_op op_add (pv 4) (pe_call (ok_position_said T) (hr.mono (by decide)) (by rfl) T.g_position_said T.F_position_said.kp T.b_position_said .nil pass0 (pa_cons (pv 6) (pa_cons (pv 1) (pa_cons (pv 3) pa_nil))))))) pss_nil) (pss_cons (ps_set (i := 3) sc_position_of.nd rfl (by first | exact Or.inl rfl | exact Or.inr rfl) (pe_op op_sub (pv 3) (pv 7))) (pss_one (ps_set (i := 4) sc_position_of.nd rfl (by first | exact Or.inl rfl | exact Or.inr rfl) (pe_op op_add (pv 4) (pv 5)))))))) (pss_one (ps_ret pe_non))))), ?_⟩
    refine ⟨_, rfl, ?_⟩
    refine ⟨_, rfl, ?_⟩
    apply rep_iter h_pieces
    intro a1 xs2 _ an3 hp4 hl5
    refine for_listG (S := Int × Int) (items := x_pieces) (e := (fun y_ : (Int × Str) => (D.tup [(D.v (V.int y_.1)), (D.v (V.str y_.2))]))) (ms := ms) (fun (s : Int × Int) σ_ h_ => ∃ (w_0 : Option V), ∃ (w_1 : Option V), ∃ (w_2 : Option V), σ_ = [some v_pieces, some (V.str x_mark), some (V.int x_number), some (V.int s.1), some (V.int s.2), w_0, w_1, w_2] ∧ Wd ms [] [] H_0 h_ ∧ Keep ms H_0 h_) (x_number, (0 : Int)) an3 hp4 hl5 (fun _ _ _ z_ => by obtain ⟨_, _, _, _, _, q_⟩ := z_; exact q_) hM ⟨_, _, _, rfl, hW, Keep.refl⟩ ?_ ?_
    · skip
      rintro x6 u7 s8 k9 _ H17 ⟨w14, w15, w16, rfl, hW, hk10⟩ h11 hM Nx12 hN13
      replace h_pieces := rep_keep hk10 h_pieces
      apply rep_gtup h11 rfl
      intro vs18 hv19
      obtain ⟨u20, us21, rfl, h22, hv23⟩ := repL_uncons hv19
      obtain rfl := of_v h22
      obtain ⟨u24, us25, rfl, h26, hv27⟩ := repL_uncons hv23
      obtain rfl := of_v h26
      obtain rfl := repL_empty hv27
      refine ⟨_, _, rfl, ?_⟩
      refine ⟨_, _, rfl, ?_⟩
      refine ⟨rfl, ?_⟩
      refine ⟨_, rfl, ?_⟩
      refine ⟨_, rfl, ?_⟩
      refine ⟨_, rfl, ?_⟩
      refine ⟨ms, x6.2, x_mark, x6.1, _, rfl, hW.enter0, hM, fun r28 u31 H32 hM e30 h29 => ?_⟩
      replace h_pieces := rep_ext e30 h_pieces
      replace hk10 := keep_ext e30 hk10
      replace h11 := rep_ext e30 h11
      replace hW := hW.ret0 e30
      obtain rfl := of_v h29
      refine ⟨_, rfl, ?_⟩
      refine ⟨_, rfl, ?_⟩
      refine ⟨_, _, rfl, rfl, ?_⟩
      refine ⟨_, rfl, ?_⟩
      refine ite3 hM (fun hM => ?_) (fun hM => ?_)
      · skip
        refine ⟨_, rfl, ?_⟩
        refine ⟨_, rfl, ?_⟩
        refine ⟨_, rfl, ?_⟩
        refine ⟨_, rfl, ?_⟩
        refine ⟨ms, x6.2, x_mark, s8.1, _, rfl, hW.enter0, hM, fun r33 u36 H37 hM e35 h34 => ?_⟩
        replace h_pieces := rep_ext e35 h_pieces
        replace hk10 := keep_ext e35 hk10
        replace h11 := rep_ext e35 h11
        replace hW := hW.ret0 e35
        obtain rfl := of_v h34
        refine ⟨_, _, rfl, rfl, ?_⟩
        exact hQ (some (s8.2 + r33)) _ _ hM hW.out rep_v
      · skip
        refine ⟨_, rfl, ?_⟩
        refine ⟨_, rfl, ?_⟩
        refine ⟨_, _, rfl, rfl, ?_⟩
        refine ⟨_, rfl, ?_⟩
        refine ⟨_, rfl, ?_⟩
        refine ⟨_, _, rfl, rfl, ?_⟩
        exact hN13 ((s8.1 - r28), (s8.2 + x6.1)) _ _ hM ⟨_, _, _, rfl, hW, hk10⟩
    · skip
      rintro s38 _ H43 hM ⟨w40, w41, w42, rfl, hW, hk39⟩
      replace h_pieces := rep_keep hk39 h_pieces
      exact hQ none _ _ hM hW.out rep_v
def M_stay_at (x_rule : (Int × (Str × Str × Str) × Str × Bool)) (x_size : Int) (x_team : Int) (x_day : Int) (KM : (Int × Int) → Prop) : Prop :=
  (M_check_along x_rule x_size x_team fun r1 => (M_check_day x_day (x_size - (1 : Int)) fun r6 => (M_row x_rule x_size x_team fun r11 => (M_likeness r11 fun r16 => (M_times_until r16 ("o" : Str) x_day fun r21 => (∃ KB26 : Int → Prop, (if (decide (V.int r21 = V.int (0 : Int))) = true then (KB26 (0 : Int)) else (M_position_of r16 ("o" : Str) r21 fun r29 => (∃ y34, r29 = some y34 ∧ (KB26 (y34 + (1 : Int)))))) ∧ ∀ r36 : Int, KB26 r36 → (M_position_of r16 ("o" : Str) (r21 + (1 : Int)) fun r39 => (∃ y44, r39 = some y44 ∧ (KM (r36, y44))))))))))
def sp_stay_at (A : Ad) : Sp := fun vs H Q _ => ∃ (ms : List Addr) (v_rule : V) (x_rule : (Int × (Str × Str × Str) × Str × Bool)) (x_size : Int) (x_team : Int) (x_day : Int) (KM : (Int × Int) → Prop), vs = [v_rule, V.int x_size, V.int x_team, V.int x_day] ∧ Wd ms [] [] H H ∧ rep ms H (eRule A x_rule) v_rule ∧ M_stay_at x_rule x_size x_team x_day KM ∧ ∀ (r : (Int × Int)) (u : V) (H1 : Hp), KM r → Ret [] H H1 → rep ms H1 (D.tup [(D.v (V.int r.1)), (D.v (V.int r.2))]) u → Q u H1
set_option maxHeartbeats 16000000 in
theorem ok_stay_at {P : Program} {w : World} {K : PySem.W.Frag} {mg : Str → Option Value} {base : Heap} {A : Ad} (T : Txt w K mg A) : FnOk P w K mg base CX0 11 A.a_stay_at A.d_stay_at ["rule", "size", "team", "day"] (sp_stay_at A) := by
  refine T.F_stay_at.ok sc_stay_at (fun vs H Q E h => ?_) (fun cdv A_ outer s_ H_0 vs Q E hr h => ?_)
  · obtain ⟨ms, v_rule, x_rule, x_size, x_team, x_day, KM, rfl, _⟩ := h
    rfl
  · obtain ⟨ms, v_rule, x_rule, x_size, x_team, x_day, KM, rfl, hW, h_rule, hM, hQ⟩ := h
    unfold M_stay_at at hM
    refine ⟨_, (pss_cons (ps_expr (pe_call (ok_check_along T) (hr.mono (by decide)) (by rfl) T.g_check_along T.F_check_along.kp T.b_check_along .nil pass0 (pa_cons (pv 0) (pa_cons (pv 1) (pa_cons (pv 2) pa_nil))))) (pss_cons (ps_expr (pe_call (ok_check_day T) (hr.mono (by decide)) (by rfl) T.g_check_day T.F_check_day.kp T.b_check_day .nil pass0 (pa_cons (pv 3) (pa_cons (pe_op op_sub (pv 1) pe_int) pa_nil)))) (pss_cons (ps_set (i := 4) sc_stay_at.nd rfl (by first | exact Or.inl rfl | exact Or.inr rfl) (pe_call (ok_likeness T) (hr.mono (by decide)) (by rfl) T.g_likeness T.F_likeness.kp T.b_likeness .nil pass0 (pa_cons (pe_call (ok_row T) (hr.mono (by decide)) (by rfl) T.g_row T.F_row.kp T.b_row .nil pass0 (pa_cons (pv 0) (pa_cons (pv 1) (pa_cons (pv 2) pa_nil)))) pa_nil))) (pss_cons (ps_set (i := 5) sc_stay_at.nd rfl (by first | exact Or.inl rfl | exact Or.inr rfl) (pe_call (ok_times_until T) (hr.mono (by decide)) (by rfl) T.g_times_until T.F_times_until.kp T.b_times_until .nil pass0 (pa_cons (pv 4) (pa_cons (C8.pe_gc (by rfl) T.c_OTHER) (pa_cons (pv 3) pa_nil))))) (pss_cons (ps_set (i := 6) sc_stay_at.nd rfl (by first | exact Or.inl rfl | exact Or.inr rfl) (pe_up (pe_ifExp (pt_cmpR op_eq (pv 5) pe_int (nomark _)) pe_int (pe_op op_add (pe_call (ok_position_of T) (hr.mono (by decide)) (by rfl) T.g_position_of T.F_position_of.kp T.b_position_of .nil pass0 (pa_cons (pv 4) (pa_cons (C8.pe_gc (by rfl) T.c_OTHER) (pa_cons (pv 5) pa_nil)))) pe_int)))) (pss_one (ps_ret (pe_tup (pa_cons (pv 6) (pa_cons (pe_call (ok_position_of T) (hr.mono (by decide)) (by rfl) T.g_position_of T.F_position_of.kp T.b_position_of .nil pass0 (pa_cons (pv 4) (pa_cons (C8.pe_gc (by rfl) T.c_OTHER) (pa_cons (pe_op op_add (pv 5) pe_int) pa_nil)))) pa_nil)))))))))), ?_⟩
    refine ⟨_, rfl, ?_⟩
    refine ⟨_, rfl, ?_⟩
    refine ⟨_, rfl, ?_⟩
    refine ⟨ms, _, x_rule, x_size, x_team, _, rfl, hW.enter0, h_rule, hM, fun r1 u4 H5 hM e3 h2 => ?_⟩
    replace h_rule := rep_ext e3 h_rule
    replace hW := hW.ret0 e3
    obtain rfl := of_v h2
    refine ⟨_, rfl, ?_⟩
    refine ⟨_, rfl, ?_⟩
    refine ⟨_, _, rfl, rfl, ?_⟩
    refine ⟨ms, x_day, (x_size - (1 : Int)), _, rfl, hW.enter0, hM, fun r6 u9 H10 hM e8 h7 => ?_⟩
    replace h_rule := rep_ext e8 h_rule
    replace hW := hW.ret0 e8
    obtain rfl := of_v h7
    refine ⟨_, rfl, ?_⟩
    refine ⟨_, rfl, ?_⟩
    refine ⟨_, rfl, ?_⟩
    refine ⟨ms, _, x_rule, x_size, x_team, _, rfl, hW.enter0, h_rule, hM, fun r11 u14 H15 hM e13 h12 => ?_⟩
    replace h_rule := rep_ext e13 h_rule
    replace hW := hW.ret0 e13
    refine ⟨ms, _, r11, _, rfl, hW.enter0, h12, hM, fun r16 u19 H20 hM e18 h17 => ?_⟩
    replace h_rule := rep_ext e18 h_rule
    replace h12 := rep_ext e18 h12
    replace hW := hW.ret0 e18
    refine ⟨_, rfl, ?_⟩
    refine ⟨_, rfl, ?_⟩
    refine ⟨ms, _, r16, ("o" : Str), x_day, _, rfl, hW.enter0, h17, hM, fun r21 u24 H25 hM e23 h22 => ?_⟩
    replace h_rule := rep_ext e23 h_rule
    replace h12 := rep_ext e23 h12
    replace h17 := rep_ext e23 h17
    replace hW := hW.ret0 e23
    obtain rfl := of_v h22
    obtain ⟨KB26, hM, hKKB26⟩ := hM
    refine ⟨fun v H1 => ∃ r : Int, KB26 r ∧ Wd ms [] [] H_0 H1 ∧ Keep ms H25 H1 ∧ rep ms H1 (D.v (V.int r)) v, ?_, ?_⟩
    · skip
      have hj28 := Keep.refl (ms := ms) (H := H25)
      refine ⟨_, rfl, ?_⟩
      refine ⟨rfl, ?_⟩
      refine ⟨_, rfl, ?_⟩
      refine ite3 hM (fun hM => ?_) (fun hM => ?_)
      · skip
        exact ⟨(0 : Int), hM, hW, hj28, rep_v⟩
      · skip
        refine ⟨_, rfl, ?_⟩
        refine ⟨_, rfl, ?_⟩
        refine ⟨ms, _, r16, ("o" : Str), r21, _, rfl, hW.enter0, h17, hM, fun r29 u32 H33 hM e31 h30 => ?_⟩
        replace h_rule := rep_ext e31 h_rule
        replace h12 := rep_ext e31 h12
        replace h17 := rep_ext e31 h17
        replace hj28 := keep_ext e31 hj28
        replace hW := hW.ret0 e31
        obtain rfl := rep_optV h30
        obtain ⟨y34, hy35, hM⟩ := hM
        try rw [optV_some hy35]
        refine ⟨_, _, rfl, rfl, ?_⟩
        exact ⟨(y34 + (1 : Int)), hM, hW, hj28, rep_v⟩
    · skip
      rintro u38 Hj27 ⟨r36, hr, hW, hj28, h37⟩
      replace hM := hKKB26 r36 hr
      replace h_rule := rep_keep hj28 h_rule
      replace h12 := rep_keep hj28 h12
      replace h17 := rep_keep hj28 h17
      obtain rfl := of_v h37
      refine ⟨_, rfl, ?_⟩
      refine ⟨_, rfl, ?_⟩
      refine ⟨_, rfl, ?_⟩
      refine ⟨_, _, rfl, rfl, ?_⟩
      refine ⟨ms, _, r16, ("o" : Str), (r21 + (1 : Int)), _, rfl, hW.enter0, h17, hM, fun r39 u42 H43 hM e41 h40 => ?_⟩
      replace h_rule := rep_ext e41 h_rule
      replace h12 := rep_ext e41 h12
      replace h17 := rep_ext e41 h17
      replace hW := hW.ret0 e41
      obtain rfl := rep_optV h40
      obtain ⟨y44, hy45, hM⟩ := hM
      try rw [optV_some hy45]
      refine ⟨(by show 2 ≤ sizeLine; decide), ?_⟩
      intro p46 n50
      have e47 := Rx.Ext.new (H := H43) (o := (HO.tup [V.int r36, V.int y44])) n50
      have hp48 : upd H43 p46 (HO.tup [V.int r36, V.int y44]) p46 = some (HO.tup [V.int r36, V.int y44]) := upd_same
      generalize upd H43 p46 (HO.tup [V.int r36, V.int y44]) = H51 at e47 hp48 ⊢
      have h49 : rep ms H51 (D.tup [(D.v (V.int r36)), (D.v (V.int y44))]) (.ref p46) := rep_tup_mk hW n50 e47 hp48 (repL_cons rep_v (repL_cons rep_v repL_nil))
      replace h_rule := rep_ext e47 h_rule
      replace h12 := rep_ext e47 h12
      replace h17 := rep_ext e47 h17
      replace hW := hW.ret0 e47
      exact hQ (r36, y44) _ _ hM hW.out h49
def M_stander (x_model_here : (Int × Str × Str × Str × Str × Bool)) (x_k : Int) (KM : Str → Prop) : Prop :=
  (if (inV (V.str x_model_here.2.2.2.2.1) (([("home" : Str), ("away" : Str)] : List Str).map V.str)) = true then (∃ KB9 : Str → Prop, (if (decide (V.str x_model_here.2.2.2.2.1 = V.str ("home" : Str))) = true then (KB9 ("h" : Str)) else (KB9 ("a" : Str))) ∧ ∀ r14 : Str, KB9 r14 → (KM r14)) else (∃ KB17 : Str → Prop, (if (decide (V.bl (decide (V.int (x_k % (2 : Int)) = V.int (1 : Int))) = V.bl (decide (V.str x_model_here.2.2.2.2.1 = V.str ("odd" : Str))))) = true then (KB17 ("h" : Str)) else (KB17 ("a" : Str))) ∧ ∀ r22 : Str, KB17 r22 → (KM r22)))
def sp_stander (A : Ad) : Sp := fun vs H Q _ => ∃ (ms : List Addr) (v_model_here : V) (x_model_here : (Int × Str × Str × Str × Str × Bool)) (x_k : Int) (KM : Str → Prop), vs = [v_model_here, V.int x_k] ∧ Wd ms [] [] H H ∧ rep ms H (D.dct [(Sum.inr ("step" : Str) : Key), (Sum.inr ("head" : Str) : Key), (Sum.inr ("middle" : Str) : Key), (Sum.inr ("tail" : Str) : Key), (Sum.inr ("stander" : Str) : Key), (Sum.inr ("turned" : Str) : Key)] [(D.v (V.int x_model_here.1)), (D.v (V.str x_model_here.2.1)), (D.v (V.str x_model_here.2.2.1)), (D.v (V.str x_model_here.2.2.2.1)), (D.v (V.str x_model_here.2.2.2.2.1)), (D.v (V.bl x_model_here.2.2.2.2.2))]) v_model_here ∧ M_stander x_model_here x_k KM ∧ ∀ (r : Str) (u : V) (H1 : Hp), KM r → Ret [] H H1 → rep ms H1 (D.v (V.str r)) u → Q u H1
set_option maxHeartbeats 16000000 in
theorem ok_stander {P : Program} {w : World} {K : PySem.W.Frag} {mg : Str → Option Value} {base : Heap} {A : Ad} (T : Txt w K mg A) : FnOk P w K mg base CX0 1 A.a_stander A.d_stander ["_law_model_here", "_law_k"] (sp_stander A) := by
  refine T.F_stander.ok sc_stander (fun vs H Q E h => ?_) (fun cdv A_ outer s_ H_0 vs Q E hr h => ?_)
  · obtain ⟨ms, v_model_here, x_model_here, x_k, KM, rfl, _⟩ := h
    rfl
  · obtain ⟨ms, v_model_here, x_model_here, x_k, KM, rfl, hW, h_model_here, hM, hQ⟩ := h
    unfold M_stander at hM
    refine ⟨_, (pss_cons (ps_if (pt_cmpR (op_inSK (K := K) rfl) (pe_dget (hu_of hr) (pv 0) pe_str (fun _ _ => rfl)) (pe_tup (pa_cons pe_str (pa_cons pe_str pa_nil))) (by rfl)) (pss_one (ps_ret (pe_up (pe_ifExp (pt_cmpR op_eq (pe_dget (hu_of hr) (pv 0) pe_str (fun _ _ => rfl)) pe_str (nomark _)) pe_str pe_str)))) pss_nil) (pss_one (ps_ret (pe_up (pe_ifExp (pt_cmpR op_eq (pe_cmpR op_eq (pe_op op_mod (pv 1) pe_int) pe_int (nomark _)) (pe_cmpR op_eq (pe_dget (hu_of hr) (pv 0) pe_str (fun _ _ => rfl)) pe_str (nomark _)) (nomark _)) pe_str pe_str))))), ?_⟩
    refine ⟨_, rfl, ?_⟩
    apply rep_dget (k := (Sum.inr ("stander" : Str) : Key)) 4 h_model_here (by decide +kernel) rfl rfl
    intro u2 h1
    obtain rfl := of_v h1
    refine ⟨(by show 2 ≤ sizeLine; decide), ?_⟩
    intro p3 n7
    have e4 := Rx.Ext.new (H := H_0) (o := (HO.tup [V.str ("home" : Str), V.str ("away" : Str)])) n7
    have hp5 : upd H_0 p3 (HO.tup [V.str ("home" : Str), V.str ("away" : Str)]) p3 = some (HO.tup [V.str ("home" : Str), V.str ("away" : Str)]) := upd_same
    generalize upd H_0 p3 (HO.tup [V.str ("home" : Str), V.str ("away" : Str)]) = H8 at e4 hp5 ⊢
    have h6 : rep ms H8 (D.tup [(D.v (V.str ("home" : Str))), (D.v (V.str ("away" : Str)))]) (.ref p3) := rep_tup_mk hW n7 e4 hp5 (repL_cons rep_v (repL_cons rep_v repL_nil))
    replace h_model_here := rep_ext e4 h_model_here
    replace hW := hW.ret0 e4
    apply rep_inT (f := V.str) (xs := ([("home" : Str), ("away" : Str)] : List Str)) h6 rfl (fun _ => rfl)
    refine ⟨_, rfl, ?_⟩
    refine ite3 hM (fun hM => ?_) (fun hM => ?_)
    · skip
      obtain ⟨KB9, hM, hKKB9⟩ := hM
      refine ⟨fun v H1 => ∃ r : Str, KB9 r ∧ Wd ms [] [] H_0 H1 ∧ Keep ms H8 H1 ∧ rep ms H1 (D.v (V.str r)) v, ?_, ?_⟩
      · skip
        have hj11 := Keep.refl (ms := ms) (H := H8)
        refine ⟨_, rfl, ?_⟩
        apply rep_dget (k := (Sum.inr ("stander" : Str) : Key)) 4 h_model_here (by decide +kernel) rfl rfl
        intro u13 h12
        obtain rfl := of_v h12
        refine ⟨rfl, ?_⟩
        refine ⟨_, rfl, ?_⟩
        refine ite3 hM (fun hM => ?_) (fun hM => ?_)
        · skip
          exact ⟨("h" : Str), hM, hW, hj11, rep_v⟩
        · skip
          exact ⟨("a" : Str), hM, hW, hj11, rep_v⟩
      · skip
        rintro u16 Hj10 ⟨r14, hr, hW, hj11, h15⟩
        replace hM := hKKB9 r14 hr
        replace h_model_here := rep_keep hj11 h_model_here
        replace h6 := rep_keep hj11 h6
        obtain rfl := of_v h15
        exact hQ r14 _ _ hM hW.out rep_v
    · skip
      obtain ⟨KB17, hM, hKKB17⟩ := hM
      refine ⟨fun v H1 => ∃ r : Str, KB17 r ∧ Wd ms [] [] H_0 H1 ∧ Keep ms H8 H1 ∧ rep ms H1 (D.v (V.str r)) v, ?_, ?_⟩
      · skip
        have hj19 := Keep.refl (ms := ms) (H := H8)
        refine ⟨_, rfl, ?_⟩
        refine ⟨_, _, rfl, rfl, (by show (0 : Int) < (2 : Int); decide), ?_⟩
        refine ⟨rfl, ?_⟩
        refine ⟨_, rfl, ?_⟩
        apply rep_dget (k := (Sum.inr ("stander" : Str) : Key)) 4 h_model_here (by decide +kernel) rfl rfl
        intro u21 h20
        obtain rfl := of_v h20
        refine ⟨rfl, ?_⟩
        refine ⟨rfl, ?_⟩
        refine ⟨_, rfl, ?_⟩
        refine ite3 hM (fun hM => ?_) (fun hM => ?_)
        · skip
          exact ⟨("h" : Str), hM, hW, hj19, rep_v⟩
        · skip
          exact ⟨("a" : Str), hM, hW, hj19, rep_v⟩
      · skip
        rintro u24 Hj18 ⟨r22, hr, hW, hj19, h23⟩
        replace hM := hKKB17 r22 hr
        replace h_model_here := rep_keep hj19 h_model_here
        replace h6 := rep_keep hj19 h6
        obtain rfl := of_v h23
        exact hQ r22 _ _ hM hW.out rep_v
def M_contrary (x_sign_here : Str) (KM : Str → Prop) : Prop :=
  (∃ KB1 : Str → Prop, (if (decide (V.str x_sign_here = V.str ("h" : Str))) = true then (KB1 ("a" : Str)) else (KB1 ("h" : Str))) ∧ ∀ r4 : Str, KB1 r4 → (KM r4))
def sp_contrary (A : Ad) : Sp := fun vs H Q _ => ∃ (ms : List Addr) (x_sign_here : Str) (KM : Str → Prop), vs = [V.str x_sign_here] ∧ Wd ms [] [] H H ∧ M_contrary x_sign_here KM ∧ ∀ (r : Str) (u : V) (H1 : Hp), KM r → Ret [] H H1 → rep ms H1 (D.v (V.str r)) u → Q u H1
set_option maxHeartbeats 16000000 in
theorem ok_contrary {P : Program} {w : World} {K : PySem.W.Frag} {mg : Str → Option Value} {base : Heap} {A : Ad} (T : Txt w K mg A) : FnOk P w K mg base CX0 1 A.a_contrary A.d_contrary ["_law_sign_here"] (sp_contrary A) := by
  refine T.F_contrary.ok sc_contrary (fun vs H Q E h => ?_) (fun cdv A_ outer s_ H_0 vs Q E hr h => ?_)
  · obtain ⟨ms, x_sign_here, KM, rfl, _⟩ := h
    rfl
  · obtain ⟨ms, x_sign_here, KM, rfl, hW, hM, hQ⟩ := h
    unfold M_contrary at hM
    refine ⟨_, (pss_one (ps_ret (pe_up (pe_ifExp (pt_cmpR op_eq (pv 0) pe_str (nomark _)) pe_str pe_str)))), ?_⟩
    obtain ⟨KB1, hM, hKKB1⟩ := hM
    refine ⟨fun v H1 => ∃ r : Str, KB1 r ∧ Wd ms [] [] H_0 H1 ∧ Keep ms H_0 H1 ∧ rep ms H1 (D.v (V.str r)) v, ?_, ?_⟩
    · skip
      have hj3 := Keep.refl (ms := ms) (H := H_0)
      refine ⟨_, rfl, ?_⟩
      refine ⟨rfl, ?_⟩
      refine ⟨_, rfl, ?_⟩
      refine ite3 hM (fun hM => ?_) (fun hM => ?_)
      · skip
        exact ⟨("a" : Str), hM, hW, hj3, rep_v⟩
      · skip
        exact ⟨("h" : Str), hM, hW, hj3, rep_v⟩
    · skip
      rintro u6 Hj2 ⟨r4, hr, hW, hj3, h5⟩
      replace hM := hKKB1 r4 hr
      obtain rfl := of_v h5
      exact hQ r4 _ _ hM hW.out rep_v
def M_at (x_model_here : (Int × Str × Str × Str × Str × Bool)) (x_places : Int) (x_k : Int) (KM : Str → Prop) : Prop :=
  (x_model_here.2.1.length ≤ sizeLine ∧ (if (decide (x_k ≤ (x_model_here.2.1.length : Int))) = true then (x_model_here.2.1.length ≤ sizeLine ∧ ∃ c7, atI x_model_here.2.1.cps.toList (x_k - (1 : Int)) = some c7 ∧ (KM (Str.mk #[c7]))) else (x_model_here.2.2.2.1.length ≤ sizeLine ∧ (if (decide ((x_places - (x_model_here.2.2.2.1.length : Int)) < x_k)) = true then (x_model_here.2.2.2.1.length ≤ sizeLine ∧ (x_model_here.2.2.2.1.length ≤ sizeLine ∧ ∃ c11, atI x_model_here.2.2.2.1.cps.toList (((x_k - x_places) + (x_model_here.2.2.2.1.length : Int)) - (1 : Int)) = some c11 ∧ (KM (Str.mk #[c11])))) else (x_model_here.2.1.length ≤ sizeLine ∧ (x_model_here.2.2.1.length ≤ sizeLine ∧ (0 < (x_model_here.2.2.1.length : Int) ∧ (x_model_here.2.2.1.length ≤ sizeLine ∧ ∃ c20, atI x_model_here.2.2.1.cps.toList (((x_k - (x_model_here.2.1.length : Int)) - (1 : Int)) % (x_model_here.2.2.1.length : Int)) = some c20 ∧ (KM (Str.mk #[c20]))))))))))
def sp_at (A : Ad) : Sp := fun vs H Q _ => ∃ (ms : List Addr) (v_model_here : V) (x_model_here : (Int × Str × Str × Str × Str × Bool)) (x_places : Int) (x_k : Int) (KM : Str → Prop), vs = [v_model_here, V.int x_places, V.int x_k] ∧ Wd ms [] [] H H ∧ rep ms H (D.dct [(Sum.inr ("step" : Str) : Key), (Sum.inr ("head" : Str) : Key), (Sum.inr ("middle" : Str) : Key), (Sum.inr ("tail" : Str) : Key), (Sum.inr ("stander" : Str) : Key), (Sum.inr ("turned" : Str) : Key)] [(D.v (V.int x_model_here.1)), (D.v (V.str x_model_here.2.1)), (D.v (V.str x_model_here.2.2.1)), (D.v (V.str x_model_here.2.2.2.1)), (D.v (V.str x_model_here.2.2.2.2.1)), (D.v (V.bl x_model_here.2.2.2.2.2))]) v_model_here ∧ M_at x_model_here x_places x_k KM ∧ ∀ (r : Str) (u : V) (H1 : Hp), KM r → Ret [] H H1 → rep ms H1 (D.v (V.str r)) u → Q u H1
set_option maxHeartbeats 16000000 in
theorem ok_at {P : Program} {w : World} {K : PySem.W.Frag} {mg : Str → Option Value} {base : Heap} {A : Ad} (T : Txt w K mg A) : FnOk P w K mg base CX0 1 A.a_at A.d_at ["_law_model_here", "_law_places", "_law_k"] (sp_at A) := by
  refine T.F_at.ok sc_at (fun vs H Q E h => ?_) (fun cdv A_ outer s_ H_0 vs Q E hr h => ?_)
  · obtain ⟨ms, v_model_here, x_model_here, x_places, x_k, KM, rfl, _⟩ := h
    rfl
  · obtain ⟨ms, v_model_here, x_model_here, x_places, x_k, KM, rfl, hW, h_model_here, hM, hQ⟩ := h
    unfold M_at at hM
    refine ⟨_, (pss_cons (ps_par (i := 3) (j := 4) (by rfl) sc_at.nd rfl rfl (by decide) rfl rfl (pa_cons (pe_dget (hu_of hr) (pv 0) pe_str (fun _ _ => rfl)) (pa_cons (pe_dget (hu_of hr) (pv 0) pe_str (fun _ _ => rfl)) pa_nil)) (by rfl)) (pss_cons (ps_if (pt_cmpR op_le (pv 2) (pe_callB call_len_str (by rfl) T.z_len PySem.boot_len (pa_cons (pv 3) pa_nil)) (nomark _)) (pss_one (ps_ret (pe_ix ix_str (pv 3) (pe_op op_sub (pv 2) pe_int) (fun _ _ => rfl)))) pss_nil) (pss_cons (ps_if (pt_cmpR op_gt (pv 2) (pe_op op_sub (pv 1) (pe_callB call_len_str (by rfl) T.z_len PySem.boot_len (pa_cons (pv 4) pa_nil))) (nomark _)) (pss_one (ps_ret (pe_ix ix_str (pv 4) (pe_op op_sub (pe_op op_add (pe_op op_sub (pv 2) (pv 1)) (pe_callB call_len_str (by rfl) T.z_len PySem.boot_len (pa_cons (pv 4) pa_nil))) pe_int) (fun _ _ => rfl)))) pss_nil) (pss_one (ps_ret (pe_ix ix_str (pe_dget (hu_of hr) (pv 0) pe_str (fun _ _ => rfl)) (pe_op op_mod (pe_op op_sub (pe_op op_sub (pv 2) (pe_callB call_len_str (by rfl) T.z_len PySem.boot_len (pa_cons (pv 3) pa_nil))) pe_int) (pe_callB call_len_str (by rfl) T.z_len PySem.boot_len (pa_cons (pe_dget (hu_of hr) (pv 0) pe_str (fun _ _ => rfl)) pa_nil))) (fun _ _ => rfl))))))), ?_⟩
    refine ⟨_, rfl, ?_⟩
    apply rep_dget (k := (Sum.inr ("head" : Str) : Key)) 1 h_model_here (by decide +kernel) rfl rfl
    intro u2 h1
    obtain rfl := of_v h1
    refine ⟨_, rfl, ?_⟩
    apply rep_dget (k := (Sum.inr ("tail" : Str) : Key)) 3 h_model_here (by decide +kernel) rfl rfl
    intro u4 h3
    obtain rfl := of_v h3
    refine ⟨_, _, rfl, ?_⟩
    refine ⟨_, rfl, ?_⟩
    refine ⟨_, rfl, ?_⟩
    obtain ⟨g5, hM⟩ := hM
    refine ⟨_, rfl, g5, ?_⟩
    refine ⟨_, _, rfl, rfl, ?_⟩
    refine ⟨_, rfl, ?_⟩
    refine ite3 hM (fun hM => ?_) (fun hM => ?_)
    · skip
      refine ⟨_, rfl, ?_⟩
      refine ⟨_, rfl, ?_⟩
      refine ⟨_, _, rfl, rfl, ?_⟩
      obtain ⟨g6, hM⟩ := hM
      obtain ⟨c7, c7h, hM⟩ := hM
      refine ⟨_, _, _, rfl, rfl, g6, c7h, ?_⟩
      exact hQ (Str.mk #[c7]) _ _ hM hW.out rep_v
    · skip
      refine ⟨_, rfl, ?_⟩
      refine ⟨_, rfl, ?_⟩
      refine ⟨_, rfl, ?_⟩
      obtain ⟨g8, hM⟩ := hM
      refine ⟨_, rfl, g8, ?_⟩
      refine ⟨_, _, rfl, rfl, ?_⟩
      refine ⟨_, _, rfl, rfl, ?_⟩
      refine ⟨_, rfl, ?_⟩
      refine ite3 hM (fun hM => ?_) (fun hM => ?_)
      · skip
        refine ⟨_, rfl, ?_⟩
        refine ⟨_, rfl, ?_⟩
        refine ⟨_, rfl, ?_⟩
        refine ⟨_, _, rfl, rfl, ?_⟩
        refine ⟨_, rfl, ?_⟩
        obtain ⟨g9, hM⟩ := hM
        refine ⟨_, rfl, g9, ?_⟩
        refine ⟨_, _, rfl, rfl, ?_⟩
        refine ⟨_, _, rfl, rfl, ?_⟩
        obtain ⟨g10, hM⟩ := hM
        obtain ⟨c11, c11h, hM⟩ := hM
        refine ⟨_, _, _, rfl, rfl, g10, c11h, ?_⟩
        exact hQ (Str.mk #[c11]) _ _ hM hW.out rep_v
      · skip
        refine ⟨_, rfl, ?_⟩
        apply rep_dget (k := (Sum.inr ("middle" : Str) : Key)) 2 h_model_here (by decide +kernel) rfl rfl
        intro u13 h12
        obtain rfl := of_v h12
        refine ⟨_, rfl, ?_⟩
        refine ⟨_, rfl, ?_⟩
        obtain ⟨g14, hM⟩ := hM
        refine ⟨_, rfl, g14, ?_⟩
        refine ⟨_, _, rfl, rfl, ?_⟩
        refine ⟨_, _, rfl, rfl, ?_⟩
        refine ⟨_, rfl, ?_⟩
        apply rep_dget (k := (Sum.inr ("middle" : Str) : Key)) 2 h_model_here (by decide +kernel) rfl rfl
        intro u16 h15
        obtain rfl := of_v h15
        obtain ⟨g17, hM⟩ := hM
        refine ⟨_, rfl, g17, ?_⟩
        obtain ⟨g18, hM⟩ := hM
        refine ⟨_, _, rfl, rfl, g18, ?_⟩
        obtain ⟨g19, hM⟩ := hM
        obtain ⟨c20, c20h, hM⟩ := hM
        refine ⟨_, _, _, rfl, rfl, g19, c20h, ?_⟩
        exact hQ (Str.mk #[c20]) _ _ hM hW.out rep_v
def M_sign (x_model_here : (Int × Str × Str × Str × Str × Bool)) (x_n : Int) (x_team_now : Int) (x_k : Int) (KM : Str → Prop) : Prop :=
  (if (decide (V.int x_team_now = V.int (x_n - (1 : Int)))) = true then (M_stander x_model_here x_k fun r1 => (KM r1)) else (CMulW x_model_here.1 x_k ∧ (0 < (x_n - (1 : Int)) ∧ (if (decide (V.int ((x_team_now - (x_model_here.1 * x_k)) % (x_n - (1 : Int))) = V.int (0 : Int))) = true then (M_stander x_model_here x_k fun r10 => (M_contrary r10 fun r15 => (KM r15))) else (∃ KB20 : Int → Prop, (if (decide (((x_team_now - (x_model_here.1 * x_k)) % (x_n - (1 : Int))) < (x_n / (2 : Int)))) = true then (KB20 ((x_team_now - (x_model_here.1 * x_k)) % (x_n - (1 : Int)))) else (KB20 ((x_n - (1 : Int)) - ((x_team_now - (x_model_here.1 * x_k)) % (x_n - (1 : Int)))))) ∧ ∀ r23 : Int, KB20 r23 → (M_at x_model_here ((x_n / (2 : Int)) - (1 : Int)) r23 fun r26 => (∃ KB31 : Str → Prop, (if x_model_here.2.2.2.2.2 = true then (if (!(decide (V.bl (decide (((x_team_now - (x_model_here.1 * x_k)) % (x_n - (1 : Int))) < (x_n / (2 : Int)))) = V.bl (decide (V.int (x_k % (2 : Int)) = V.int (1 : Int)))))) = true then (KB31 r26) else (M_contrary r26 fun r36 => (KB31 r36))) else (if (!(decide (V.bl (decide (((x_team_now - (x_model_here.1 * x_k)) % (x_n - (1 : Int))) < (x_n / (2 : Int)))) = V.bl false))) = true then (KB31 r26) else (M_contrary r26 fun r41 => (KB31 r41)))) ∧ ∀ r46 : Str, KB31 r46 → (KM r46))))))))
def sp_sign (A : Ad) : Sp := fun vs H Q _ => ∃ (ms : List Addr) (v_model_here : V) (x_model_here : (Int × Str × Str × Str × Str × Bool)) (x_n : Int) (x_team_now : Int) (x_k : Int) (KM : Str → Prop), vs = [v_model_here, V.int x_n, V.int x_team_now, V.int x_k] ∧ Wd ms [] [] H H ∧ rep ms H (D.dct [(Sum.inr ("step" : Str) : Key), (Sum.inr ("head" : Str) : Key), (Sum.inr ("middle" : Str) : Key), (Sum.inr ("tail" : Str) : Key), (Sum.inr ("stander" : Str) : Key), (Sum.inr ("turned" : Str) : Key)] [(D.v (V.int x_model_here.1)), (D.v (V.str x_model_here.2.1)), (D.v (V.str x_model_here.2.2.1)), (D.v (V.str x_model_here.2.2.2.1)), (D.v (V.str x_model_here.2.2.2.2.1)), (D.v (V.bl x_model_here.2.2.2.2.2))]) v_model_here ∧ M_sign x_model_here x_n x_team_now x_k KM ∧ ∀ (r : Str) (u : V) (H1 : Hp), KM r → Ret [] H H1 → rep ms H1 (D.v (V.str r)) u → Q u H1
set_option maxHeartbeats 16000000 in
theorem ok_sign {P : Program} {w : World} {K : PySem.W.Frag} {mg : Str → Option Value} {base : Heap} {A : Ad} (T : Txt w K mg A) : FnOk P w K mg base CX0 2 A.a_sign A.d_sign ["_law_model_here", "_law_n", "_law_team_now", "_law_k"] (sp_sign A) := by
  refine T.F_sign.ok sc_sign (fun vs H Q E h => ?_) (fun cdv A_ outer s_ H_0 vs Q E hr h => ?_)
  · obtain ⟨ms, v_model_here, x_model_here, x_n, x_team_now, x_k, KM, rfl, _⟩ := h
    rfl
  · obtain ⟨ms, v_model_here, x_model_here, x_n, x_team_now, x_k, KM, rfl, hW, h_model_here, hM, hQ⟩ := h
    unfold M_sign at hM
    refine ⟨_, (pss_cons (ps_if (pt_cmpR op_eq (pv 2) (pe_op op_sub (pv 1) pe_int) (nomark _)) (pss_one (ps_ret (pe_call (ok_stander T) (hr.mono (by decide)) (by rfl) T.g_stander T.F_stander.kp T.b_stander .nil pass0 (pa_cons (pv 0) (pa_cons (pv 3) pa_nil))))) pss_nil) (pss_cons (ps_set (i := 4) sc_sign.nd rfl (by first | exact Or.inl rfl | exact Or.inr rfl) (pe_op op_mod (pe_op op_sub (pv 2) (pe_op op_mulW (pe_dget (hu_of hr) (pv 0) pe_str (fun _ _ => rfl)) (pv 3))) (pe_op op_sub (pv 1) pe_int))) (pss_cons (ps_if (pt_cmpR op_eq (pv 4) pe_int (nomark _)) (pss_one (ps_ret (pe_call (ok_contrary T) (hr.mono (by decide)) (by rfl) T.g_contrary T.F_contrary.kp T.b_contrary .nil pass0 (pa_cons (pe_call (ok_stander T) (hr.mono (by decide)) (by rfl) T.g_stander T.F_stander.kp T.b_stander .nil pass0 (pa_cons (pv 0) (pa_cons (pv 3) pa_nil))) pa_nil)))) pss_nil) (pss_cons (ps_set (i := 5) sc_sign.nd rfl (by first | exact Or.inl rfl | exact Or.inr rfl) (pe_cmpR op_lt (pv 4) (pe_op op_fdivW (pv 1) pe_int) (nomark _))) (pss_cons (ps_set (i := 6) sc_sign.nd rfl (by first | exact Or.inl rfl | exact Or.inr rfl) (pe_call (ok_at T) (hr.mono (by decide)) (by rfl) T.g_at T.F_at.kp T.b_at .nil pass0 (pa_cons (pv 0) (pa_cons (pe_op op_sub (pe_op op_fdivW (pv 1) pe_int) pe_int) (pa_cons (pe_up (pe_ifExp (pt_val (pv 5)) (pv 4) (pe_op op_sub (pe_op op_sub (pv 1) pe_int) (pv 4)))) pa_nil))))) (pss_one (ps_ret (pe_up (pe_ifExp (pt_cmpR op_ne (pv 5) (pe_and (pe_dget (hu_of hr) (pv 0) pe_str (fun _ _ => rfl)) (pe_one (pe_cmpR op_eq (pe_op op_mod (pv 3) pe_int) pe_int (nomark _)))) (nomark _)) (pv 6) (pe_call (ok_contrary T) (hr.mono (by decide)) (by rfl) T.g_contrary T.F_contrary.kp T.b_contrary .nil pass0 (pa_cons (pv 6) pa_nil))))))))))), ?_⟩
    refine ⟨_, rfl, ?_⟩
    refine ⟨_, rfl, ?_⟩
    refine ⟨_, _, rfl, rfl, ?_⟩
    refine ⟨rfl, ?_⟩
    refine ⟨_, rfl, ?_⟩
    refine ite3 hM (fun hM => ?_) (fun hM => ?_)
    · skip
      refine ⟨_, rfl, ?_⟩
      refine ⟨_, rfl, ?_⟩
      refine ⟨ms, _, x_model_here, x_k, _, rfl, hW.enter0, h_model_here, hM, fun r1 u4 H5 hM e3 h2 => ?_⟩
      replace h_model_here := rep_ext e3 h_model_here
      replace hW := hW.ret0 e3
      obtain rfl := of_v h2
      exact hQ r1 _ _ hM hW.out rep_v
    · skip
      refine ⟨_, rfl, ?_⟩
      refine ⟨_, rfl, ?_⟩
      apply rep_dget (k := (Sum.inr ("step" : Str) : Key)) 0 h_model_here (by decide +kernel) rfl rfl
      intro u7 h6
      obtain rfl := of_v h6
      refine ⟨_, rfl, ?_⟩
      obtain ⟨g8, hM⟩ := hM
      refine ⟨_, _, rfl, rfl, g8, ?_⟩
      refine ⟨_, _, rfl, rfl, ?_⟩
      refine ⟨_, rfl, ?_⟩
      refine ⟨_, _, rfl, rfl, ?_⟩
      obtain ⟨g9, hM⟩ := hM
      refine ⟨_, _, rfl, rfl, g9, ?_⟩
      refine ⟨_, rfl, ?_⟩
      refine ⟨rfl, ?_⟩
      refine ⟨_, rfl, ?_⟩
      refine ite3 hM (fun hM => ?_) (fun hM => ?_)
      · skip
        refine ⟨_, rfl, ?_⟩
        refine ⟨_, rfl, ?_⟩
        refine ⟨ms, _, x_model_here, x_k, _, rfl, hW.enter0, h_model_here, hM, fun r10 u13 H14 hM e12 h11 => ?_⟩
        replace h_model_here := rep_ext e12 h_model_here
        replace hW := hW.ret0 e12
        obtain rfl := of_v h11
        refine ⟨ms, r10, _, rfl, hW.enter0, hM, fun r15 u18 H19 hM e17 h16 => ?_⟩
        replace h_model_here := rep_ext e17 h_model_here
        replace hW := hW.ret0 e17
        obtain rfl := of_v h16
        exact hQ r15 _ _ hM hW.out rep_v
      · skip
        refine ⟨_, rfl, ?_⟩
        refine ⟨_, rfl, ?_⟩
        refine ⟨_, _, rfl, rfl, ⟨by decide, by decide⟩, ?_⟩
        refine ⟨_, _, rfl, rfl, ?_⟩
        refine ⟨_, rfl, ?_⟩
        refine ⟨_, rfl, ?_⟩
        refine ⟨_, _, rfl, rfl, ⟨by decide, by decide⟩, ?_⟩
        refine ⟨_, _, rfl, rfl, ?_⟩
        obtain ⟨KB20, hM, hKKB20⟩ := hM
        refine ⟨fun v H1 => ∃ r : Int, KB20 r ∧ Wd ms [] [] H_0 H1 ∧ Keep ms H_0 H1 ∧ rep ms H1 (D.v (V.int r)) v, ?_, ?_⟩
        · skip
          have hj22 := Keep.refl (ms := ms) (H := H_0)
          refine ⟨_, rfl, ?_⟩
          refine ⟨_, rfl, ?_⟩
          refine ite3 hM (fun hM => ?_) (fun hM => ?_)
          · skip
            refine ⟨_, rfl, ?_⟩
            exact ⟨((x_team_now - (x_model_here.1 * x_k)) % (x_n - (1 : Int))), hM, hW, hj22, rep_v⟩
          · skip
            refine ⟨_, rfl, ?_⟩
            refine ⟨_, _, rfl, rfl, ?_⟩
            refine ⟨_, rfl, ?_⟩
            refine ⟨_, _, rfl, rfl, ?_⟩
            exact ⟨((x_n - (1 : Int)) - ((x_team_now - (x_model_here.1 * x_k)) % (x_n - (1 : Int)))), hM, hW, hj22, rep_v⟩
        · skip
          rintro u25 Hj21 ⟨r23, hr, hW, hj22, h24⟩
          replace hM := hKKB20 r23 hr
          replace h_model_here := rep_keep hj22 h_model_here
          obtain rfl := of_v h24
          refine ⟨ms, _, x_model_here, ((x_n / (2 : Int)) - (1 : Int)), r23, _, rfl, hW.enter0, h_model_here, hM, fun r26 u29 H30 hM e28 h27 => ?_⟩
          replace h_model_here := rep_ext e28 h_model_here
          replace hW := hW.ret0 e28
          obtain rfl := of_v h27
          obtain ⟨KB31, hM, hKKB31⟩ := hM
          refine ⟨fun v H1 => ∃ r : Str, KB31 r ∧ Wd ms [] [] H_0 H1 ∧ Keep ms H30 H1 ∧ rep ms H1 (D.v (V.str r)) v, ?_, ?_⟩
          · skip
            have hj33 := Keep.refl (ms := ms) (H := H30)
            refine ⟨_, rfl, ?_⟩
            refine ⟨_, rfl, ?_⟩
            apply rep_dget (k := (Sum.inr ("turned" : Str) : Key)) 5 h_model_here (by decide +kernel) rfl rfl
            intro u35 h34
            obtain rfl := of_v h34
            refine ⟨_, rfl, ?_⟩
            refine ite3 hM (fun hM => ?_) (fun hM => ?_)
            · skip
              refine ⟨_, rfl, ?_⟩
              refine ⟨_, _, rfl, rfl, (by show (0 : Int) < (2 : Int); decide), ?_⟩
              refine ⟨rfl, ?_⟩
              refine ⟨rfl, ?_⟩
              refine ⟨_, rfl, ?_⟩
              refine ite3 hM (fun hM => ?_) (fun hM => ?_)
              · skip
                refine ⟨_, rfl, ?_⟩
                exact ⟨r26, hM, hW, hj33, rep_v⟩
              · skip
                refine ⟨_, rfl, ?_⟩
                refine ⟨ms, r26, _, rfl, hW.enter0, hM, fun r36 u39 H40 hM e38 h37 => ?_⟩
                replace h_model_here := rep_ext e38 h_model_here
                replace hj33 := keep_ext e38 hj33
                replace hW := hW.ret0 e38
                obtain rfl := of_v h37
                exact ⟨r36, hM, hW, hj33, rep_v⟩
            · skip
              refine ⟨rfl, ?_⟩
              refine ⟨_, rfl, ?_⟩
              refine ite3 hM (fun hM => ?_) (fun hM => ?_)
              · skip
                refine ⟨_, rfl, ?_⟩
                exact ⟨r26, hM, hW, hj33, rep_v⟩
              · skip
                refine ⟨_, rfl, ?_⟩
                refine ⟨ms, r26, _, rfl, hW.enter0, hM, fun r41 u44 H45 hM e43 h42 => ?_⟩
                replace h_model_here := rep_ext e43 h_model_here
                replace hj33 := keep_ext e43 hj33
                replace hW := hW.ret0 e43
                obtain rfl := of_v h42
                exact ⟨r41, hM, hW, hj33, rep_v⟩
          · skip
            rintro u48 Hj32 ⟨r46, hr, hW, hj33, h47⟩
            replace hM := hKKB31 r46 hr
            replace h_model_here := rep_keep hj33 h_model_here
            obtain rfl := of_v h47
            exact hQ r46 _ _ hM hW.out rep_v
def M_ends_right (x_model_here : (Int × Str × Str × Str × Str × Bool)) (x_n : Int) (x_team_now : Int) (x_stay : (Int × Int)) (KM : Bool → Prop) : Prop :=
  (M_sign x_model_here x_n x_team_now x_stay.1 fun r11 => (M_sign x_model_here x_n x_team_now x_stay.2 fun r16 => (if (!(decide (V.str r11 = V.str r16))) = true then (KM false) else (if (decide ((0 : Int) < x_stay.1)) = true then (M_sign x_model_here x_n x_team_now (x_stay.1 - (1 : Int)) fun r21 => (if (decide (V.str r21 = V.str r11)) = true then (KM false) else (if (decide (V.int x_stay.2 = V.int (x_n - (2 : Int)))) = true then (KM true) else (M_sign x_model_here x_n x_team_now (x_stay.2 + (1 : Int)) fun r26 => (KM (!(decide (V.str r26 = V.str r11)))))))) else (if (decide (V.int x_stay.2 = V.int (x_n - (2 : Int)))) = true then (KM true) else (M_sign x_model_here x_n x_team_now (x_stay.2 + (1 : Int)) fun r31 => (KM (!(decide (V.str r31 = V.str r11))))))))))
def sp_ends_right (A : Ad) : Sp := fun vs H Q _ => ∃ (ms : List Addr) (v_model_here : V) (v_stay : V) (x_model_here : (Int × Str × Str × Str × Str × Bool)) (x_n : Int) (x_team_now : Int) (x_stay : (Int × Int)) (KM : Bool → Prop), vs = [v_model_here, V.int x_n, V.int x_team_now, v_stay] ∧ Wd ms [] [] H H ∧ rep ms H (D.dct [(Sum.inr ("step" : Str) : Key), (Sum.inr ("head" : Str) : Key), (Sum.inr ("middle" : Str) : Key), (Sum.inr ("tail" : Str) : Key), (Sum.inr ("stander" : Str) : Key), (Sum.inr ("turned" : Str) : Key)] [(D.v (V.int x_model_here.1)), (D.v (V.str x_model_here.2.1)), (D.v (V.str x_model_here.2.2.1)), (D.v (V.str x_model_here.2.2.2.1)), (D.v (V.str x_model_here.2.2.2.2.1)), (D.v (V.bl x_model_here.2.2.2.2.2))]) v_model_here ∧ rep ms H (D.tup [(D.v (V.int x_stay.1)), (D.v (V.int x_stay.2))]) v_stay ∧ M_ends_right x_model_here x_n x_team_now x_stay KM ∧ ∀ (r : Bool) (u : V) (H1 : Hp), KM r → Ret [] H H1 → rep ms H1 (D.v (V.bl r)) u → Q u H1
set_option maxHeartbeats 16000000 in
theorem ok_ends_right {P : Program} {w : World} {K : PySem.W.Frag} {mg : Str → Option Value} {base : Heap} {A : Ad} (T : Txt w K mg A) : FnOk P w K mg base CX0 3 A.a_ends_right A.d_ends_right ["_law_model_here", "_law_n", "_law_team_now", "_law_stay"] (sp_ends_right A) := by
  refine T.F_ends_right.ok sc_ends_right (fun vs H Q E h => ?_) (fun cdv A_ outer s_ H_0 vs Q E hr h => ?_)
  · obtain ⟨ms, v_model_here, v_stay, x_model_here, x_n, x_team_now, x_stay, KM, rfl, _⟩ := h
    rfl
  · obtain ⟨ms, v_model_here, v_stay, x_model_here, x_n, x_team_now, x_stay, KM, rfl, hW, h_model_here, h_stay, hM, hQ⟩ := h
    unfold M_ends_right at hM
    refine ⟨_, (pss_cons (ps_asg (pv 3) (pg_tup rfl (pgs_cons (pg_name (i := 4) sc_ends_right.nd rfl (by first | exact Or.inl rfl | exact Or.inr rfl)) (pgs_cons (pg_name (i := 5) sc_ends_right.nd rfl (by first | exact Or.inl rfl | exact Or.inr rfl)) pgs_nil)))) (pss_cons (ps_set (i := 6) sc_ends_right.nd rfl (by first | exact Or.inl rfl | exact Or.inr rfl) (pe_call (ok_sign T) (hr.mono (by decide)) (by rfl) T.g_sign T.F_sign.kp T.b_sign .nil pass0 (pa_cons (pv 0) (pa_cons (pv 1) (pa_cons (pv 2) (pa_cons (pv 4) pa_nil)))))) (pss_cons (ps_if (pt_cmpR op_ne (pv 6) (pe_call (ok_sign T) (hr.mono (by decide)) (by rfl) T.g_sign T.F_sign.kp T.b_sign .nil pass0 (pa_cons (pv 0) (pa_cons (pv 1) (pa_cons (pv 2) (pa_cons (pv 5) pa_nil))))) (nomark _)) (pss_one (ps_ret pe_bl)) pss_nil) (pss_cons (ps_if (PW.pt (pw_and (pt_cmpR op_gt (pv 4) pe_int (nomark _)) (pw_and1 (pt_cmpR op_eq (pe_call (ok_sign T) (hr.mono (by decide)) (by rfl) T.g_sign T.F_sign.kp T.b_sign .nil pass0 (pa_cons (pv 0) (pa_cons (pv 1) (pa_cons (pv 2) (pa_cons (pe_op op_sub (pv 4) pe_int) pa_nil))))) (pv 6) (nomark _))))) (pss_one (ps_ret pe_bl)) pss_nil) (pss_one (ps_ret (pe_or (pe_cmpR op_eq (pv 5) (pe_op op_sub (pv 1) pe_int) (nomark _)) (pe_one (pe_cmpR op_ne (pe_call (ok_sign T) (hr.mono (by decide)) (by rfl) T.g_sign T.F_sign.kp T.b_sign .nil pass0 (pa_cons (pv 0) (pa_cons (pv 1) (pa_cons (pv 2) (pa_cons (pe_op op_add (pv 5) pe_int) pa_nil))))) (pv 6) (nomark _)))))))))), ?_⟩
    refine ⟨_, rfl, ?_⟩
    apply rep_gtup h_stay rfl
    intro vs1 hv2
    obtain ⟨u3, us4, rfl, h5, hv6⟩ := repL_uncons hv2
    obtain rfl := of_v h5
    obtain ⟨u7, us8, rfl, h9, hv10⟩ := repL_uncons hv6
    obtain rfl := of_v h9
    obtain rfl := repL_empty hv10
    refine ⟨_, _, rfl, ?_⟩
    refine ⟨_, _, rfl, ?_⟩
    refine ⟨rfl, ?_⟩
    refine ⟨_, rfl, ?_⟩
    refine ⟨_, rfl, ?_⟩
    refine ⟨_, rfl, ?_⟩
    refine ⟨_, rfl, ?_⟩
    refine ⟨ms, _, x_model_here, x_n, x_team_now, x_stay.1, _, rfl, hW.enter0, h_model_here, hM, fun r11 u14 H15 hM e13 h12 => ?_⟩
    replace h_model_here := rep_ext e13 h_model_here
    replace h_stay := rep_ext e13 h_stay
    replace hW := hW.ret0 e13
    obtain rfl := of_v h12
    refine ⟨_, rfl, ?_⟩
    refine ⟨_, rfl, ?_⟩
    refine ⟨_, rfl, ?_⟩
    refine ⟨_, rfl, ?_⟩
    refine ⟨_, rfl, ?_⟩
    refine ⟨ms, _, x_model_here, x_n, x_team_now, x_stay.2, _, rfl, hW.enter0, h_model_here, hM, fun r16 u19 H20 hM e18 h17 => ?_⟩
    replace h_model_here := rep_ext e18 h_model_here
    replace h_stay := rep_ext e18 h_stay
    replace hW := hW.ret0 e18
    obtain rfl := of_v h17
    refine ⟨rfl, ?_⟩
    refine ⟨_, rfl, ?_⟩
    refine ite3 hM (fun hM => ?_) (fun hM => ?_)
    · skip
      exact hQ false _ _ hM hW.out rep_v
    · skip
      refine ⟨_, rfl, ?_⟩
      refine ⟨_, _, rfl, rfl, ?_⟩
      refine ⟨_, rfl, ?_⟩
      refine ite3 hM (fun hM => ?_) (fun hM => ?_)
      · skip
        refine ⟨_, rfl, ?_⟩
        refine ⟨_, rfl, ?_⟩
        refine ⟨_, rfl, ?_⟩
        refine ⟨_, rfl, ?_⟩
        refine ⟨_, _, rfl, rfl, ?_⟩
        refine ⟨ms, _, x_model_here, x_n, x_team_now, (x_stay.1 - (1 : Int)), _, rfl, hW.enter0, h_model_here, hM, fun r21 u24 H25 hM e23 h22 => ?_⟩
        replace h_model_here := rep_ext e23 h_model_here
        replace h_stay := rep_ext e23 h_stay
        replace hW := hW.ret0 e23
        obtain rfl := of_v h22
        refine ⟨_, rfl, ?_⟩
        refine ⟨rfl, ?_⟩
        refine ⟨_, rfl, ?_⟩
        refine ite3 hM (fun hM => ?_) (fun hM => ?_)
        · skip
          exact hQ false _ _ hM hW.out rep_v
        · skip
          refine ⟨_, rfl, ?_⟩
          refine ⟨_, rfl, ?_⟩
          refine ⟨_, _, rfl, rfl, ?_⟩
          refine ⟨rfl, ?_⟩
          refine ⟨_, rfl, ?_⟩
          refine ite3 hM (fun hM => ?_) (fun hM => ?_)
          · skip
            exact hQ true _ _ hM hW.out rep_v
          · skip
            refine ⟨_, rfl, ?_⟩
            refine ⟨_, rfl, ?_⟩
            refine ⟨_, rfl, ?_⟩
            refine ⟨_, rfl, ?_⟩
            refine ⟨_, _, rfl, rfl, ?_⟩
            refine ⟨ms, _, x_model_here, x_n, x_team_now, (x_stay.2 + (1 : Int)), _, rfl, hW.enter0, h_model_here, hM, fun r26 u29 H30 hM e28 h27 => ?_⟩
            replace h_model_here := rep_ext e28 h_model_here
            replace h_stay := rep_ext e28 h_stay
            replace hW := hW.ret0 e28
            obtain rfl := of_v h27
            refine ⟨_, rfl, ?_⟩
            refine ⟨rfl, ?_⟩
            exact hQ (!(decide (V.str r26 = V.str r11))) _ _ hM hW.out rep_v
      · skip
        refine iteF ?_
        refine ⟨_, rfl, ?_⟩
        refine ⟨_, rfl, ?_⟩
        refine ⟨_, _, rfl, rfl, ?_⟩
        refine ⟨rfl, ?_⟩
        refine ⟨_, rfl, ?_⟩
        refine ite3 hM (fun hM => ?_) (fun hM => ?_)
        · skip
          exact hQ true _ _ hM hW.out rep_v
        · skip
          refine ⟨_, rfl, ?_⟩
          refine ⟨_, rfl, ?_⟩
          refine ⟨_, rfl, ?_⟩
          refine ⟨_, rfl, ?_⟩
          refine ⟨_, _, rfl, rfl, ?_⟩
          refine ⟨ms, _, x_model_here, x_n, x_team_now, (x_stay.2 + (1 : Int)), _, rfl, hW.enter0, h_model_here, hM, fun r31 u34 H35 hM e33 h32 => ?_⟩
          replace h_model_here := rep_ext e33 h_model_here
          replace h_stay := rep_ext e33 h_stay
          replace hW := hW.ret0 e33
          obtain rfl := of_v h32
          refine ⟨_, rfl, ?_⟩
          refine ⟨rfl, ?_⟩
          exact hQ (!(decide (V.str r31 = V.str r11))) _ _ hM hW.out rep_v
def M_check_rounds (x_size : Int) (x_rounds : Int) (KM : Unit → Prop) : Prop :=
  (M_is_count x_rounds fun r1 => (if (!r1) = true then False else (if (decide ((x_size - (1 : Int)) < x_rounds)) = true then False else (KM ()))))
def sp_check_rounds (A : Ad) : Sp := fun vs H Q _ => ∃ (ms : List Addr) (x_size : Int) (x_rounds : Int) (KM : Unit → Prop), vs = [V.int x_size, V.int x_rounds] ∧ Wd ms [] [] H H ∧ M_check_rounds x_size x_rounds KM ∧ ∀ (r : Unit) (u : V) (H1 : Hp), KM r → Ret [] H H1 → rep ms H1 (D.v V.non) u → Q u H1
set_option maxHeartbeats 16000000 in
theorem ok_check_rounds {P : Program} {w : World} {K : PySem.W.Frag} {mg : Str → Option Value} {base : Heap} {A : Ad} (T : Txt w K mg A) : FnOk P w K mg base CX0 3 A.a_check_rounds A.d_check_rounds ["size", "rounds"] (sp_check_rounds A) := by
  refine T.F_check_rounds.ok sc_check_rounds (fun vs H Q E h => ?_) (fun cdv A_ outer s_ H_0 vs Q E hr h => ?_)
  · obtain ⟨ms, x_size, x_rounds, KM, rfl, _⟩ := h
    rfl
  · obtain ⟨ms, x_size, x_rounds, KM, rfl, hW, hM, hQ⟩ := h
    unfold M_check_rounds at hM
    refine ⟨_, (pss_one (ps_if (PW.pt (pw_or (pt_not (pt_val (pe_call (ok_is_count T) (hr.mono (by decide)) (by rfl) T.g_is_count T.F_is_count.kp T.b_is_count .nil pass0 (pa_cons (pv 1) pa_nil)))) (pw_or1 (pt_cmpR op_gt (pv 1) (pe_op op_sub (pv 0) pe_int) (nomark _))))) (pss_one ps_never) pss_nil)), ?_⟩
    refine ⟨_, rfl, ?_⟩
    refine ⟨ms, x_rounds, _, rfl, hW.enter0, hM, fun r1 u4 H5 hM e3 h2 => ?_⟩
    replace hW := hW.ret0 e3
    obtain rfl := of_v h2
    refine ⟨_, rfl, ?_⟩
    refine ite3 hM (fun hM => ?_) (fun hM => ?_)
    · skip
      refine iteT ?_
      exact hM
    · skip
      refine ⟨_, rfl, ?_⟩
      refine ⟨_, rfl, ?_⟩
      refine ⟨_, _, rfl, rfl, ?_⟩
      refine ⟨_, _, rfl, rfl, ?_⟩
      refine ⟨_, rfl, ?_⟩
      refine ite3 hM (fun hM => ?_) (fun hM => ?_)
      · skip
        exact hM
      · skip
        exact hQ () _ _ hM hW.out rep_v
def M_breaks_until (x_rule : (Int × (Str × Str × Str) × Str × Bool)) (x_size : Int) (x_team : Int) (x_rounds : Int) (KM : Int → Prop) : Prop :=
  (M_check_along x_rule x_size x_team fun r1 => (M_check_rounds x_size x_rounds fun r6 => (M_row x_rule x_size x_team fun r11 => (M_likeness r11 fun r16 => (M_times_until r16 ("s" : Str) (if (x_rounds - (1 : Int)) > (0 : Int) then (x_rounds - (1 : Int)) else (0 : Int)) fun r21 => (KM r21))))))
def sp_breaks_until (A : Ad) : Sp := fun vs H Q _ => ∃ (ms : List Addr) (v_rule : V) (x_rule : (Int × (Str × Str × Str) × Str × Bool)) (x_size : Int) (x_team : Int) (x_rounds : Int) (KM : Int → Prop), vs = [v_rule, V.int x_size, V.int x_team, V.int x_rounds] ∧ Wd ms [] [] H H ∧ rep ms H (eRule A x_rule) v_rule ∧ M_breaks_until x_rule x_size x_team x_rounds KM ∧ ∀ (r : Int) (u : V) (H1 : Hp), KM r → Ret [] H H1 → rep ms H1 (D.v (V.int r)) u → Q u H1
set_option maxHeartbeats 16000000 in
theorem ok_breaks_until {P : Program} {w : World} {K : PySem.W.Frag} {mg : Str → Option Value} {base : Heap} {A : Ad} (T : Txt w K mg A) : FnOk P w K mg base CX0 11 A.a_breaks_until A.d_breaks_until ["rule", "size", "team", "rounds"] (sp_breaks_until A) := by
  refine T.F_breaks_until.ok sc_breaks_until (fun vs H Q E h => ?_) (fun cdv A_ outer s_ H_0 vs Q E hr h => ?_)
  · obtain ⟨ms, v_rule, x_rule, x_size, x_team, x_rounds, KM, rfl, _⟩ := h
    rfl
  · obtain ⟨ms, v_rule, x_rule, x_size, x_team, x_rounds, KM, rfl, hW, h_rule, hM, hQ⟩ := h
    unfold M_breaks_until at hM
    refine ⟨_, (pss_cons (ps_expr (pe_call (ok_check_along T) (hr.mono (by decide)) (by rfl) T.g_check_along T.F_check_along.kp T.b_check_along .nil pass0 (pa_cons (pv 0) (pa_cons (pv 1) (pa_cons (pv 2) pa_nil))))) (pss_cons (ps_expr (pe_call (ok_check_rounds T) (hr.mono (by decide)) (by rfl) T.g_check_rounds T.F_check_rounds.kp T.b_check_rounds .nil pass0 (pa_cons (pv 1) (pa_cons (pv 3) pa_nil)))) (pss_one (ps_ret (pe_call (ok_times_until T) (hr.mono (by decide)) (by rfl) T.g_times_until T.F_times_until.kp T.b_times_until .nil pass0 (pa_cons (pe_call (ok_likeness T) (hr.mono (by decide)) (by rfl) T.g_likeness T.F_likeness.kp T.b_likeness .nil pass0 (pa_cons (pe_call (ok_row T) (hr.mono (by decide)) (by rfl) T.g_row T.F_row.kp T.b_row .nil pass0 (pa_cons (pv 0) (pa_cons (pv 1) (pa_cons (pv 2) pa_nil)))) pa_nil)) (pa_cons (C8.pe_gc (by rfl) T.c_SAME) (pa_cons (pe_callB (call_max2 rfl) (by rfl) T.z_max (by decide +kernel) (pa_cons pe_int (pa_cons (pe_op op_sub (pv 3) pe_int) pa_nil))) pa_nil)))))))), ?_⟩
    refine ⟨_, rfl, ?_⟩
    refine ⟨_, rfl, ?_⟩
    refine ⟨_, rfl, ?_⟩
    refine ⟨ms, _, x_rule, x_size, x_team, _, rfl, hW.enter0, h_rule, hM, fun r1 u4 H5 hM e3 h2 => ?_⟩
    replace h_rule := rep_ext e3 h_rule
    replace hW := hW.ret0 e3
    obtain rfl := of_v h2
    refine ⟨_, rfl, ?_⟩
    refine ⟨_, rfl, ?_⟩
    refine ⟨ms, x_size, x_rounds, _, rfl, hW.enter0, hM, fun r6 u9 H10 hM e8 h7 => ?_⟩
    replace h_rule := rep_ext e8 h_rule
    replace hW := hW.ret0 e8
    obtain rfl := of_v h7
    refine ⟨_, rfl, ?_⟩
    refine ⟨_, rfl, ?_⟩
    refine ⟨_, rfl, ?_⟩
    refine ⟨ms, _, x_rule, x_size, x_team, _, rfl, hW.enter0, h_rule, hM, fun r11 u14 H15 hM e13 h12 => ?_⟩
    replace h_rule := rep_ext e13 h_rule
    replace hW := hW.ret0 e13
    refine ⟨ms, _, r11, _, rfl, hW.enter0, h12, hM, fun r16 u19 H20 hM e18 h17 => ?_⟩
    replace h_rule := rep_ext e18 h_rule
    replace h12 := rep_ext e18 h12
    replace hW := hW.ret0 e18
    refine ⟨_, rfl, ?_⟩
    refine ⟨_, _, rfl, rfl, ?_⟩
    refine ⟨_, _, rfl, ?_⟩
    refine ⟨ms, _, r16, ("s" : Str), (if (x_rounds - (1 : Int)) > (0 : Int) then (x_rounds - (1 : Int)) else (0 : Int)), _, rfl, hW.enter0, h17, hM, fun r21 u24 H25 hM e23 h22 => ?_⟩
    replace h_rule := rep_ext e23 h_rule
    replace h12 := rep_ext e23 h12
    replace h17 := rep_ext e23 h17
    replace hW := hW.ret0 e23
    obtain rfl := of_v h22
    exact hQ r21 _ _ hM hW.out rep_v
def M_homes_until (x_rule : (Int × (Str × Str × Str) × Str × Bool)) (x_size : Int) (x_team : Int) (x_rounds : Int) (KM : Int → Prop) : Prop :=
  (M_check_along x_rule x_size x_team fun r1 => (M_check_rounds x_size x_rounds fun r6 => (M_row x_rule x_size x_team fun r11 => (M_times_until r11 ("h" : Str) x_rounds fun r16 => (KM r16)))))
def sp_homes_until (A : Ad) : Sp := fun vs H Q _ => ∃ (ms : List Addr) (v_rule : V) (x_rule : (Int × (Str × Str × Str) × Str × Bool)) (x_size : Int) (x_team : Int) (x_rounds : Int) (KM : Int → Prop), vs = [v_rule, V.int x_size, V.int x_team, V.int x_rounds] ∧ Wd ms [] [] H H ∧ rep ms H (eRule A x_rule) v_rule ∧ M_homes_until x_rule x_size x_team x_rounds KM ∧ ∀ (r : Int) (u : V) (H1 : Hp), KM r → Ret [] H H1 → rep ms H1 (D.v (V.int r)) u → Q u H1
set_option maxHeartbeats 16000000 in
theorem ok_homes_until {P : Program} {w : World} {K : PySem.W.Frag} {mg : Str → Option Value} {base : Heap} {A : Ad} (T : Txt w K mg A) : FnOk P w K mg base CX0 11 A.a_homes_until A.d_homes_until ["rule", "size", "team", "rounds"] (sp_homes_until A) := by
  refine T.F_homes_until.ok sc_homes_until (fun vs H Q E h => ?_) (fun cdv A_ outer s_ H_0 vs Q E hr h => ?_)
  · obtain ⟨ms, v_rule, x_rule, x_size, x_team, x_rounds, KM, rfl, _⟩ := h
    rfl
  · obtain ⟨ms, v_rule, x_rule, x_size, x_team, x_rounds, KM, rfl, hW, h_rule, hM, hQ⟩ := h
    unfold M_homes_until at hM
    refine ⟨_, (pss_cons (ps_expr (pe_call (ok_check_along T) (hr.mono (by decide)) (by rfl) T.g_check_along T.F_check_along.kp T.b_check_along .nil pass0 (pa_cons (pv 0) (pa_cons (pv 1) (pa_cons (pv 2) pa_nil))))) (pss_cons (ps_expr (pe_call (ok_check_rounds T) (hr.mono (by decide)) (by rfl) T.g_check_rounds T.F_check_rounds.kp T.b_check_rounds .nil pass0 (pa_cons (pv 1) (pa_cons (pv 3) pa_nil)))) (pss_one (ps_ret (pe_call (ok_times_until T) (hr.mono (by decide)) (by rfl) T.g_times_until T.F_times_until.kp T.b_times_until .nil pass0 (pa_cons (pe_call (ok_row T) (hr.mono (by decide)) (by rfl) T.g_row T.F_row.kp T.b_row .nil pass0 (pa_cons (pv 0) (pa_cons (pv 1) (pa_cons (pv 2) pa_nil)))) (pa_cons pe_str (pa_cons (pv 3) pa_nil)))))))), ?_⟩
    refine ⟨_, rfl, ?_⟩
    refine ⟨_, rfl, ?_⟩
    refine ⟨_, rfl, ?_⟩
    refine ⟨ms, _, x_rule, x_size, x_team, _, rfl, hW.enter0, h_rule, hM, fun r1 u4 H5 hM e3 h2 => ?_⟩
    replace h_rule := rep_ext e3 h_rule
    replace hW := hW.ret0 e3
    obtain rfl := of_v h2
    refine ⟨_, rfl, ?_⟩
    refine ⟨_, rfl, ?_⟩
    refine ⟨ms, x_size, x_rounds, _, rfl, hW.enter0, hM, fun r6 u9 H10 hM e8 h7 => ?_⟩
    replace h_rule := rep_ext e8 h_rule
    replace hW := hW.ret0 e8
    obtain rfl := of_v h7
    refine ⟨_, rfl, ?_⟩
    refine ⟨_, rfl, ?_⟩
    refine ⟨_, rfl, ?_⟩
    refine ⟨ms, _, x_rule, x_size, x_team, _, rfl, hW.enter0, h_rule, hM, fun r11 u14 H15 hM e13 h12 => ?_⟩
    replace h_rule := rep_ext e13 h_rule
    replace hW := hW.ret0 e13
    refine ⟨_, rfl, ?_⟩
    refine ⟨ms, _, r11, ("h" : Str), x_rounds, _, rfl, hW.enter0, h12, hM, fun r16 u19 H20 hM e18 h17 => ?_⟩
    replace h_rule := rep_ext e18 h_rule
    replace h12 := rep_ext e18 h12
    replace hW := hW.ret0 e18
    obtain rfl := of_v h17
    exact hQ r16 _ _ hM hW.out rep_v
def M_stay_right (x_model_here : (Int × Str × Str × Str × Str × Bool)) (x_made_here : (Int × (Str × Str × Str) × Str × Bool)) (x_n : Int) (x_team_now : Int) (x_spot : Int) (KM : Bool → Prop) : Prop :=
  (M_stay_at x_made_here x_n x_team_now x_spot fun r1 => (if (!(decide (V.int (2 : Int) = V.int (2 : Int)))) = true then (KM false) else (if (decide ((0 : Int) ≤ r1.1)) = true then (if (decide (r1.1 ≤ x_spot)) = true then (if (decide (x_spot ≤ r1.2)) = true then (if (!(decide (r1.2 ≤ (x_n - (2 : Int))))) = true then (KM false) else (M_ends_right x_model_here x_n x_team_now r1 fun r16 => (if (!r16) = true then (KM false) else (M_breaks_until x_made_here x_n x_team_now (r1.2 + (1 : Int)) fun r21 => (M_breaks_until x_made_here x_n x_team_now (r1.1 + (1 : Int)) fun r26 => (if (!(decide (V.int (r21 - r26) = V.int (r1.2 - r1.1)))) = true then (KM false) else (M_homes_until x_made_here x_n x_team_now (r1.2 + (1 : Int)) fun r31 => (M_homes_until x_made_here x_n x_team_now r1.1 fun r36 => (∃ KB41 : Int → Prop, (M_sign x_model_here x_n x_team_now r1.1 fun r44 => (if (decide (V.str r44 = V.str ("h" : Str))) = true then (KB41 ((r1.2 - r1.1) + (1 : Int))) else (KB41 (0 : Int)))) ∧ ∀ r49 : Int, KB41 r49 → (if (!(decide (V.int (r31 - r36) = V.int r49))) = true then (KM false) else (M_draw (8 : Int) fun r52 => (CMulW ((r1.2 - r1.1) + (1 : Int)) r52 ∧ (([r1.1, (r1.1 + ((((r1.2 - r1.1) + (1 : Int)) * r52) / (8 : Int))), r1.2] : List Int).length < 100000 ∧ mapC (fun (x80 : Int) (k73 : (Int × Int) → Prop) => (M_stay_at x_made_here x_n x_team_now x80 fun r86 => (k73 r86))) ([r1.1, (r1.1 + ((((r1.2 - r1.1) + (1 : Int)) * r52) / (8 : Int))), r1.2] : List Int) [] fun ys96 => (((plainD (D.lst (ys96.map (fun y_ : (Int × Int) => (D.tup [(D.v (V.int y_.1)), (D.v (V.int y_.2))])))) = true ∧ plainD (D.lst (([r1, r1, r1] : List (Int × Int)).map (fun y_ : (Int × Int) => (D.tup [(D.v (V.int y_.1)), (D.v (V.int y_.2))])))) = true ∧ SeqAt.shaped (pyOf (D.lst (ys96.map (fun y_ : (Int × Int) => (D.tup [(D.v (V.int y_.1)), (D.v (V.int y_.2))]))))) = true ∧ SeqAt.shaped (pyOf (D.lst (([r1, r1, r1] : List (Int × Int)).map (fun y_ : (Int × Int) => (D.tup [(D.v (V.int y_.1)), (D.v (V.int y_.2))]))))) = true)) ∧ (if (!(PyData.eqv (pyOf (D.lst (ys96.map (fun y_ : (Int × Int) => (D.tup [(D.v (V.int y_.1)), (D.v (V.int y_.2))]))))) (pyOf (D.lst (([r1, r1, r1] : List (Int × Int)).map (fun y_ : (Int × Int) => (D.tup [(D.v (V.int y_.1)), (D.v (V.int y_.2))]))))))) = true then (KM false) else (if (decide ((0 : Int) < r1.1)) = true then (M_stay_at x_made_here x_n x_team_now (r1.1 - (1 : Int)) fun r106 => (if (!(decide (V.int r106.2 = V.int (r1.1 - (1 : Int))))) = true then (KM false) else (if (decide (V.int r1.2 = V.int (x_n - (2 : Int)))) = true then (KM true) else (M_stay_at x_made_here x_n x_team_now (r1.2 + (1 : Int)) fun r113 => (KM (decide (V.int r113.1 = V.int (r1.2 + (1 : Int))))))))) else (if (decide (V.int r1.2 = V.int (x_n - (2 : Int)))) = true then (KM true) else (M_stay_at x_made_here x_n x_team_now (r1.2 + (1 : Int)) fun r120 => (KM (decide (V.int r120.1 = V.int (r1.2 + (1 : Int))))))))))))))))))))))) else (KM false)) else (KM false)) else (KM false))))
def sp_stay_right (A : Ad) : Sp := fun vs H Q _ => ∃ (ms : List Addr) (ap : Addr) (v_model_here : V) (v_made_here : V) (x_model_here : (Int × Str × Str × Str × Str × Bool)) (x_made_here : (Int × (Str × Str × Str) × Str × Bool)) (x_n : Int) (x_team_now : Int) (x_spot : Int) (KM : Bool → Prop), vs = [.ref ap, v_model_here, v_made_here, V.int x_n, V.int x_team_now, V.int x_spot] ∧ Wd ms [(ap, none)] [] H H ∧ rep ms H (D.dct [(Sum.inr ("step" : Str) : Key), (Sum.inr ("head" : Str) : Key), (Sum.inr ("middle" : Str) : Key), (Sum.inr ("tail" : Str) : Key), (Sum.inr ("stander" : Str) : Key), (Sum.inr ("turned" : Str) : Key)] [(D.v (V.int x_model_here.1)), (D.v (V.str x_model_here.2.1)), (D.v (V.str x_model_here.2.2.1)), (D.v (V.str x_model_here.2.2.2.1)), (D.v (V.str x_model_here.2.2.2.2.1)), (D.v (V.bl x_model_here.2.2.2.2.2))]) v_model_here ∧ rep ms H (eRule A x_made_here) v_made_here ∧ M_stay_right x_model_here x_made_here x_n x_team_now x_spot KM ∧ ∀ (r : Bool) (u : V) (H1 : Hp), KM r → Ret [(ap, none)] H H1 → rep ms H1 (D.v (V.bl r)) u → Q u H1
set_option maxHeartbeats 16000000 in
theorem ok_stay_right {P : Program} {w : World} {K : PySem.W.Frag} {mg : Str → Option Value} {base : Heap} {A : Ad} (T : Txt w K mg A) : FnOk P w K mg base CX0 12 A.a_stay_right A.d_stay_right ["_law_pot_here", "_law_model_here", "_law_made_here", "_law_n", "_law_team_now", "_law_spot"] (sp_stay_right A) := by
  refine T.F_stay_right.ok sc_stay_right (fun vs H Q E h => ?_) (fun cdv A_ outer s_ H_0 vs Q E hr h => ?_)
  · obtain ⟨ms, ap, v_model_here, v_made_here, x_model_here, x_made_here, x_n, x_team_now, x_spot, KM, rfl, _⟩ := h
    rfl
  · obtain ⟨ms, ap, v_model_here, v_made_here, x_model_here, x_made_here, x_n, x_team_now, x_spot, KM, rfl, hW, h_model_here, h_made_here, hM, hQ⟩ := h
    unfold M_stay_right at hM
    refine ⟨_, (pss_cons (ps_set (i := 6) sc_stay_right.nd rfl (by first | exact Or.inl rfl | exact Or.inr rfl) (pe_call (ok_stay_at T) (hr.mono (by decide)) (by rfl) T.g_stay_at T.F_stay_at.kp T.b_stay_at .nil pass0 (pa_cons (pv 2) (pa_cons (pv 3) (pa_cons (pv 4) (pa_cons (pv 5) pa_nil)))))) (pss_cons (ps_if (PW.pt (pw_or (pt_not (pt_val (pe_callB (call_isiK (K := K) rfl) (by rfl) T.z_isinstance (by decide +kernel) (pa_cons (pv 6) (pa_cons (pe_bltn (v := .ty "tuple") (by rfl) T.z_tuple (by decide +kernel) rfl) pa_nil))))) (pw_or1 (pt_cmpR op_ne (pe_callB (call_lenK (K := K) rfl) (by rfl) T.z_len PySem.boot_len (pa_cons (pv 6) pa_nil)) pe_int (nomark _))))) (pss_one (ps_ret pe_bl)) pss_nil) (pss_cons (ps_asg (pv 6) (pg_tup rfl (pgs_cons (pg_name (i := 7) sc_stay_right.nd rfl (by first | exact Or.inl rfl | exact Or.inr rfl)) (pgs_cons (pg_name (i := 8) sc_stay_right.nd rfl (by first | exact Or.inl rfl | exact Or.inr rfl)) pgs_nil)))) (pss_cons (ps_if (PW.pt (pw_or (pt_not (pt_chN (ch_link op_le (pv 7) (ch_link op_le (pv 5) (ch_link op_le (pv 8) (ch_end op_le (pe_op op_sub (pv 3) pe_int))))) pe_int)) (pw_or1 (pt_not (pt_val (pe_call (ok_ends_right T) (hr.mono (by decide)) (by rfl) T.g_ends_right T.F_ends_right.kp T.b_ends_right .nil pass0 (pa_cons (pv 1) (pa_cons (pv 3) (pa_cons (pv 4) (pa_cons (pv 6) pa_nil)))))))))) (pss_one (ps_ret pe_bl)) pss_nil) (pss_cons (ps_set (i := 9) sc_stay_right.nd rfl (by first | exact Or.inl rfl | exact Or.inr rfl) (pe_op op_sub (pv 8) (pv 7))) (pss_cons (ps_if (pt_cmpR op_ne (pe_op op_sub (pe_call (ok_breaks_until T) (hr.mono (by decide)) (by rfl) T.g_breaks_until T.F_breaks_until.kp T.b_breaks_until .nil pass0 (pa_cons (pv 2) (pa_cons (pv 3) (pa_cons (pv 4) (pa_cons (pe_op op_add (pv 8) pe_int) pa_nil))))) (pe_call (ok_breaks_until T) (hr.mono (by decide)) (by rfl) T.g_breaks_until T.F_breaks_until.kp T.b_breaks_until .nil pass0 (pa_cons (pv 2) (pa_cons (pv 3) (pa_cons (pv 4) (pa_cons (pe_op op_add (pv 7) pe_int) pa_nil)))))) (pv 9) (nomark _)) (pss_one (ps_ret pe_bl)) pss_nil) (pss_cons (ps_set (i := 10) sc_stay_right.nd rfl (by first | exact Or.inl rfl | exact Or.inr rfl) (pe_op op_sub (pe_call (ok_homes_until T) (hr.mono (by decide)) (by rfl) T.g_homes_until T.F_homes_until.kp T.b_homes_until .nil pass0 (pa_cons (pv 2) (pa_cons (pv 3) (pa_cons (pv 4) (pa_cons (pe_op op_add (pv 8) pe_int) pa_nil))))) (pe_call (ok_homes_until T) (hr.mono (by decide)) (by rfl) T.g_homes_until T.F_homes_until.kp T.b_homes_until .nil pass0 (pa_cons (pv 2) (pa_cons (pv 3) (pa_cons (pv 4) (pa_cons (pv 7) pa_nil))))))) (pss_cons (ps_if (pt_cmpR op_ne (pv 10) (pe_up (pe_ifExp (pt_cmpR op_eq (pe_call (ok_sign T) (hr.mono (by decide)) (by rfl) T.g_sign T.F_sign.kp T.b_sign .nil pass0 (pa_cons (pv 1) (pa_cons (pv 3) (pa_cons (pv 4) (pa_cons (pv 7) pa_nil))))) pe_str (nomark _)) (pe_op op_add (pv 9) pe_int) pe_int)) (nomark _)) (pss_one (ps_ret pe_bl)) pss_nil) (pss_cons (ps_set (i := 11) sc_stay_right.nd rfl (by first | exact Or.inl rfl | exact Or.inr rfl) (pe_op op_add (pv 7) (pe_op op_fdivW (pe_op op_mulW (pe_op op_add (pv 9) pe_int) (pe_call (ok_draw T) (hr.mono (by decide)) (by rfl) T.g_draw T.F_draw.kp T.b_draw .nil pass0 (pa_cons (pv 0) (pa_cons pe_int pa_nil)))) pe_int))) (pss_cons (ps_if (pt_cmpR (op_neDK (K := K) rfl hr.units) (pe_lc (own := [("_law_k", 12)]) (g := gName 12) rfl sc_stay_right.nd (pi_list (pe_lst (pa_cons (pv 7) (pa_cons (pv 11) (pa_cons (pv 8) pa_nil))))) (blkOk_by (N := ["_law_pot_here", "_law_model_here", "_law_made_here", "_law_n", "_law_team_now", "_law_spot", "_law_stay", "_law_begin", "_law_end", "_law_long_one", "_law_homes", "_law_inner", "_law_k"]) (sc := defScope s_stay_right) (by decide +kernel)) (fun _ _ _ _ _ => pg_name (i := 12) sc_stay_right.nd rfl (by first | exact Or.inl rfl | exact Or.inr rfl)) (fun _ _ _ _ _ => pts_nil) (fun _ _ _ _ _ => (pe_call (ok_stay_at T) (hr.mono (by decide)) (by rfl) T.g_stay_at T.F_stay_at.kp T.b_stay_at .nil pass0 (pa_cons (pv 2) (pa_cons (pv 3) (pa_cons (pv 4) (pa_cons (pv 12) pa_nil))))))) (pe_lst (pa_cons (pv 6) (pa_cons (pv 6) (pa_cons (pv 6) pa_nil)))) (nomark _)) (pss_one (ps_ret pe_bl)) pss_nil) (pss_cons (ps_if (PW.pt (pw_and (pt_cmpR op_gt (pv 7) pe_int (nomark _)) (pw_and1 (pt_cmpR op_ne (pe_ix (ix_tupK (K := K) rfl) (pe_call (ok_stay_at T) (hr.mono (by decide)) (by rfl) T.g_stay_at T.F_stay_at.kp T.b_stay_at .nil pass0 (pa_cons (pv 2) (pa_cons (pv 3) (pa_cons (pv 4) (pa_cons (pe_op op_sub (pv 7) pe_int) pa_nil))))) pe_int (fun _ _ => rfl)) (pe_op op_sub (pv 7) pe_int) (nomark _))))) (pss_one (ps_ret pe_bl)) pss_nil) (pss_one (ps_ret (pe_or (pe_cmpR op_eq (pv 8) (pe_op op_sub (pv 3) pe_int) (nomark _)) (pe_one (pe_cmpR op_eq (pe_ix (ix_tupK (K := K) rfl) (pe_call (ok_stay_at T) (hr.mono (by decide)) (by rfl) T.g_stay_at T.F_stay_at.kp T.b_stay_at .nil pass0 (pa_cons (pv 2) (pa_cons (pv 3) (pa_cons (pv 4) (pa_cons (pe_op op_add (pv 8) pe_int) pa_nil))))) pe_int (fun _ _ => rfl)) (pe_op op_add (pv 8) pe_int) (nomark _))))))))))))))))), ?_⟩
    refine ⟨_, rfl, ?_⟩
    refine ⟨_, rfl, ?_⟩
    refine ⟨_, rfl, ?_⟩
    refine ⟨_, rfl, ?_⟩
    refine ⟨ms, _, x_made_here, x_n, x_team_now, x_spot, _, rfl, hW.enter0, h_made_here, hM, fun r1 u4 H5 hM e3 h2 => ?_⟩
    replace h_model_here := rep_ext e3 h_model_here
    replace h_made_here := rep_ext e3 h_made_here
    replace hW := hW.ret0 e3
    refine ⟨_, rfl, ?_⟩
    apply rep_isi1 (d := (D.tup [(D.v (V.int r1.1)), (D.v (V.int r1.2))])) (a := "tuple") (b := "tuple") (r := true) h2 (by rfl) (by rfl) (by decide +kernel)
    refine ⟨_, rfl, ?_⟩
    refine iteF ?_
    refine ⟨_, rfl, ?_⟩
    apply rep_lenT (n := 2) h2 rfl
    refine ⟨rfl, ?_⟩
    refine ⟨_, rfl, ?_⟩
    refine ite3 hM (fun hM => ?_) (fun hM => ?_)
    · skip
      exact hQ false _ _ hM hW.out rep_v
    · skip
      refine ⟨_, rfl, ?_⟩
      apply rep_gtup h2 rfl
      intro vs6 hv7
      obtain ⟨u8, us9, rfl, h10, hv11⟩ := repL_uncons hv7
      obtain rfl := of_v h10
      obtain ⟨u12, us13, rfl, h14, hv15⟩ := repL_uncons hv11
      obtain rfl := of_v h14
      obtain rfl := repL_empty hv15
      refine ⟨_, _, rfl, ?_⟩
      refine ⟨_, _, rfl, ?_⟩
      refine ⟨rfl, ?_⟩
      refine ⟨_, rfl, ?_⟩
      refine ⟨_, _, rfl, rfl, ?_⟩
      refine ⟨_, rfl, ?_⟩
      refine ite3 hM (fun hM => ?_) (fun hM => ?_)
      · skip
        refine ⟨_, rfl, ?_⟩
        refine ⟨_, _, rfl, rfl, ?_⟩
        refine ⟨_, rfl, ?_⟩
        refine ite3 hM (fun hM => ?_) (fun hM => ?_)
        · skip
          refine ⟨_, rfl, ?_⟩
          refine ⟨_, _, rfl, rfl, ?_⟩
          refine ⟨_, rfl, ?_⟩
          refine ite3 hM (fun hM => ?_) (fun hM => ?_)
          · skip
            refine ⟨_, rfl, ?_⟩
            refine ⟨_, _, rfl, rfl, ?_⟩
            refine ⟨_, _, rfl, rfl, ?_⟩
            refine ⟨_, rfl, ?_⟩
            refine ite3 hM (fun hM => ?_) (fun hM => ?_)
            · skip
              refine iteT ?_
              exact hQ false _ _ hM hW.out rep_v
            · skip
              refine ⟨_, rfl, ?_⟩
              refine ⟨_, rfl, ?_⟩
              refine ⟨_, rfl, ?_⟩
              refine ⟨_, rfl, ?_⟩
              refine ⟨ms, _, _, x_model_here, x_n, x_team_now, r1, _, rfl, hW.enter0, h_model_here, h2, hM, fun r16 u19 H20 hM e18 h17 => ?_⟩
              replace h_model_here := rep_ext e18 h_model_here
              replace h_made_here := rep_ext e18 h_made_here
              replace h2 := rep_ext e18 h2
              replace hW := hW.ret0 e18
              obtain rfl := of_v h17
              refine ⟨_, rfl, ?_⟩
              refine ite3 hM (fun hM => ?_) (fun hM => ?_)
              · skip
                exact hQ false _ _ hM hW.out rep_v
              · skip
                refine ⟨_, rfl, ?_⟩
                refine ⟨_, rfl, ?_⟩
                refine ⟨_, _, rfl, rfl, ?_⟩
                refine ⟨_, rfl, ?_⟩
                refine ⟨_, rfl, ?_⟩
                refine ⟨_, rfl, ?_⟩
                refine ⟨_, rfl, ?_⟩
                refine ⟨_, _, rfl, rfl, ?_⟩
                refine ⟨ms, _, x_made_here, x_n, x_team_now, (r1.2 + (1 : Int)), _, rfl, hW.enter0, h_made_here, hM, fun r21 u24 H25 hM e23 h22 => ?_⟩
                replace h_model_here := rep_ext e23 h_model_here
                replace h_made_here := rep_ext e23 h_made_here
                replace h2 := rep_ext e23 h2
                replace hW := hW.ret0 e23
                obtain rfl := of_v h22
                refine ⟨_, rfl, ?_⟩
                refine ⟨_, rfl, ?_⟩
                refine ⟨_, rfl, ?_⟩
                refine ⟨_, rfl, ?_⟩
                refine ⟨_, _, rfl, rfl, ?_⟩
                refine ⟨ms, _, x_made_here, x_n, x_team_now, (r1.1 + (1 : Int)), _, rfl, hW.enter0, h_made_here, hM, fun r26 u29 H30 hM e28 h27 => ?_⟩
                replace h_model_here := rep_ext e28 h_model_here
                replace h_made_here := rep_ext e28 h_made_here
                replace h2 := rep_ext e28 h2
                replace hW := hW.ret0 e28
                obtain rfl := of_v h27
                refine ⟨_, _, rfl, rfl, ?_⟩
                refine ⟨_, rfl, ?_⟩
                refine ⟨rfl, ?_⟩
                refine ⟨_, rfl, ?_⟩
                refine ite3 hM (fun hM => ?_) (fun hM => ?_)
                · skip
                  exact hQ false _ _ hM hW.out rep_v
                · skip
                  refine ⟨_, rfl, ?_⟩
                  refine ⟨_, rfl, ?_⟩
                  refine ⟨_, rfl, ?_⟩
                  refine ⟨_, rfl, ?_⟩
                  refine ⟨_, _, rfl, rfl, ?_⟩
                  refine ⟨ms, _, x_made_here, x_n, x_team_now, (r1.2 + (1 : Int)), _, rfl, hW.enter0, h_made_here, hM, fun r31 u34 H35 hM e33 h32 => ?_⟩
                  replace h_model_here := rep_ext e33 h_model_here
                  replace h_made_here := rep_ext e33 h_made_here
                  replace h2 := rep_ext e33 h2
                  replace hW := hW.ret0 e33
                  obtain rfl := of_v h32
                  refine ⟨_, rfl, ?_⟩
                  refine ⟨_, rfl, ?_⟩
                  refine ⟨_, rfl, ?_⟩
                  refine ⟨_, rfl, ?_⟩
                  refine ⟨ms, _, x_made_here, x_n, x_team_now, r1.1, _, rfl, hW.enter0, h_made_here, hM, fun r36 u39 H40 hM e38 h37 => ?_⟩
                  replace h_model_here := rep_ext e38 h_model_here
                  replace h_made_here := rep_ext e38 h_made_here
                  replace h2 := rep_ext e38 h2
                  replace hW := hW.ret0 e38
                  obtain rfl := of_v h37
                  refine ⟨_, _, rfl, rfl, ?_⟩
                  refine ⟨_, rfl, ?_⟩
                  obtain ⟨KB41, hM, hKKB41⟩ := hM
                  refine ⟨fun v H1 => ∃ r : Int, KB41 r ∧ Wd ms [(ap, none)] [] H_0 H1 ∧ Keep ms H40 H1 ∧ rep ms H1 (D.v (V.int r)) v, ?_, ?_⟩
                  · skip
                    have hj43 := Keep.refl (ms := ms) (H := H40)
                    refine ⟨_, rfl, ?_⟩
                    refine ⟨_, rfl, ?_⟩
                    refine ⟨_, rfl, ?_⟩
                    refine ⟨_, rfl, ?_⟩
                    refine ⟨ms, _, x_model_here, x_n, x_team_now, r1.1, _, rfl, hW.enter0, h_model_here, hM, fun r44 u47 H48 hM e46 h45 => ?_⟩
                    replace h_model_here := rep_ext e46 h_model_here
                    replace h_made_here := rep_ext e46 h_made_here
                    replace h2 := rep_ext e46 h2
                    replace hj43 := keep_ext e46 hj43
                    replace hW := hW.ret0 e46
                    obtain rfl := of_v h45
                    refine ⟨rfl, ?_⟩
                    refine ⟨_, rfl, ?_⟩
                    refine ite3 hM (fun hM => ?_) (fun hM => ?_)
                    · skip
                      refine ⟨_, rfl, ?_⟩
                      refine ⟨_, _, rfl, rfl, ?_⟩
                      exact ⟨((r1.2 - r1.1) + (1 : Int)), hM, hW, hj43, rep_v⟩
                    · skip
                      exact ⟨(0 : Int), hM, hW, hj43, rep_v⟩
                  · skip
                    rintro u51 Hj42 ⟨r49, hr, hW, hj43, h50⟩
                    replace hM := hKKB41 r49 hr
                    replace h_model_here := rep_keep hj43 h_model_here
                    replace h_made_here := rep_keep hj43 h_made_here
                    replace h2 := rep_keep hj43 h2
                    obtain rfl := of_v h50
                    refine ⟨rfl, ?_⟩
                    refine ⟨_, rfl, ?_⟩
                    refine ite3 hM (fun hM => ?_) (fun hM => ?_)
                    · skip
                      exact hQ false _ _ hM hW.out rep_v
                    · skip
                      refine ⟨_, rfl, ?_⟩
                      refine ⟨_, rfl, ?_⟩
                      refine ⟨_, _, rfl, rfl, ?_⟩
                      refine ⟨_, rfl, ?_⟩
                      refine ⟨ms, ap, (8 : Int), _, rfl, hW.enterP, hM, fun r52 u55 H56 hM e54 h53 => ?_⟩
                      replace h_model_here := rep_ret hW e54 h_model_here
                      replace h_made_here := rep_ret hW e54 h_made_here
                      replace h2 := rep_ret hW e54 h2
                      replace hW := hW.retP e54
                      obtain rfl := of_v h53
                      obtain ⟨g57, hM⟩ := hM
                      refine ⟨_, _, rfl, rfl, g57, ?_⟩
                      refine ⟨_, _, rfl, rfl, ⟨by decide, by decide⟩, ?_⟩
                      refine ⟨_, _, rfl, rfl, ?_⟩
                      refine ⟨_, rfl, ?_⟩
                      refine ⟨_, rfl, ?_⟩
                      refine ⟨_, rfl, ?_⟩
                      refine ⟨(by show 3 ≤ sizeLine; decide), ?_⟩
                      intro p58 n62
                      have e59 := Rx.Ext.new (H := H56) (o := (HO.lst [V.int r1.1, V.int (r1.1 + ((((r1.2 - r1.1) + (1 : Int)) * r52) / (8 : Int))), V.int r1.2])) n62
                      have hp60 : upd H56 p58 (HO.lst [V.int r1.1, V.int (r1.1 + ((((r1.2 - r1.1) + (1 : Int)) * r52) / (8 : Int))), V.int r1.2]) p58 = some (HO.lst [V.int r1.1, V.int (r1.1 + ((((r1.2 - r1.1) + (1 : Int)) * r52) / (8 : Int))), V.int r1.2]) := upd_same
                      generalize upd H56 p58 (HO.lst [V.int r1.1, V.int (r1.1 + ((((r1.2 - r1.1) + (1 : Int)) * r52) / (8 : Int))), V.int r1.2]) = H63 at e59 hp60 ⊢
                      have h61 : rep ms H63 (D.lst (([r1.1, (r1.1 + ((((r1.2 - r1.1) + (1 : Int)) * r52) / (8 : Int))), r1.2] : List Int).map (fun y_ : Int => (D.v (V.int y_))))) (.ref p58) := rep_lst_mk hW n62 e59 hp60 (repL_cons rep_v (repL_cons rep_v (repL_cons rep_v repL_nil)))
                      replace h_model_here := rep_ext e59 h_model_here
                      replace h_made_here := rep_ext e59 h_made_here
                      replace h2 := rep_ext e59 h2
                      replace hW := hW.ret0 e59
                      apply rep_iter h61
                      intro a64 xs65 _ an66 hp67 hl68
                      refine fun L69 nl70 => ?_
                      have nm84 := nm_new hW nl70
                      refine lc_listG (L := L69) (fun n_ ys_ h_ => Wd (L69 :: ms) [(ap, none)] [] H_0 h_ ∧ Keep (L69 :: ms) H63 h_ ∧ MutO (L69 :: ms) [(ap, none)] H_0 h_ L69 (D.lst (ys_.map (fun y_ : (Int × Int) => (D.tup [(D.v (V.int y_.1)), (D.v (V.int y_.2))])))) ∧ ys_.length ≤ n_) (items := ([r1.1, (r1.1 + ((((r1.2 - r1.1) + (1 : Int)) * r52) / (8 : Int))), r1.2] : List Int)) (e := (fun y_ : Int => (D.v (V.int y_)))) an66 hp67 hl68 nl70 (fun _ _ _ q_ => q_.2.1) hM ⟨wd_cell hW nl70, keep_cell nl70 Keep.refl, mo_newL (ds := []) hW nl70 repL_nil, Nat.le_refl _⟩ ?_ ?_
                      · skip
                        rintro x80 u81 n71 ys72 k73 H85 hn ⟨hW, hk74, mu75, ln76⟩ h82 hM Nx79 hN77
                        replace h_model_here := rep_keep hk74 (rep_new nl70 h_model_here)
                        replace h_made_here := rep_keep hk74 (rep_new nl70 h_made_here)
                        replace h2 := rep_keep hk74 (rep_new nl70 h2)
                        replace h61 := rep_keep hk74 (rep_new nl70 h61)
                        obtain rfl := of_v h82
                        refine ⟨rfl, ?_⟩
                        refine tyes_of ?_
                        refine ⟨_, rfl, ?_⟩
                        refine ⟨_, rfl, ?_⟩
                        refine ⟨_, rfl, ?_⟩
                        refine ⟨_, rfl, ?_⟩
                        refine ⟨(L69 :: ms), _, x_made_here, x_n, x_team_now, x80, _, rfl, hW.enter0, h_made_here, hM, fun r86 u89 H90 hM e88 h87 => ?_⟩
                        replace h_model_here := rep_ext e88 h_model_here
                        replace h_made_here := rep_ext e88 h_made_here
                        replace h2 := rep_ext e88 h2
                        replace h61 := rep_ext e88 h61
                        replace hk74 := keep_ext e88 hk74
                        replace mu75 := mo_ext e88 mu75
                        replace hW := hW.ret0 e88
                        refine mo_end mu75 hn (by rw [List.length_map]; exact ln76) fun vs91 hr92 => ?_
                        have mk94 := mo_setL mu75 (repL_snoc (e := (fun y_ : (Int × Int) => (D.tup [(D.v (V.int y_.1)), (D.v (V.int y_.2))]))) (xs := ys72) (y := r86) hr92 h87)
                        replace h_model_here := rep_put (o := .lst (vs91 ++ [u89])) mu75.im h_model_here
                        replace h_made_here := rep_put (o := .lst (vs91 ++ [u89])) mu75.im h_made_here
                        replace h2 := rep_put (o := .lst (vs91 ++ [u89])) mu75.im h2
                        replace h61 := rep_put (o := .lst (vs91 ++ [u89])) mu75.im h61
                        replace hk74 := keep_put (o := .lst (vs91 ++ [u89])) mu75.im hk74
                        replace h87 := rep_put (o := .lst (vs91 ++ [u89])) mu75.im h87
                        replace hW := wd_put (o := .lst (vs91 ++ [u89])) hW mu75
                        replace mu75 := mk94
                        generalize upd H90 L69 (.lst (vs91 ++ [u89])) = H95 at *
                        replace mu75 : MutO (L69 :: ms) [(ap, none)] H_0 H95 L69 (D.lst ((ys72 ++ [r86]).map (fun y_ : (Int × Int) => (D.tup [(D.v (V.int y_.1)), (D.v (V.int y_.2))])))) := mu75
                        clear mk94
                        exact hN77 r86 _ hM ⟨hW, hk74, mu75, by rw [List.length_append]; exact Nat.add_le_add_right ln76 1⟩
                      · skip
                        rintro n71 ys96 H97 hM ⟨hW, hk74, mu75, ln76⟩
                        replace h_model_here := rep_keep hk74 (rep_new nl70 h_model_here)
                        replace h_made_here := rep_keep hk74 (rep_new nl70 h_made_here)
                        replace h2 := rep_keep hk74 (rep_new nl70 h2)
                        replace h61 := rep_keep hk74 (rep_new nl70 h61)
                        clear hk74 ln76
                        have h98 := mo_rep_dr dr_here nm84 mu75
                        replace hW := wd_dr dr_here mu75.hp hW
                        replace h_model_here := rep_dr dr_here h_model_here
                        replace h_made_here := rep_dr dr_here h_made_here
                        replace h2 := rep_dr dr_here h2
                        replace h61 := rep_dr dr_here h61
                        clear mu75
                        refine ⟨_, rfl, ?_⟩
                        refine ⟨_, rfl, ?_⟩
                        refine ⟨_, rfl, ?_⟩
                        refine ⟨(by show 3 ≤ sizeLine; decide), ?_⟩
                        intro p99 n103
                        have e100 := Rx.Ext.new (H := H97) (o := (HO.lst [u4, u4, u4])) n103
                        have hp101 : upd H97 p99 (HO.lst [u4, u4, u4]) p99 = some (HO.lst [u4, u4, u4]) := upd_same
                        generalize upd H97 p99 (HO.lst [u4, u4, u4]) = H104 at e100 hp101 ⊢
                        have h102 : rep ms H104 (D.lst (([r1, r1, r1] : List (Int × Int)).map (fun y_ : (Int × Int) => (D.tup [(D.v (V.int y_.1)), (D.v (V.int y_.2))])))) (.ref p99) := rep_lst_mk hW n103 e100 hp101 (repL_cons h2 (repL_cons h2 (repL_cons h2 repL_nil)))
                        replace h_model_here := rep_ext e100 h_model_here
                        replace h_made_here := rep_ext e100 h_made_here
                        replace h2 := rep_ext e100 h2
                        replace h61 := rep_ext e100 h61
                        replace h98 := rep_ext e100 h98
                        replace hW := hW.ret0 e100
                        obtain ⟨g105, hM⟩ := hM
                        apply rep_neD (d := (D.lst (ys96.map (fun y_ : (Int × Int) => (D.tup [(D.v (V.int y_.1)), (D.v (V.int y_.2))]))))) (e := (D.lst (([r1, r1, r1] : List (Int × Int)).map (fun y_ : (Int × Int) => (D.tup [(D.v (V.int y_.1)), (D.v (V.int y_.2))]))))) h98 h102 g105.1 g105.2.1 g105.2.2.1 g105.2.2.2
                        refine ⟨_, rfl, ?_⟩
                        refine ite3 hM (fun hM => ?_) (fun hM => ?_)
                        · skip
                          exact hQ false _ _ hM hW.out rep_v
                        · skip
                          refine ⟨_, rfl, ?_⟩
                          refine ⟨_, _, rfl, rfl, ?_⟩
                          refine ⟨_, rfl, ?_⟩
                          refine ite3 hM (fun hM => ?_) (fun hM => ?_)
                          · skip
                            refine ⟨_, rfl, ?_⟩
                            refine ⟨_, rfl, ?_⟩
                            refine ⟨_, rfl, ?_⟩
                            refine ⟨_, rfl, ?_⟩
                            refine ⟨_, _, rfl, rfl, ?_⟩
                            refine ⟨ms, _, x_made_here, x_n, x_team_now, (r1.1 - (1 : Int)), _, rfl, hW.enter0, h_made_here, hM, fun r106 u109 H110 hM e108 h107 => ?_⟩
                            replace h_model_here := rep_ext e108 h_model_here
                            replace h_made_here := rep_ext e108 h_made_here
                            replace h2 := rep_ext e108 h2
                            replace h61 := rep_ext e108 h61
                            replace h98 := rep_ext e108 h98
                            replace h102 := rep_ext e108 h102
                            replace hW := hW.ret0 e108
                            apply rep_ixT 1 h107 rfl rfl
                            intro u112 h111
                            obtain rfl := of_v h111
                            refine ⟨_, rfl, ?_⟩
                            refine ⟨_, _, rfl, rfl, ?_⟩
                            refine ⟨rfl, ?_⟩
                            refine ⟨_, rfl, ?_⟩
                            refine ite3 hM (fun hM => ?_) (fun hM => ?_)
                            · skip
                              exact hQ false _ _ hM hW.out rep_v
                            · skip
                              refine ⟨_, rfl, ?_⟩
                              refine ⟨_, rfl, ?_⟩
                              refine ⟨_, _, rfl, rfl, ?_⟩
                              refine ⟨rfl, ?_⟩
                              refine ⟨_, rfl, ?_⟩
                              refine ite3 hM (fun hM => ?_) (fun hM => ?_)
                              · skip
                                exact hQ true _ _ hM hW.out rep_v
                              · skip
                                refine ⟨_, rfl, ?_⟩
                                refine ⟨_, rfl, ?_⟩
                                refine ⟨_, rfl, ?_⟩
                                refine ⟨_, rfl, ?_⟩
                                refine ⟨_, _, rfl, rfl, ?_⟩
                                refine ⟨ms, _, x_made_here, x_n, x_team_now, (r1.2 + (1 : Int)), _, rfl, hW.enter0, h_made_here, hM, fun r113 u116 H117 hM e115 h114 => ?_⟩
                                replace h_model_here := rep_ext e115 h_model_here
                                replace h_made_here := rep_ext e115 h_made_here
                                replace h2 := rep_ext e115 h2
                                replace h61 := rep_ext e115 h61
                                replace h98 := rep_ext e115 h98
                                replace h102 := rep_ext e115 h102
                                replace h107 := rep_ext e115 h107
                                replace hW := hW.ret0 e115
                                apply rep_ixT 0 h114 rfl rfl
                                intro u119 h118
                                obtain rfl := of_v h118
                                refine ⟨_, rfl, ?_⟩
                                refine ⟨_, _, rfl, rfl, ?_⟩
                                refine ⟨rfl, ?_⟩
                                exact hQ (decide (V.int r113.1 = V.int (r1.2 + (1 : Int)))) _ _ hM hW.out rep_v
                          · skip
                            refine iteF ?_
                            refine ⟨_, rfl, ?_⟩
                            refine ⟨_, rfl, ?_⟩
                            refine ⟨_, _, rfl, rfl, ?_⟩
                            refine ⟨rfl, ?_⟩
                            refine ⟨_, rfl, ?_⟩
                            refine ite3 hM (fun hM => ?_) (fun hM => ?_)
                            · skip
                              exact hQ true _ _ hM hW.out rep_v
                            · skip
                              refine ⟨_, rfl, ?_⟩
                              refine ⟨_, rfl, ?_⟩
                              refine ⟨_, rfl, ?_⟩
                              refine ⟨_, rfl, ?_⟩
                              refine ⟨_, _, rfl, rfl, ?_⟩
                              refine ⟨ms, _, x_made_here, x_n, x_team_now, (r1.2 + (1 : Int)), _, rfl, hW.enter0, h_made_here, hM, fun r120 u123 H124 hM e122 h121 => ?_⟩
                              replace h_model_here := rep_ext e122 h_model_here
                              replace h_made_here := rep_ext e122 h_made_here
                              replace h2 := rep_ext e122 h2
                              replace h61 := rep_ext e122 h61
                              replace h98 := rep_ext e122 h98
                              replace h102 := rep_ext e122 h102
                              replace hW := hW.ret0 e122
                              apply rep_ixT 0 h121 rfl rfl
                              intro u126 h125
                              obtain rfl := of_v h125
                              refine ⟨_, rfl, ?_⟩
                              refine ⟨_, _, rfl, rfl, ?_⟩
                              refine ⟨rfl, ?_⟩
                              exact hQ (decide (V.int r120.1 = V.int (r1.2 + (1 : Int)))) _ _ hM hW.out rep_v
          · skip
            refine ⟨_, rfl, ?_⟩
            refine iteT ?_
            refine iteT ?_
            exact hQ false _ _ hM hW.out rep_v
        · skip
          refine ⟨_, rfl, ?_⟩
          refine iteT ?_
          refine iteT ?_
          exact hQ false _ _ hM hW.out rep_v
      · skip
        refine ⟨_, rfl, ?_⟩
        refine iteT ?_
        refine iteT ?_
        exact hQ false _ _ hM hW.out rep_v
def M_right (KM : Bool → Prop) : Prop :=
  (forC (fun (x1 : Int) (s3 : Unit) (k4 : Unit → Prop) => (M_drawn  fun r17 => (M_made r17 fun r22 => (M_great r17 fun r27 => (forC (fun (x32 : Int) (s34 : Unit) (k35 : Unit → Prop) => (M_team r17 r27 fun r44 => (M_round r17 r27 r44 fun r49 => (M_pick ([(0 : Int), (r27 - (2 : Int))] : List Int) fun r60 => (forC (fun (x76 : Int) (s78 : Unit) (k79 : Unit → Prop) => (M_stay_right r17 r22 r27 r44 x76 fun r86 => (if (!r86) = true then (KM false) else (k79 ())))) ([r49, r60] : List Int) () fun s91 => (k35 ())))))) (rangeI (0 : Int) (4 : Int)) () fun s95 => (k4 ())))))) (rangeI (0 : Int) (4 : Int)) () fun s101 => (KM true))
def sp_right (A : Ad) : Sp := fun vs H Q _ => ∃ (ms : List Addr) (ap : Addr) (KM : Bool → Prop), vs = [.ref ap] ∧ Wd ms [(ap, none)] [] H H ∧ M_right  KM ∧ ∀ (r : Bool) (u : V) (H1 : Hp), KM r → Ret [(ap, none)] H H1 → rep ms H1 (D.v (V.bl r)) u → Q u H1
set_option maxHeartbeats 16000000 in
theorem ok_right {P : Program} {w : World} {K : PySem.W.Frag} {mg : Str → Option Value} {base : Heap} {A : Ad} (T : Txt w K mg A) : FnG P w K mg base 13 A.a_right A.d_right ["_law_pot_here"] (sp_right A) := by
  refine okG T.F_right sc_right (fun vs H Q E h => ?_) (fun cdv A_ outer s_ H_0 vs Q E gu hr h => ?_)
  · obtain ⟨ms, ap, KM, rfl, _⟩ := h
    rfl
  · obtain ⟨ms, ap, KM, rfl, hW, hM, hQ⟩ := h
    unfold M_right at hM
    refine ⟨_, (pss_cons (ps_for PassesOwn.never rfl (pi_rangeW1 (by rfl) T.z_range (pa_cons pe_int pa_nil)) (pg_name (i := 1) sc_right.nd rfl (by first | exact Or.inl rfl | exact Or.inr rfl)) (pss_cons (ps_set (i := 2) sc_right.nd rfl (by first | exact Or.inl rfl | exact Or.inr rfl) (pe_call (ok_drawn T) (hr.mono (by decide)) (by rfl) T.g_drawn T.F_drawn.kp T.b_drawn .nil pass0 (pa_cons (pv 0) pa_nil))) (pss_cons (ps_par (i := 3) (j := 4) (by rfl) sc_right.nd rfl rfl (by decide) rfl rfl (pa_cons (pe_call (ok_made T) (hr.mono (by decide)) (by rfl) T.g_made T.F_made.kp T.b_made .nil pass0 (pa_cons (pv 2) pa_nil)) (pa_cons (pe_call (ok_great T) (hr.mono (by decide)) (by rfl) T.g_great T.F_great.kp T.b_great .nil pass0 (pa_cons (pv 0) (pa_cons (pv 2) pa_nil))) pa_nil)) (by rfl)) (pss_one (ps_for PassesOwn.never rfl (pi_rangeW1 (by rfl) T.z_range (pa_cons pe_int pa_nil)) (pg_name (i := 5) sc_right.nd rfl (by first | exact Or.inl rfl | exact Or.inr rfl)) (pss_cons (ps_set (i := 6) sc_right.nd rfl (by first | exact Or.inl rfl | exact Or.inr rfl) (pe_call (ok_team T) (hr.mono (by decide)) (by rfl) T.g_team T.F_team.kp T.b_team .nil pass0 (pa_cons (pv 0) (pa_cons (pv 2) (pa_cons (pv 4) pa_nil))))) (pss_one (ps_for PassesOwn.never rfl (pi_list (pe_lst (pa_cons (pe_call (ok_round T) (hr.mono (by decide)) (by rfl) T.g_round T.F_round.kp T.b_round .nil pass0 (pa_cons (pv 0) (pa_cons (pv 2) (pa_cons (pv 4) (pa_cons (pv 6) pa_nil))))) (pa_cons (pe_call (ok_pick T) (hr.mono (by decide)) (by rfl) T.g_pick T.F_pick.kp T.b_pick .nil pass0 (pa_cons (pv 0) (pa_cons (pe_lst (pa_cons pe_int (pa_cons (pe_op op_sub (pv 4) pe_int) pa_nil))) pa_nil))) pa_nil)))) (pg_name (i := 7) sc_right.nd rfl (by first | exact Or.inl rfl | exact Or.inr rfl)) (pss_one (ps_if (pt_not (pt_val (pe_call (ok_stay_right T) (hr.mono (by decide)) (by rfl) T.g_stay_right T.F_stay_right.kp T.b_stay_right .nil pass0 (pa_cons (pv 0) (pa_cons (pv 2) (pa_cons (pv 3) (pa_cons (pv 4) (pa_cons (pv 6) (pa_cons (pv 7) pa_nil))))))))) (pss_one (ps_ret pe_bl)) pss_nil)))))))))) (pss_one (ps_ret pe_bl))), ?_⟩
    refine ⟨_, rfl, ?_⟩
    refine for_rangeG (S := Unit) (lo := (0 : Int)) (hi := (4 : Int)) (N := Int.toNat (4 : Int)) (fun (s : Unit) σ_ h_ => ∃ (w_0 : Option V), ∃ (w_1 : Option V), ∃ (w_2 : Option V), ∃ (w_3 : Option V), ∃ (w_4 : Option V), ∃ (w_5 : Option V), ∃ (w_6 : Option V), σ_ = [some (V.ref ap), w_0, w_1, w_2, w_3, w_4, w_5, w_6] ∧ Wd ms [(ap, none)] [] H_0 h_ ∧ Keep ms H_0 h_) () (by simp) hM ⟨_, _, _, _, _, _, _, rfl, hW, Keep.refl⟩ ?_ ?_
    · skip
      rintro x1 s3 k4 _ H16 ⟨w9, w10, w11, w12, w13, w14, w15, rfl, hW, hk5⟩ hM Nx7 hN8
      refine ⟨_, rfl, ?_⟩
      refine ⟨ms, ap, _, rfl, hW.enterP, hM, fun r17 u20 H21 hM e19 h18 => ?_⟩
      replace hk5 := keep_ret hW e19 hk5
      replace hW := hW.retP e19
      refine ⟨_, rfl, ?_⟩
      refine ⟨ms, _, r17, _, rfl, hW.enter0, h18, hM, fun r22 u25 H26 hM e24 h23 => ?_⟩
      replace hk5 := keep_ext e24 hk5
      replace h18 := rep_ext e24 h18
      replace hW := hW.ret0 e24
      refine ⟨_, rfl, ?_⟩
      refine ⟨_, rfl, ?_⟩
      refine ⟨ms, ap, _, r17, _, rfl, hW.enterP, h18, hM, fun r27 u30 H31 hM e29 h28 => ?_⟩
      replace hk5 := keep_ret hW e29 hk5
      replace h18 := rep_ret hW e29 h18
      replace h23 := rep_ret hW e29 h23
      replace hW := hW.retP e29
      obtain rfl := of_v h28
      refine ⟨_, _, rfl, ?_⟩
      refine ⟨_, rfl, ?_⟩
      refine for_rangeG (S := Unit) (lo := (0 : Int)) (hi := (4 : Int)) (N := Int.toNat (4 : Int)) (fun (s : Unit) σ_ h_ => ∃ (w_0 : Option V), ∃ (w_1 : Option V), ∃ (w_2 : Option V), σ_ = [some (V.ref ap), some (V.int x1), some u20, some u25, some (V.int r27), w_0, w_1, w_2] ∧ Wd ms [(ap, none)] [] H_0 h_ ∧ Keep ms H31 h_) () (by simp) hM ⟨_, _, _, rfl, hW, Keep.refl⟩ ?_ ?_
      · skip
        rintro x32 s34 k35 _ H43 ⟨w40, w41, w42, rfl, hW, hk36⟩ hM Nx38 hN39
        replace hk5 := Keep.trans hk5 hk36
        replace h18 := rep_keep hk36 h18
        replace h23 := rep_keep hk36 h23
        refine ⟨_, rfl, ?_⟩
        refine ⟨_, rfl, ?_⟩
        refine ⟨_, rfl, ?_⟩
        refine ⟨ms, ap, _, r17, r27, _, rfl, hW.enterP, h18, hM, fun r44 u47 H48 hM e46 h45 => ?_⟩
        replace hk5 := keep_ret hW e46 hk5
        replace h18 := rep_ret hW e46 h18
        replace h23 := rep_ret hW e46 h23
        replace hk36 := keep_ret hW e46 hk36
        replace hW := hW.retP e46
        obtain rfl := of_v h45
        refine ⟨_, rfl, ?_⟩
        refine ⟨_, rfl, ?_⟩
        refine ⟨_, rfl, ?_⟩
        refine ⟨_, rfl, ?_⟩
        refine ⟨ms, ap, _, r17, r27, r44, _, rfl, hW.enterP, h18, hM, fun r49 u52 H53 hM e51 h50 => ?_⟩
        replace hk5 := keep_ret hW e51 hk5
        replace h18 := rep_ret hW e51 h18
        replace h23 := rep_ret hW e51 h23
        replace hk36 := keep_ret hW e51 hk36
        replace hW := hW.retP e51
        obtain rfl := of_v h50
        refine ⟨_, rfl, ?_⟩
        refine ⟨_, rfl, ?_⟩
        refine ⟨_, _, rfl, rfl, ?_⟩
        refine ⟨(by show 2 ≤ sizeLine; decide), ?_⟩
        intro p54 n58
        have e55 := Rx.Ext.new (H := H53) (o := (HO.lst [V.int (0 : Int), V.int (r27 - (2 : Int))])) n58
        have hp56 : upd H53 p54 (HO.lst [V.int (0 : Int), V.int (r27 - (2 : Int))]) p54 = some (HO.lst [V.int (0 : Int), V.int (r27 - (2 : Int))]) := upd_same
        generalize upd H53 p54 (HO.lst [V.int (0 : Int), V.int (r27 - (2 : Int))]) = H59 at e55 hp56 ⊢
        have h57 : rep ms H59 (D.lst (([(0 : Int), (r27 - (2 : Int))] : List Int).map (fun y_ : Int => (D.v (V.int y_))))) (.ref p54) := rep_lst_mk hW n58 e55 hp56 (repL_cons rep_v (repL_cons rep_v repL_nil))
        replace hk5 := keep_ext e55 hk5
        replace h18 := rep_ext e55 h18
        replace h23 := rep_ext e55 h23
        replace hk36 := keep_ext e55 hk36
        replace hW := hW.ret0 e55
        refine ⟨ms, ap, _, ([(0 : Int), (r27 - (2 : Int))] : List Int), _, rfl, hW.enterP, h57, hM, fun r60 u63 H64 hM e62 h61 => ?_⟩
        replace hk5 := keep_ret hW e62 hk5
        replace h18 := rep_ret hW e62 h18
        replace h23 := rep_ret hW e62 h23
        replace hk36 := keep_ret hW e62 hk36
        replace h57 := rep_ret hW e62 h57
        replace hW := hW.retP e62
        obtain rfl := of_v h61
        refine ⟨(by show 2 ≤ sizeLine; decide), ?_⟩
        intro p65 n69
        have e66 := Rx.Ext.new (H := H64) (o := (HO.lst [V.int r49, V.int r60])) n69
        have hp67 : upd H64 p65 (HO.lst [V.int r49, V.int r60]) p65 = some (HO.lst [V.int r49, V.int r60]) := upd_same
        generalize upd H64 p65 (HO.lst [V.int r49, V.int r60]) = H70 at e66 hp67 ⊢
        have h68 : rep ms H70 (D.lst (([r49, r60] : List Int).map (fun y_ : Int => (D.v (V.int y_))))) (.ref p65) := rep_lst_mk hW n69 e66 hp67 (repL_cons rep_v (repL_cons rep_v repL_nil))
        replace hk5 := keep_ext e66 hk5
        replace h18 := rep_ext e66 h18
        replace h23 := rep_ext e66 h23
        replace hk36 := keep_ext e66 hk36
        replace h57 := rep_ext e66 h57
        replace hW := hW.ret0 e66
        apply rep_iter h68
        intro a71 xs72 _ an73 hp74 hl75
        refine for_listG (S := Unit) (items := ([r49, r60] : List Int)) (e := (fun y_ : Int => (D.v (V.int y_)))) (ms := ms) (fun (s : Unit) σ_ h_ => ∃ (w_0 : Option V), σ_ = [some (V.ref ap), some (V.int x1), some u20, some u25, some (V.int r27), some (V.int x32), some (V.int r44), w_0] ∧ Wd ms [(ap, none)] [] H_0 h_ ∧ Keep ms H70 h_) () an73 hp74 hl75 (fun _ _ _ z_ => by obtain ⟨_, _, _, q_⟩ := z_; exact q_) hM ⟨_, rfl, hW, Keep.refl⟩ ?_ ?_
        · skip
          rintro x76 u77 s78 k79 _ H85 ⟨w84, rfl, hW, hk80⟩ h81 hM Nx82 hN83
          replace hk5 := Keep.trans hk5 hk80
          replace h18 := rep_keep hk80 h18
          replace h23 := rep_keep hk80 h23
          replace hk36 := Keep.trans hk36 hk80
          replace h57 := rep_keep hk80 h57
          replace h68 := rep_keep hk80 h68
          obtain rfl := of_v h81
          refine ⟨_, rfl, ?_⟩
          refine ⟨_, rfl, ?_⟩
          refine ⟨_, rfl, ?_⟩
          refine ⟨_, rfl, ?_⟩
          refine ⟨_, rfl, ?_⟩
          refine ⟨_, rfl, ?_⟩
          refine ⟨ms, ap, _, _, r17, r22, r27, r44, x76, _, rfl, hW.enterP, h18, h23, hM, fun r86 u89 H90 hM e88 h87 => ?_⟩
          replace hk5 := keep_ret hW e88 hk5
          replace h18 := rep_ret hW e88 h18
          replace h23 := rep_ret hW e88 h23
          replace hk36 := keep_ret hW e88 hk36
          replace h57 := rep_ret hW e88 h57
          replace h68 := rep_ret hW e88 h68
          replace hk80 := keep_ret hW e88 hk80
          replace hW := hW.retP e88
          obtain rfl := of_v h87
          refine ⟨_, rfl, ?_⟩
          refine ite3 hM (fun hM => ?_) (fun hM => ?_)
          · skip
            exact hQ false _ _ hM hW.out rep_v
          · skip
            exact hN83 () _ _ hM ⟨_, rfl, hW, hk80⟩
        · skip
          rintro s91 _ H94 hM ⟨w93, rfl, hW, hk92⟩
          replace hk5 := Keep.trans hk5 hk92
          replace h18 := rep_keep hk92 h18
          replace h23 := rep_keep hk92 h23
          replace hk36 := Keep.trans hk36 hk92
          replace h57 := rep_keep hk92 h57
          replace h68 := rep_keep hk92 h68
          exact hN39 () _ _ hM ⟨_, _, _, rfl, hW, hk36⟩
      · skip
        rintro s95 _ H100 hM ⟨w97, w98, w99, rfl, hW, hk96⟩
        replace hk5 := Keep.trans hk5 hk96
        replace h18 := rep_keep hk96 h18
        replace h23 := rep_keep hk96 h23
        exact hN8 () _ _ hM ⟨_, _, _, _, _, _, _, rfl, hW, hk5⟩
    · skip
      rintro s101 _ H110 hM ⟨w103, w104, w105, w106, w107, w108, w109, rfl, hW, hk102⟩
      exact hQ true _ _ hM hW.out rep_v
/-! ### the pot of a cell, and the law -/
def sp_pot (K : PySem.W.Frag) : Sp := fun vs H Q _ => ∃ (a : Addr) (ns : List Int) (k : Int), vs = [.ref a, .int k] ∧ SqL K H a (ns.map V.int) ∧ ns.length ≤ 63 ∧ 0 ≤ k ∧ k ≤ 100 ∧
  ∀ (p : Addr) (H1 : Hp) (i j : Int), H p = none → Rx.Ext H H1 → H1 p = some (.lst [.int i, .int j]) → j.natAbs < 4294967296 → Q (.ref p) H1
theorem ok_pot {P : Program} {w : World} {K : PySem.W.Frag} {mg : Str → Option Value} {base : Heap} {A : Ad} (T : Txt w K mg A) : FnOk P w K mg base CX0 1 A.a_pot A.d_pot ["_law_script", "_law_k"] (sp_pot K) := by
  refine T.F_pot.ok sc_pot (fun vs H Q E h => ?_) (fun cdv A_ outer s_ H_0 vs Q E hr h => ?_)
  · obtain ⟨a, ns, k, rfl, _⟩ := h
    rfl
  · obtain ⟨a, ns, k, rfl, hS, hl, k0, k1, hQ⟩ := h
    refine ⟨_, pss_cons (ps_set (i := 2) sc_pot.nd rfl (.inl rfl) (pe_op op_add (pe_op op_mul pe_int (pv 1)) pe_int))
      (pss_cons (ps_if (pt_cmpR op_lt (pv 1) (pe_callB call_len (by rfl) T.z_len PySem.boot_len (pa_cons (pv 0) pa_nil)) (nomark _))
        (pss_one (ps_set (i := 2) sc_pot.nd rfl (.inl rfl) (pe_callB call_abs (by rfl) T.z_abs (by decide +kernel) (pa_cons (pe_ix ix_list (pv 0) (pv 1) (fun _ _ => rfl)) pa_nil)))) pss_nil)
      (pss_one (ps_ret (pe_lst (pa_cons (pe_callB (call_max2 rfl) (by rfl) T.z_max (by decide +kernel) (pa_cons pe_int (pa_cons (pe_op op_sub (pv 2) (pe_op op_pow pe_int pe_int)) pa_nil)))
        (pa_cons (pe_op op_add (pe_op op_mod (pe_callTy call_int1 (by rfl) T.z_int (by decide +kernel) (pa_cons (pe_op op_add (pe_op op_add (pe_op op_mul (pe_op op_mod (pe_callTy call_int1 (by rfl) T.z_int (by decide +kernel) (pa_cons (pv 2) pa_nil)) pe_int) pe_int) (pe_op op_mul pe_int (pv 1))) pe_int) pa_nil)) pe_int) pe_int) pa_nil)))))), ?_⟩
    refine ⟨_, rfl, _, _, rfl, rfl, .inl ⟨by decide, by decide⟩, _, _, rfl, rfl, ?_⟩
    refine ⟨_, rfl, _, rfl, _, ns.length, rfl, .inl ⟨_, hS, by rw [List.length_map]⟩, _, _, rfl, rfl, _, rfl, ?_⟩
    have fin : ∀ (c : Int) (p : Addr), H_0 p = none → Q (.ref p) (upd H_0 p (.lst [.int (if c - 10 ^ Int.toNat 18 > 0 then c - 10 ^ Int.toNat 18 else 0), .int ((c % 2147483563 * 40009 + 2003 * k + 31) % 2147483549 + 1)])) := fun c p np =>
      hQ p _ _ _ np (Rx.Ext.new np) upd_same (by omega)
    refine ite2 (fun c => ?_) (fun c => ?_)
    · have hk : k.toNat < ns.length := by
        have := of_decide_eq_true c
        omega
      refine ⟨_, rfl, _, rfl, a, _, k, .int (ns[k.toNat]), rfl, rfl, hS, at_of (j := k.toNat) (by omega) (by rw [List.getElem?_map, List.getElem?_eq_getElem hk]; rfl), _, rfl, ?_⟩
      refine ⟨_, rfl, _, _, rfl, rfl, ⟨by decide, by decide, by decide⟩, _, _, rfl, rfl, _, _, rfl, _, rfl, .inl ⟨_, rfl, _, _, rfl, rfl, (by show (0 : Int) < 2147483563; decide), _, _, rfl, rfl, .inr ⟨by decide, by decide⟩, _, rfl, _, _, rfl, rfl, .inl ⟨by decide, by decide⟩, _, _, rfl, rfl, _, _, rfl, rfl, .inl ⟨_, rfl, _, _, rfl, rfl, (by show (0 : Int) < 2147483549; decide), _, _, rfl, rfl, (by show 2 ≤ sizeLine; decide), fun p np => fin _ p np⟩⟩⟩
    · refine ⟨_, rfl, _, _, rfl, rfl, ⟨by decide, by decide, by decide⟩, _, _, rfl, rfl, _, _, rfl, _, rfl, .inl ⟨_, rfl, _, _, rfl, rfl, (by show (0 : Int) < 2147483563; decide), _, _, rfl, rfl, .inr ⟨by decide, by decide⟩, _, rfl, _, _, rfl, rfl, .inl ⟨by decide, by decide⟩, _, _, rfl, rfl, _, _, rfl, rfl, .inl ⟨_, rfl, _, _, rfl, rfl, (by show (0 : Int) < 2147483549; decide), _, _, rfl, rfl, (by show 2 ≤ sizeLine; decide), fun p np => fin _ p np⟩⟩⟩

open Wm
set_option exponentiation.threshold 20000
theorem draw_ok {n : Int} {k : Int → Prop} (h0 : 0 < n) (h1 : n < 1073741824) (q : ∀ d, 0 ≤ d → d < n → k d) : M_draw n k := ⟨⟨h0, h1⟩, q⟩
theorem absN (x : Int) : (if x < 0 then -x else x) = (x.natAbs : Int) := by split <;> omega
structure WV (w : Str × Str × Str) : Prop where
  h4 : (L w.1).length ≤ 4
  m1 : 1 ≤ (L w.2.1).length
  m4 : (L w.2.1).length ≤ 4
  t4 : (L w.2.2).length ≤ 4
  mh : ∀ c ∈ L w.1, c = 104 ∨ c = 97
  mm : ∀ c ∈ L w.2.1, c = 104 ∨ c = 97
  mt : ∀ c ∈ L w.2.2, c = 104 ∨ c = 97
theorem line_of {z : Str} {n : Nat} (h : (L z).length ≤ n) (hn : n ≤ 100000) : z.length ≤ sizeLine := by
  rw [len_L]
  exact Nat.le_trans h (Nat.le_trans hn (by decide))
theorem line4 {z : Str} (h : (L z).length ≤ 4) : z.length ≤ sizeLine := line_of h (by decide)
def lstW (w : Str × Str × Str) : Int := if ((L w.1).length : Int) + (L w.2.2).length > 1 then ((L w.1).length : Int) + (L w.2.2).length else 1
theorem lst_ge {w : Str × Str × Str} : ((L w.1).length : Int) + (L w.2.2).length ≤ lstW w ∧ 1 ≤ lstW w := by
  unfold lstW
  split <;> omega
theorem wleast_ok {w : Str × Str × Str} (hw : WV w) {k : Int → Prop} (q : k (lstW w)) : M_Word_least w k := by
  unfold M_Word_least
  refine ⟨line4 hw.h4, line4 hw.t4, ?_⟩
  rw [len_L, len_L]
  exact q
abbrev rw_ (w : Str × Str × Str) (n : Int) : List Nat := row (L w.1) (L w.2.1) (L w.2.2) n.toNat
theorem rw_len {w : Str × Str × Str} {n : Int} (hn : lstW w ≤ n) : (rw_ w n).length = n.toNat := row_len (by
  have := @lst_ge w
  omega)
theorem at_nat' {α : Type} {xs : List α} {i : Int} {c : α} (h0 : 0 ≤ i) (h : xs[i.toNat]? = some c) : atI xs i = some c := by
  rw [show i = ((i.toNat : Nat) : Int) by omega]
  exact atI_nat h
theorem emod_nat {x : Int} {n : Nat} (h : 0 ≤ x) : (x % (n : Int)).toNat = x.toNat % n := by
  have e : x = (x.toNat : Int) := by omega
  have : x % (n : Int) = ((x.toNat % n : Nat) : Int) := by rw [Int.natCast_emod, ← e]
  rw [this]
  rfl
theorem str1 (c : Nat) : (Str.mk #[c]).length = 1 := rfl
def standers : List Str := ["home", "away", "even", "odd"]
theorem stander_in {s : Str} (h : s ∈ standers) : ∃ c, wd_CONTRARY_STANDERS.lookup s = some c := by
  simp only [standers, List.mem_cons, List.not_mem_nil, or_false] at h
  rcases h with rfl | rfl | rfl | rfl
  · exact ⟨"away", by decide +kernel⟩
  · exact ⟨"home", by decide +kernel⟩
  · exact ⟨"odd", by decide +kernel⟩
  · exact ⟨"even", by decide +kernel⟩
theorem rinit_ok {st : Int} {w : Str × Str × Str} {s : Str} {t : Bool} (h0 : st ≠ 0) (h7 : st.natAbs ≤ 7) (hs : s ∈ standers) {k : Int × (Str × Str × Str) × Str × Bool → Prop} (q : k (st, w, s, t)) : M_Rule_init st w s t k := by
  obtain ⟨c, hc⟩ := stander_in hs
  unfold M_Rule_init M_is_integer
  have a : (if st < 0 then -st else st) ≤ 7 := by split <;> omega
  show if (!(!false)) = true then False else _
  rw [if_neg (show ¬ (!(!false)) = true by decide), if_neg (show ¬ decide (V.int st = V.int 0) = true by simpa using h0), if_neg (show ¬ decide (7 < (if st < 0 then -st else st)) = true by simpa using a)]
  exact ⟨c, hc, q⟩
abbrev RT := Int × (Str × Str × Str) × Str × Bool
structure RV (x : RT) : Prop where
  s0 : x.1 ≠ 0
  s7 : x.1.natAbs ≤ 7
  w : WV x.2.1
  st : x.2.2.1 ∈ standers
theorem pick_ok {xs : List Int} (h0 : 0 < xs.length) (h1 : xs.length < 1073741824) {k : Int → Prop} (q : ∀ x ∈ xs, k x) : M_pick xs k := by
  unfold M_pick
  exact draw_ok (by omega) (by omega) fun d d0 d1 => ⟨d0, by omega, fun x hx => q x (by rw [hx]; exact List.getElem_mem _)⟩
theorem pickS_ok {xs : List Str} (h0 : 0 < xs.length) (h1 : xs.length < 1073741824) {k : Str → Prop} (q : ∀ x ∈ xs, k x) : M_pick_pls xs k := by
  unfold M_pick_pls
  exact draw_ok (by omega) (by omega) fun d d0 d1 => ⟨d0, by omega, fun x hx => q x (by rw [hx]; exact List.getElem_mem _)⟩
theorem eqI' {a b : Int} : (decide (V.int a = V.int b) = true) = (a = b) := by
  rw [eqI, decide_eq_true_eq]
theorem checkp_ok {w : Str × Str × Str} (hw : WV w) {n : Int} (hn : lstW w ≤ n) {k : Unit → Prop} (q : k ()) : M_check_places w n k := by
  unfold M_check_places M_is_integer
  show (if (!!false) = true then _ else _)
  rw [if_neg (by decide)]
  refine wleast_ok hw ?_
  rw [if_neg (by simpa using hn)]
  exact q
theorem mark_ok {w : Str × Str × Str} (hw : WV w) {n i : Int} (hn : lstW w ≤ n) (h1 : 1 ≤ i) (h2 : i ≤ n) {k : Str → Prop} (q : ∀ c, (rw_ w n)[(i - 1).toNat]? = some c → k (Str.mk #[c])) : M_Word_mark w n i k := by
  have g := @lst_ge w
  have m1 := hw.m1
  unfold M_Word_mark
  refine checkp_ok hw hn ?_
  show M_is_integer _ _
  unfold M_is_integer
  show (if (!!false) = true then _ else _)
  rw [if_neg (by decide), if_neg (by simpa using h1), if_neg (by simpa using h2)]
  refine ⟨line4 hw.h4, ?_⟩
  have hlen := rw_len hn
  obtain ⟨c, hc⟩ : ∃ c, (rw_ w n)[(i - 1).toNat]? = some c := ⟨_, List.getElem?_eq_getElem (by omega)⟩
  have q' := q c hc
  by_cases b1 : i ≤ (L w.1).length
  · rw [if_pos (by rw [len_L]; simpa using b1)]
    refine ⟨line4 hw.h4, c, at_nat' (by omega) ?_, q'⟩
    rw [row_head (by omega)] at hc
    exact hc
  · rw [if_neg (by rw [len_L]; simpa using b1)]
    refine ⟨line4 hw.t4, ?_⟩
    by_cases b2 : n - (L w.2.2).length < i
    · rw [if_pos (by rw [len_L]; simpa using b2)]
      refine ⟨line4 hw.t4, c, at_nat' (by rw [len_L]; omega) ?_, q'⟩
      rw [row_tail (by omega) (by omega)] at hc
      rw [← hc]
      congr 1
      rw [len_L]
      omega
    · rw [if_neg (by rw [len_L]; simpa using b2)]
      refine ⟨line4 hw.h4, line4 hw.m4, (by rw [len_L]; omega), line4 hw.m4, c, at_nat' (Int.emod_nonneg _ (by rw [len_L]; omega)) ?_, q'⟩
      rw [row_mid (by omega) (by omega) (by omega) (by omega)] at hc
      rw [← hc]
      congr 1
      rw [len_L, len_L, emod_nat (by omega)]
      congr 1
      omega
def S (l : List Nat) : Str := ⟨l.toArray⟩
theorem L_S (l : List Nat) : L (S l) = l := L_mk l
abbrev Mk (l : List Nat) : Prop := ∀ c ∈ l, c = 104 ∨ c = 97
def ctrc (c : Nat) : Nat := if c = 104 then 97 else 104
theorem ctrc_mk (c : Nat) : ctrc c = 104 ∨ ctrc c = 97 := by
  unfold ctrc
  split
  · exact .inr rfl
  · exact .inl rfl
theorem ones_sum (l : List Nat) (f : Nat → Nat) : ((l.map fun c => (Str.mk #[f c])).map (·.length)).sum = l.length := by
  induction l with
  | nil => rfl
  | cons c l ih =>
    rw [List.map_cons, List.map_cons, List.sum_cons, ih, str1, List.length_cons]
    omega
theorem ones_join (l : List Nat) (f : Nat → Nat) : L (Txt.join ("" : Str) (l.map fun c => (Str.mk #[f c]))) = l.map f := by
  rw [join_L]
  induction l with
  | nil => rfl
  | cons c l ih =>
    rw [List.map_cons, List.map_cons, List.flatten_cons, L_one, ih]
    rfl
theorem cmarks_ok {z : Str} (h4 : (L z).length ≤ 1000) (hm : Mk (L z)) {k : Str → Prop} (q : k (S ((L z).map ctrc))) : M_contrary_marks z k := by
  unfold M_contrary_marks
  refine ⟨by rw [signs_len]; have : z.cps.size = (L z).length := len_L z; omega, ?_⟩
  refine mapC_ok (fun x : Str => Str.mk #[ctrc (x.cps.getD 0 0)]) (fun x hx k' hk => ?_) ?_
  · obtain ⟨c, hc, rfl⟩ := List.mem_map.mp hx
    rcases hm c hc with rfl | rfl
    · exact ⟨("a" : Str), by decide +kernel, by rw [a_mk]; exact hk⟩
    · exact ⟨("h" : Str), by decide +kernel, by rw [h_mk]; exact hk⟩
  · rw [List.nil_append]
    have e : (Rx.signs z).map (fun x : Str => Str.mk #[ctrc (x.cps.getD 0 0)]) = (L z).map fun c => Str.mk #[ctrc c] := by
      unfold Rx.signs
      rw [List.map_map]
      rfl
    rw [e]
    refine ⟨?_, ?_⟩
    · rw [ones_sum, List.length_map, len_L, L_empty]
      simp only [List.length_nil]
      omega
    · rw [show Txt.join ("" : Str) ((L z).map fun c => Str.mk #[ctrc c]) = S ((L z).map ctrc) from L_ext (by rw [ones_join, L_S])]
      exact q
def seatF (st n t d : Int) : Int := if (t - st * d) % (n - 1) < n / 2 then (t - st * d) % (n - 1) else (t - st * d) % (n - 1) - (n - 1)
def standF (s : Str) (d : Int) : Nat := if s = "home" then 104 else if s = "away" then 97 else if s = "even" then (if d % 2 = 0 then 104 else 97) else (if d % 2 = 0 then 97 else 104)
def tIf (r : RT) (d : Int) (c : Nat) : Nat := if r.2.2.2 = true ∧ d % 2 = 1 then ctrc c else c
def wmF (w : Str × Str × Str) (p k : Int) : Nat := (rw_ w p).getD (k - 1).toNat 0
def atF (r : RT) (n at_ d : Int) : Nat := if at_ = 0 then ctrc (standF r.2.2.1 d) else if 0 < at_ then tIf r d (wmF r.2.1 (n / 2 - 1) (at_.natAbs : Int)) else ctrc (tIf r d (wmF r.2.1 (n / 2 - 1) (at_.natAbs : Int)))
def M1 (c : Nat) : Prop := c = 104 ∨ c = 97
theorem standF_m (s : Str) (d : Int) : M1 (standF s d) := by
  unfold standF M1
  split
  · exact .inl rfl
  · split
    · exact .inr rfl
    · split
      · split
        · exact .inl rfl
        · exact .inr rfl
      · split
        · exact .inr rfl
        · exact .inl rfl
theorem tIf_m {r : RT} {d : Int} {c : Nat} (h : M1 c) : M1 (tIf r d c) := by
  unfold tIf
  split
  · exact ctrc_mk c
  · exact h
theorem row_mk {w : Str × Str × Str} (hw : WV w) {p : Int} : ∀ c ∈ rw_ w p, M1 c := by
  intro c hc
  unfold rw_ row at hc
  rcases List.mem_append.mp hc with h | h
  · rcases List.mem_append.mp h with h | h
    · exact hw.mh c h
    · unfold cyc at h
      obtain ⟨j, _, e⟩ := List.mem_map.mp h
      have m1 := hw.m1
      have := Nat.mod_lt j (show 0 < (L w.2.1).length by omega)
      rw [List.getD_eq_getElem?_getD, List.getElem?_eq_getElem this] at e
      rw [← e]
      exact hw.mm _ (List.getElem_mem _)
  · exact hw.mt c h
theorem wmF_at {w : Str × Str × Str} {p k : Int} (hp : lstW w ≤ p) (h1 : 1 ≤ k) (h2 : k ≤ p) : (rw_ w p)[(k - 1).toNat]? = some (wmF w p k) := by
  have hl := rw_len hp
  unfold wmF
  rw [List.getD_eq_getElem?_getD, List.getElem?_eq_getElem (by omega)]
  rfl
theorem wmF_m {w : Str × Str × Str} (hw : WV w) {p k : Int} (hp : lstW w ≤ p) (h1 : 1 ≤ k) (h2 : k ≤ p) : M1 (wmF w p k) := row_mk hw _ (List.mem_of_getElem? (wmF_at hp h1 h2))
theorem wmark_ok {w : Str × Str × Str} (hw : WV w) {p k : Int} (hp : lstW w ≤ p) (h1 : 1 ≤ k) (h2 : k ≤ p) {K : Str → Prop} (q : K (S [wmF w p k])) : M_Word_mark w p k K := by
  refine mark_ok hw hp h1 h2 fun c hc => ?_
  rw [wmF_at hp h1 h2] at hc
  rw [← Option.some.inj hc]
  exact q
theorem cm1_ok {c : Nat} (h : M1 c) {K : Str → Prop} (q : K (S [ctrc c])) : M_contrary_marks (S [c]) K := by
  refine cmarks_ok (by rw [L_S]; simp) (by
    rw [L_S]
    intro x hx
    rw [List.mem_singleton.mp hx]
    exact h) ?_
  rw [L_S]
  exact q
theorem stander_ok {r : RT} (h : r.2.2.1 ∈ standers) {d : Int} {K : Str → Prop} (q : K (S [standF r.2.2.1 d])) : M_stander_mark r d K := by
  unfold M_stander_mark M_Rule_stander
  have d2 : d % 2 = 0 ∨ d % 2 = 1 := by omega
  simp only [standers, List.mem_cons, List.not_mem_nil, or_false] at h
  rcases h with e | e | e | e <;> rcases d2 with f | f <;> rw [e, f] <;> rw [e] at q
  · exact ⟨"hh", by decide +kernel, by decide +kernel, 104, by decide +kernel, by
      rw [show standF "home" d = 104 by unfold standF; rw [if_pos rfl]] at q
      exact q⟩
  · exact ⟨"hh", by decide +kernel, by decide +kernel, 104, by decide +kernel, by
      rw [show standF "home" d = 104 by unfold standF; rw [if_pos rfl]] at q
      exact q⟩
  · exact ⟨"aa", by decide +kernel, by decide +kernel, 97, by decide +kernel, by
      rw [show standF "away" d = 97 by unfold standF; rw [if_neg (by decide +kernel), if_pos rfl]] at q
      exact q⟩
  · exact ⟨"aa", by decide +kernel, by decide +kernel, 97, by decide +kernel, by
      rw [show standF "away" d = 97 by unfold standF; rw [if_neg (by decide +kernel), if_pos rfl]] at q
      exact q⟩
  · exact ⟨"ha", by decide +kernel, by decide +kernel, 104, by decide +kernel, by
      rw [show standF "even" d = 104 by unfold standF; rw [if_neg (by decide +kernel), if_neg (by decide +kernel), if_pos rfl, if_pos f]] at q
      exact q⟩
  · exact ⟨"ha", by decide +kernel, by decide +kernel, 97, by decide +kernel, by
      rw [show standF "even" d = 97 by unfold standF; rw [if_neg (by decide +kernel), if_neg (by decide +kernel), if_pos rfl, if_neg (by omega)]] at q
      exact q⟩
  · exact ⟨"ah", by decide +kernel, by decide +kernel, 97, by decide +kernel, by
      rw [show standF "odd" d = 97 by unfold standF; rw [if_neg (by decide +kernel), if_neg (by decide +kernel), if_neg (by decide +kernel), if_pos f]] at q
      exact q⟩
  · exact ⟨"ah", by decide +kernel, by decide +kernel, 104, by decide +kernel, by
      rw [show standF "odd" d = 104 by unfold standF; rw [if_neg (by decide +kernel), if_neg (by decide +kernel), if_neg (by decide +kernel), if_neg (by omega)]] at q
      exact q⟩
theorem turnedif_ok {r : RT} {d : Int} {c : Nat} (h : M1 c) {K : Str → Prop} (q : K (S [tIf r d c])) : M_turned_if r d (S [c]) K := by
  unfold M_turned_if M_Rule_turned
  refine ⟨fun v => v = S [tIf r d c], ?_, fun v hv => by rw [hv]; exact q⟩
  unfold tIf
  show if r.2.2.2 = true then _ else _
  by_cases a : r.2.2.2 = true
  · rw [if_pos a]
    by_cases b : d % 2 = 1
    · rw [if_pos (by rw [eqI']; exact b), if_pos ⟨a, b⟩]
      exact cm1_ok h rfl
    · rw [if_neg (by rw [eqI']; exact b), if_neg (fun z => b z.2)]
  · rw [if_neg a, if_neg (fun z => a z.1)]
theorem markat_ok {r : RT} (h : RV r) {n at_ d : Int} (hn : 2 * lstW r.2.1 + 2 ≤ n) (ev : n % 2 = 0) (b1 : at_ ≤ n / 2 - 1) (b2 : -(n / 2 - 1) ≤ at_) {K : Str → Prop} (q : K (S [atF r n at_ d])) : M_mark_at r n at_ d K := by
  unfold M_mark_at
  unfold atF at q
  by_cases z : at_ = 0
  · rw [if_pos (by rw [eqI']; exact z)]
    rw [if_pos z] at q
    exact stander_ok h.st (cm1_ok (standF_m _ _) q)
  · rw [if_neg (by rw [eqI']; exact z)]
    rw [if_neg z] at q
    unfold M_Rule_word
    rw [absN]
    have m := wmF_m h.w (p := n / 2 - 1) (k := (at_.natAbs : Int)) (by omega) (by omega) (by omega)
    refine wmark_ok h.w (by omega) (by omega) (by omega) (turnedif_ok m ?_)
    by_cases p : 0 < at_
    · rw [if_pos p] at q
      refine ⟨fun v => v = S [tIf r d (wmF r.2.1 (n / 2 - 1) (at_.natAbs : Int))], ?_, fun v hv => by rw [hv]; exact q⟩
      rw [if_pos (decide_eq_true p)]
    · rw [if_neg p] at q
      refine ⟨fun v => v = S [ctrc (tIf r d (wmF r.2.1 (n / 2 - 1) (at_.natAbs : Int)))], ?_, fun v hv => by rw [hv]; exact q⟩
      rw [if_neg (by simpa using p)]
      exact cm1_ok (tIf_m m) rfl
theorem seatF_b {st n t d : Int} (h4 : 4 ≤ n) (ev : n % 2 = 0) : -(n / 2 - 1) ≤ seatF st n t d ∧ seatF st n t d ≤ n / 2 - 1 := by
  have a := Int.emod_nonneg (t - st * d) (show n - 1 ≠ 0 by omega)
  have b := Int.emod_lt_of_pos (t - st * d) (show 0 < n - 1 by omega)
  unfold seatF
  split <;> omega
theorem cmul7 {st d n : Int} (s7 : st.natAbs ≤ 14) (hd : 0 ≤ d) (hd2 : d < n) (bg : n.natAbs < 2 ^ 899) : CMulW st d := wide_mul (a := 4) (b := 899) (by omega) (by omega) (by decide) (by decide) (by decide)
theorem seatU_ok {r : RT} (h : RV r) {n t d : Int} (h4 : 4 ≤ n) (bg : n.natAbs < 2 ^ 899) (d0 : 0 ≤ d) (d1 : d < n - 1) {k : Int → Prop} (q : k (seatF r.1 n t d)) : M_seat r n t d k := by
  unfold M_seat M_Rule_step
  have s7 := h.s7
  refine ⟨cmul7 (by omega) d0 (by omega) bg, by omega, fun v => v = seatF r.1 n t d, ?_, fun v hv => by rw [hv]; exact q⟩
  unfold seatF
  by_cases c : (t - r.1 * d) % (n - 1) < n / 2
  · rw [if_pos (decide_eq_true c), if_pos c]
  · rw [if_neg (by simpa using c), if_neg c]
theorem word_ok {w : Str × Str × Str} (hw : WV w) {k : Str × Str × Str → Prop} (q : k w) : M_Word_init w.1 w.2.1 w.2.2 k := by
  have one : ∀ {z : Str} {k : Unit → Prop}, (L z).length ≤ 4 → (∀ c ∈ L z, c = 104 ∨ c = 97) → k () → M_check_part z k := fun {z k} h4 hm q => by
    unfold M_check_part M_is_marks
    refine ⟨line4 h4, ?_⟩
    rw [count_h, count_a, marks_all _ hm, len_L]
    show (if (!decide (V.int _ = V.int _)) = true then _ else _)
    rw [if_neg (by simp)]
    refine ⟨line4 h4, ?_⟩
    rw [if_neg (by simp only [decide_eq_true_eq]; omega)]
    exact q
  unfold M_Word_init
  refine one hw.h4 hw.mh (one hw.m4 hw.mm ?_)
  rw [if_neg]
  · exact one hw.t4 hw.mt q
  · rw [eqS, L_empty]
    have := hw.m1
    simp
    intro z
    rw [show L w.2.1 = [] from by rw [L, z]] at this
    simp at this
structure RS (r : RT) (n : Int) : Prop where
  v : RV r
  hn : 2 * lstW r.2.1 + 2 ≤ n
  ev : n % 2 = 0
  n30 : n ≤ 30
theorem RS.n4 {r : RT} {n : Int} (h : RS r n) : 4 ≤ n := by
  have := @lst_ge r.2.1
  have := h.hn
  omega
theorem RS.bg {r : RT} {n : Int} (h : RS r n) : n.natAbs < 2 ^ 899 := Nat.lt_of_lt_of_le (show n.natAbs < 2 ^ 10 by
  have := h.n4
  have := h.n30
  omega) (Nat.pow_le_pow_right (by decide) (by decide))
def ex (p : Int × Str) : List Nat := cyc (L p.2) p.1.toNat
def exs (ps : List (Int × Str)) : List Nat := (ps.map ex).flatten
structure POk (p : Int × Str) : Prop where
  l1 : 1 ≤ p.1
  lb : p.1.natAbs < 2 ^ 900
  z1 : 1 ≤ (L p.2).length
  z12 : (L p.2).length ≤ 12
theorem exs_cons (p : Int × Str) (ps : List (Int × Str)) : exs (p :: ps) = ex p ++ exs ps := rfl
theorem exs_app (a b : List (Int × Str)) : exs (a ++ b) = exs a ++ exs b := by
  unfold exs
  rw [List.map_append, List.flatten_append]
theorem ex_len (p : Int × Str) : (ex p).length = p.1.toNat := cyc_len _ _
theorem count_c (x : Str) (c : Nat) : Txt.count x (Str.mk #[c]) = cn c (L x) := by rw [count_cnt, cnt_cn]
theorem s_mk : ("s" : Str) = ⟨#[115]⟩ := by decide +kernel
theorem o_mk : ("o" : Str) = ⟨#[111]⟩ := by decide +kernel
theorem tsaid_ok {z : Str} {c : Nat} (z1 : 1 ≤ (L z).length) (z12 : (L z).length ≤ 12) {k : Int} (k0 : 0 ≤ k) (kb : k.natAbs < 2 ^ 900) {K : Int → Prop} (q : K (cn c (cyc (L z) k.toNat))) : M_times_said z (Str.mk #[c]) k K := by
  obtain ⟨n, rfl⟩ : ∃ n : Nat, k = (n : Int) := ⟨k.toNat, by omega⟩
  have hl : (z.length : Int) = (((L z).length : Nat) : Int) := by rw [len_L]
  have hr : (n : Int) % (((L z).length : Nat) : Int) = ((n % (L z).length : Nat) : Int) := by omega
  have hd : (n : Int) / (((L z).length : Nat) : Int) = ((n / (L z).length : Nat) : Int) := by omega
  have hc : Txt.count (cutS z none (some ((n : Int) % (z.length : Int)))) (Str.mk #[c]) = cn c ((L z).take (n % (L z).length)) := by
    rw [count_c, hl, hr, cut_take _ (by omega)]
    rfl
  unfold M_times_said
  rw [hc, count_c, hl, hd]
  have c1 := cn_pos c (L z)
  have c2 := cn_le c (L z)
  have dl : n / (L z).length ≤ n := Nat.div_le_self _ _
  refine ⟨line_of z12 (by decide), ⟨by omega, by omega⟩, wide_mul (a := 900) (b := 4) (Nat.lt_of_le_of_lt dl (by simpa using kb)) (by omega) (by decide) (by decide) (by decide), line_of z12 (by decide), ?_⟩
  rw [Int.toNat_natCast, cyn_eq c (by omega)] at q
  exact q
theorem forC_hd {α S : Type} {body : α → S → (S → Prop) → Prop} {x : α} {xs : List α} {s : S} {k : S → Prop} (q : body x s fun s' => forC body xs s' k) : forC body (x :: xs) s k := q
theorem until_go {c : Nat} {m : Str} (hm : m = Str.mk #[c]) {K : Int → Prop} : ∀ {ps : List (Int × Str)} {acc left : Int}, (∀ p ∈ ps, POk p) → 0 ≤ left → left.natAbs < 2 ^ 900 → K (acc + cn c ((exs ps).take left.toNat)) →
    forC (fun (x6 : (Int × Str)) (s8 : Int × Int) (k9 : (Int × Int) → Prop) => (M_times_said x6.2 m (if x6.1 < s8.2 then x6.1 else s8.2) fun r28 => (k9 ((s8.1 + r28), (s8.2 - (if x6.1 < s8.2 then x6.1 else s8.2)))))) ps (acc, left) fun s33 => (K s33.1)
  | [], acc, left, _, _, _, q => by
    have e : exs [] = [] := rfl
    rw [e, List.take_nil, cn_nil, Int.add_zero] at q
    exact q
  | p :: ps, acc, left, h, l0, lb, q => by
    have hp := h p List.mem_cons_self
    have l1 := hp.l1
    generalize hh : (if p.1 < left then p.1 else left) = here
    have b0 : 0 ≤ here ∧ here ≤ left ∧ here ≤ p.1 ∧ (here = p.1 ∨ here = left) := by
      rw [← hh]
      split <;> omega
    refine forC_hd ?_
    show M_times_said p.2 m (if p.1 < left then p.1 else left) (fun r28 => forC _ ps (acc + r28, left - (if p.1 < left then p.1 else left)) _)
    subst hm
    rw [hh]
    refine tsaid_ok hp.z1 hp.z12 b0.1 (by omega) ?_
    refine until_go rfl (fun x hx => h x (List.mem_cons_of_mem _ hx)) (by omega) (by omega) ?_
    rw [exs_cons, List.take_append, cn_app, ex_len] at q
    have e1 : (ex p).take left.toNat = cyc (L p.2) here.toNat := by
      unfold ex
      rcases b0.2.2.2 with e | e
      · rw [List.take_of_length_le (by rw [cyc_len]; omega), e]
      · rw [cyc_take _ (by omega), e]
    rw [e1, show left.toNat - p.1.toNat = (left - here).toNat by omega] at q
    rw [Int.add_assoc]
    exact q
theorem until_ok {ps : List (Int × Str)} {m : Str} {c : Nat} (hm : m = Str.mk #[c]) (h : ∀ p ∈ ps, POk p) {k : Int} (k0 : 0 ≤ k) (kb : k.natAbs < 2 ^ 900) {K : Int → Prop} (q : K (cn c ((exs ps).take k.toNat))) : M_times_until ps m k K :=
  until_go hm h k0 kb (by rw [Int.zero_add]; exact q)
def pos (c : Nat) : List Nat → List Nat
  | [] => []
  | x :: l => (if x = c then [0] else []) ++ (pos c l).map (· + 1)
theorem pos_len (c : Nat) : ∀ l : List Nat, ((pos c l).length : Int) = cn c l
  | [] => rfl
  | x :: l => by
    rw [cn_cons, ← pos_len c l]
    show (((if x = c then [0] else []) ++ (pos c l).map (· + 1)).length : Int) = _
    by_cases e : x = c
    · rw [if_pos e, if_pos e, List.length_append, List.length_map]
      simp
    · rw [if_neg e, if_neg e, List.length_append, List.length_map]
      simp
theorem pos_app (c : Nat) : ∀ a b : List Nat, pos c (a ++ b) = pos c a ++ (pos c b).map (· + a.length)
  | [], b => by
    simp [pos]
  | x :: a, b => by
    rw [List.cons_append]
    show _ ++ (pos c (a ++ b)).map (· + 1) = (_ ++ (pos c a).map (· + 1)) ++ _
    have e : ((pos c b).map (· + a.length)).map (· + 1) = (pos c b).map (· + (x :: a).length) := by
      rw [List.map_map]
      exact List.map_congr_left fun i _ => by
        show i + a.length + 1 = i + (a.length + 1)
        omega
    rw [pos_app c a b, List.map_append, e, List.append_assoc]
theorem pos_take (c : Nat) {l : List Nat} {j i : Nat} (h : (i : Int) < cn c (l.take j)) : (pos c (l.take j))[i]? = (pos c l)[i]? := by
  conv => rhs; rw [← List.take_append_drop j l]
  rw [pos_app, List.getElem?_append_left]
  have := pos_len c (l.take j)
  omega
theorem pos_cyc (c : Nat) {z : List Nat} (hz : 0 < z.length) {len i : Nat} (h : (i : Int) < cn c (cyc z len)) (hc : 0 < (pos c z).length) :
    (pos c (cyc z len))[i]? = ((pos c z)[i % (pos c z).length]?).map (· + (i / (pos c z).length) * z.length) := by
  have big : (cyc z len) = (cyc z ((i / (pos c z).length + 1) * z.length + len)).take len := (cyc_take z (by omega)).symm
  rw [big] at h ⊢
  rw [pos_take c h]
  have two : cyc z ((i / (pos c z).length + 1) * z.length) = (cyc z ((i / (pos c z).length + 1) * z.length + len)).take ((i / (pos c z).length + 1) * z.length) := (cyc_take z (by omega)).symm
  have pl := pos_len c z
  have ml : ((pos c (cyc z (i / (pos c z).length * z.length))).length : Int) = ((i / (pos c z).length : Nat) : Int) * ((pos c z).length : Int) := by
    rw [pos_len, cyn_eq c hz, cyn_mul c hz, pl]
  have ml' : (pos c (cyc z (i / (pos c z).length * z.length))).length = i / (pos c z).length * (pos c z).length := by
    have : (((i / (pos c z).length * (pos c z).length : Nat)) : Int) = ((i / (pos c z).length : Nat) : Int) * ((pos c z).length : Int) := Int.natCast_mul _ _
    omega
  have dm := Nat.div_add_mod i (pos c z).length
  have md := Nat.mod_lt i hc
  have im : i = i / (pos c z).length * (pos c z).length + i % (pos c z).length := by
    rw [Nat.mul_comm]
    exact dm.symm
  have lt : (i : Int) < cn c ((cyc z ((i / (pos c z).length + 1) * z.length + len)).take ((i / (pos c z).length + 1) * z.length)) := by
    rw [← two, ← cyc_end hz, cn_app, ← pos_len, ← pos_len, ml']
    omega
  rw [← pos_take c lt, ← two, ← cyc_end hz, pos_app, List.getElem?_append_right (by rw [ml']; omega), List.getElem?_map, ml', cyc_len]
  congr 2
  omega
theorem rangeI_cons {a b : Int} (h : a < b) : rangeI a b = a :: rangeI (a + 1) b := by
  apply List.ext_getElem?
  intro i
  cases i with
  | zero =>
    rw [rangeI_get (by omega)]
    simp
  | succ i =>
    rw [List.getElem?_cons_succ]
    by_cases hi : i < (b - (a + 1)).toNat
    · rw [rangeI_get (by omega), rangeI_get hi]
      congr 1
      omega
    · rw [List.getElem?_eq_none (by rw [rangeI_len]; omega), List.getElem?_eq_none (by rw [rangeI_len]; omega)]
theorem rangeI_nil {a b : Int} (h : b ≤ a) : rangeI a b = [] := List.length_eq_zero_iff.mp (by rw [rangeI_len]; omega)
theorem eqS1 {x c : Nat} : (decide (V.str (Str.mk #[x]) = V.str (Str.mk #[c])) = true) = (x = c) := by
  simp
theorem fil_pos (c : Nat) : ∀ (l : List Nat) (a : Int), ((rangeI a (a + (l.length : Nat))).zip (l.map fun x => Str.mk #[x])).filterMap (fun x : Int × Str => if decide (V.str x.2 = V.str (Str.mk #[c])) = true then some x.1 else none) = (pos c l).map fun i => a + ((i : Nat) : Int)
  | [], a => by simp [pos]
  | x :: l, a => by
    rw [List.length_cons, rangeI_cons (by omega), List.map_cons, List.zip_cons_cons]
    have ih := fil_pos c l (a + 1)
    have e : a + ((l.length + 1 : Nat) : Int) = a + 1 + (l.length : Nat) := by omega
    rw [e]
    have m2 : ((pos c l).map (· + 1)).map (fun i => a + ((i : Nat) : Int)) = (pos c l).map fun i => a + 1 + ((i : Nat) : Int) := by
      rw [List.map_map]
      exact List.map_congr_left fun i _ => by
        show a + ((i + 1 : Nat) : Int) = _
        omega
    show _ = ((if x = c then [0] else []) ++ (pos c l).map (· + 1)).map _
    rw [List.map_append, m2, ← ih]
    by_cases h : x = c
    · rw [if_pos h, List.filterMap_cons_some (b := a) (by show (if _ then _ else _) = _; rw [if_pos (by rw [eqS1]; exact h)])]
      simp
    · rw [if_neg h, List.filterMap_cons_none (by show (if _ then _ else _) = _; rw [if_neg (by rw [eqS1]; exact h)])]
      simp
theorem sg_len (z : Str) : (Rx.signs z).length = (L z).length := by
  unfold Rx.signs
  rw [List.length_map]
def lkb (l : List Nat) (b : Option Nat) : List Nat := (List.range l.length).map fun i => if (l ++ b.toList)[i + 1]? = l[i]? then 115 else 111
theorem lkb_len (l : List Nat) (b : Option Nat) : (lkb l b).length = l.length := by simp [lkb]
theorem lkb_get {l : List Nat} {b : Option Nat} {i : Nat} (h : i < l.length) : (lkb l b)[i]? = some (if (l ++ b.toList)[i + 1]? = l[i]? then 115 else 111) := by
  simp [lkb, List.getElem?_map, List.getElem?_range h]
theorem lkb_app (a c : List Nat) (b : Option Nat) : lkb (a ++ c) b = lkb a ((c ++ b.toList).head?) ++ lkb c b := by
  apply List.ext_getElem?
  intro i
  by_cases h : i < (a ++ c).length
  · have h' := h
    rw [List.length_append] at h
    by_cases h1 : i < a.length
    · have hr : (lkb a ((c ++ b.toList).head?) ++ lkb c b)[i]? = some (if (a ++ ((c ++ b.toList).head?).toList)[i + 1]? = a[i]? then 115 else 111) := by rw [List.getElem?_append_left (by rw [lkb_len]; exact h1), lkb_get h1]
      have hl : (a ++ c)[i]? = a[i]? := List.getElem?_append_left h1
      have e : ((a ++ c) ++ b.toList)[i + 1]? = (a ++ ((c ++ b.toList).head?).toList)[i + 1]? := by
        rw [List.append_assoc]
        by_cases h2 : i + 1 < a.length
        · rw [List.getElem?_append_left h2, List.getElem?_append_left h2]
        · have q : ∀ x : List Nat, (a ++ x)[i + 1]? = x[0]? := fun x => by
            rw [List.getElem?_append_right (by omega), show i + 1 - a.length = 0 by omega]
          rw [q, q]
          cases (c ++ b.toList) <;> rfl
      rw [lkb_get h', hr, hl, e]
    · have hr : (lkb a ((c ++ b.toList).head?) ++ lkb c b)[i]? = some (if (c ++ b.toList)[i - a.length + 1]? = c[i - a.length]? then 115 else 111) := by rw [List.getElem?_append_right (by rw [lkb_len]; omega), lkb_len, lkb_get (by omega)]
      have hl : (a ++ c)[i]? = c[i - a.length]? := List.getElem?_append_right (by omega)
      have e : ((a ++ c) ++ b.toList)[i + 1]? = (c ++ b.toList)[i - a.length + 1]? := by
        rw [List.append_assoc, List.getElem?_append_right (by omega)]
        congr 1
        omega
      rw [lkb_get h', hr, hl, e]
  · rw [List.getElem?_eq_none (by rw [lkb_len]; omega), List.getElem?_eq_none (by rw [List.length_append, lkb_len, lkb_len, ← List.length_append]; omega)]
def cmpN (z o : List Nat) : List Nat := (List.range z.length).map fun i => if o[i]? = z[i]? then 115 else 111
theorem cmpN_len (z o : List Nat) : (cmpN z o).length = z.length := by simp [cmpN]
theorem cmpN_get {z o : List Nat} {i : Nat} (h : i < z.length) : (cmpN z o)[i]? = some (if o[i]? = z[i]? then 115 else 111) := by
  simp [cmpN, List.getElem?_map, List.getElem?_range h]
theorem cut_1 (o : Str) (i : Nat) : L (cutS o (some (i : Int)) (some ((i : Int) + 1))) = ((L o).drop i).take 1 := by
  unfold cutS
  rw [show (i : Int) + 1 = ((i + 1 : Nat) : Int) by omega, L_mk, HT.sIx_nat, HT.sIx_nat, len_L]
  by_cases h : i < (L o).length
  · rw [Nat.min_eq_left (by omega), Nat.min_eq_left (by omega)]
    congr 1
    omega
  · rw [Nat.min_eq_right (show (L o).length ≤ i by omega), List.drop_of_length_le (Nat.le_refl _), List.take_nil, List.drop_of_length_le (show (L o).length ≤ i by omega), List.take_nil]
theorem one_eq {l : List Nat} {i c : Nat} : (l.drop i).take 1 = [c] ↔ l[i]? = some c := by
  by_cases h : i < l.length
  · rw [List.drop_eq_getElem_cons h, List.take_succ_cons, List.take_zero, List.getElem?_eq_getElem h]
    simp
  · rw [List.drop_of_length_le (by omega), List.getElem?_eq_none (by omega)]
    simp
theorem zip_rg (z : Str) : ((rangeI 0 ((Rx.signs z).length : Int)).zip (Rx.signs z)) = (List.range (L z).length).map fun i => (((i : Nat) : Int), Str.mk #[(L z).getD i 0]) := by
  apply List.ext_getElem?
  intro i
  have sl := sg_len z
  by_cases h : i < (L z).length
  · rw [List.getElem?_map, List.getElem?_range h]
    have hs : (Rx.signs z)[i]? = some (Str.mk #[(L z).getD i 0]) := by
      unfold Rx.signs
      rw [List.getElem?_map, List.getElem?_eq_getElem h, List.getD_eq_getElem?_getD, List.getElem?_eq_getElem h]
      rfl
    have hr : (rangeI 0 ((Rx.signs z).length : Int))[i]? = some ((i : Nat) : Int) := by rw [rangeI_get (by omega), Int.zero_add]
    exact List.getElem?_zip_eq_some.mpr ⟨hr, hs⟩
  · rw [List.getElem?_eq_none (by rw [List.length_zip, rangeI_len]; omega), List.getElem?_eq_none (by rw [List.length_map, List.length_range]; omega)]
theorem comp_ok {a o : Str} (la : (L a).length ≤ 12) (lo : (L o).length ≤ 100) {K : Str → Prop} (q : K (S (cmpN (L a) (L o)))) : M_compared a o K := by
  unfold M_compared
  rw [zip_rg]
  refine ⟨by rw [List.length_map, List.length_range]; omega, ?_⟩
  refine mapC_ok (fun x : Int × Str => Str.mk #[if (L o)[x.1.toNat]? = (L a)[x.1.toNat]? then 115 else 111]) (fun x hx k' hk => ?_) ?_
  · obtain ⟨i, hi, rfl⟩ := List.mem_map.mp hx
    have hi := List.mem_range.mp hi
    refine ⟨fun s => s = Str.mk #[if (L o)[((i : Int)).toNat]? = (L a)[((i : Int)).toNat]? then 115 else 111], ⟨line_of lo (by decide), ?_⟩, fun r hr => by rw [hr]; exact hk⟩
    have ga : (L a)[i]? = some ((L a).getD i 0) := by
      rw [List.getD_eq_getElem?_getD, List.getElem?_eq_getElem hi]
      rfl
    rw [Int.toNat_natCast]
    show if decide (V.str (cutS o (some (i : Int)) (some ((i : Int) + 1))) = V.str (Str.mk #[(L a).getD i 0])) = true then _ else _
    have iff : (V.str (cutS o (some (i : Int)) (some ((i : Int) + 1))) = V.str (Str.mk #[(L a).getD i 0])) ↔ (L o)[i]? = (L a)[i]? := by
      rw [ga, ← one_eq, ← cut_1]
      constructor
      · intro h
        rw [V.str.inj h, L_one]
      · intro h
        exact congrArg V.str (L_ext (by rw [h, L_one]))
    by_cases c : (L o)[i]? = (L a)[i]?
    · rw [if_pos (decide_eq_true (iff.mpr c)), if_pos c]
      exact s_mk
    · rw [if_neg (by rw [decide_eq_true_eq]; exact fun z => c (iff.mp z)), if_neg c]
      exact o_mk
  · rw [List.nil_append]
    have e : ((List.range (L a).length).map fun i => (((i : Nat) : Int), Str.mk #[(L a).getD i 0])).map (fun x : Int × Str => Str.mk #[if (L o)[x.1.toNat]? = (L a)[x.1.toNat]? then 115 else 111]) = (List.range (L a).length).map fun i => Str.mk #[(fun i => if (L o)[i]? = (L a)[i]? then 115 else 111) i] := by
      rw [List.map_map]
      refine List.map_congr_left fun i _ => ?_
      show Str.mk #[if (L o)[((i : Int)).toNat]? = (L a)[((i : Int)).toNat]? then 115 else 111] = _
      rw [Int.toNat_natCast]
    rw [e]
    refine ⟨?_, ?_⟩
    · rw [ones_sum, List.length_range, len_L, L_empty]
      simp only [List.length_nil]
      omega
    · rw [show Txt.join ("" : Str) ((List.range (L a).length).map fun i => Str.mk #[(fun i => if (L o)[i]? = (L a)[i]? then 115 else 111) i]) = S (cmpN (L a) (L o)) from L_ext (by rw [ones_join, L_S]; rfl)]
      exact q
theorem lkb_ex {z : List Nat} (hz : 0 < z.length) {n : Nat} (hn : 1 ≤ n) (b : Option Nat) : lkb (cyc z n) b = cyc (cmpN z (z.drop 1 ++ [z.getD 0 0])) (n - 1) ++ cmpN [z.getD ((n - 1) % z.length) 0] b.toList := by
  have cl : (cmpN z (z.drop 1 ++ [z.getD 0 0])).length = z.length := cmpN_len _ _
  apply List.ext_getElem?
  intro i
  by_cases h : i < n
  · rw [lkb_get (by rw [cyc_len]; exact h), cyc_get' hz h]
    by_cases h1 : i < n - 1
    · have hr : (cyc (cmpN z (z.drop 1 ++ [z.getD 0 0])) (n - 1) ++ cmpN [z.getD ((n - 1) % z.length) 0] b.toList)[i]? = some (if (z.drop 1 ++ [z.getD 0 0])[i % z.length]? = z[i % z.length]? then 115 else 111) := by rw [List.getElem?_append_left (by rw [cyc_len]; exact h1), cyc_get' (by omega) h1, cl, cmpN_get (Nat.mod_lt _ hz)]
      have hl : (cyc z n ++ b.toList)[i + 1]? = z[(i + 1) % z.length]? := by rw [List.getElem?_append_left (by rw [cyc_len]; omega), cyc_get' hz (by omega)]
      have m := Nat.mod_lt i hz
      have e : (z.drop 1 ++ [z.getD 0 0])[i % z.length]? = z[(i + 1) % z.length]? := by
        by_cases h2 : i % z.length + 1 < z.length
        · rw [List.getElem?_append_left (by rw [List.length_drop]; omega), List.getElem?_drop, Nat.add_mod, Nat.mod_eq_of_lt (a := i % z.length + 1 % z.length)]
          · by_cases z1 : z.length = 1
            · omega
            · rw [Nat.mod_eq_of_lt (show 1 < z.length by omega), Nat.add_comm]
          · by_cases z1 : z.length = 1
            · omega
            · rw [Nat.mod_eq_of_lt (show 1 < z.length by omega)]
              exact h2
        · have e0 : (i + 1) % z.length = 0 := by
            have d := Nat.div_add_mod i z.length
            have : i + 1 = z.length * (i / z.length + 1) := by
              rw [Nat.mul_add, Nat.mul_one]
              omega
            rw [this, Nat.mul_mod_right]
          rw [e0, List.getElem?_append_right (by rw [List.length_drop]; omega), List.length_drop, show i % z.length - (z.length - 1) = 0 by omega, List.getD_eq_getElem?_getD, List.getElem?_eq_getElem hz]
          rfl
      rw [hr, hl, e]
    · have ei : i = n - 1 := by omega
      have hr : (cyc (cmpN z (z.drop 1 ++ [z.getD 0 0])) (n - 1) ++ cmpN [z.getD ((n - 1) % z.length) 0] b.toList)[i]? = some (if b.toList[0]? = [z.getD ((n - 1) % z.length) 0][0]? then 115 else 111) := by rw [List.getElem?_append_right (by rw [cyc_len]; omega), cyc_len, show i - (n - 1) = 0 by omega, cmpN_get (by simp)]
      have hl : (cyc z n ++ b.toList)[i + 1]? = b.toList[0]? := by rw [List.getElem?_append_right (by rw [cyc_len]; omega), cyc_len, show i + 1 - n = 0 by omega]
      have m := Nat.mod_lt (n - 1) hz
      have e : z[i % z.length]? = some (z.getD ((n - 1) % z.length) 0) := by
        rw [ei, List.getD_eq_getElem?_getD, List.getElem?_eq_getElem m]
        rfl
      rw [hr, hl, e]
      rfl
  · rw [List.getElem?_eq_none (by rw [lkb_len, cyc_len]; omega), List.getElem?_eq_none (by rw [List.length_append, cyc_len, cmpN_len]; simp; omega)]
abbrev lkBody : ((Int × Str) × Str) → List (Int × Str) → (List (Int × Str) → Prop) → Prop := (fun (x82 : ((Int × Str) × Str)) (s84 : (List (Int × Str))) (k85 : ((List (Int × Str))) → Prop) => (if (decide ((1 : Int) < x82.1.1)) = true then (x82.1.2.length ≤ sizeLine ∧ (x82.1.2.length ≤ sizeLine ∧ ∃ c119, atI x82.1.2.cps.toList (0 : Int) = some c119 ∧ (((cutS x82.1.2 (some (1 : Int)) none).length + (Str.mk #[c119]).length ≤ sizeLine) ∧ (M_compared x82.1.2 ((cutS x82.1.2 (some (1 : Int)) none) ++ (Str.mk #[c119])) fun r121 => (s84.length < 16777216 ∧ (x82.1.2.length ≤ sizeLine ∧ (0 < (x82.1.2.length : Int) ∧ (x82.1.2.length ≤ sizeLine ∧ ∃ c142, atI x82.1.2.cps.toList ((x82.1.1 - (1 : Int)) % (x82.1.2.length : Int)) = some c142 ∧ (M_compared (Str.mk #[c142]) x82.2 fun r143 => ((s84 ++ [((x82.1.1 - (1 : Int)), r121)]).length < 16777216 ∧ (k85 (((s84 ++ [((x82.1.1 - (1 : Int)), r121)]) ++ [((1 : Int), r143)]))))))))))))) else (x82.1.2.length ≤ sizeLine ∧ (0 < (x82.1.2.length : Int) ∧ (x82.1.2.length ≤ sizeLine ∧ ∃ c164, atI x82.1.2.cps.toList ((x82.1.1 - (1 : Int)) % (x82.1.2.length : Int)) = some c164 ∧ (M_compared (Str.mk #[c164]) x82.2 fun r165 => (s84.length < 16777216 ∧ (k85 ((s84 ++ [((1 : Int), r165)]))))))))))
def fst1 (p : Int × Str) : Str := Str.mk #[(L p.2).getD 0 0]
def nxs : List (Int × Str) → List Str
  | [] => []
  | [_] => [("" : Str)]
  | _ :: p' :: ps => fst1 p' :: nxs (p' :: ps)
theorem nxs_eq : ∀ {ps : List (Int × Str)}, ps ≠ [] → (ps.drop 1).map fst1 ++ [("" : Str)] = nxs ps
  | [], h => absurd rfl h
  | [_], _ => rfl
  | p :: p' :: ps, _ => by
    have ih := nxs_eq (ps := p' :: ps) (by simp)
    show fst1 p' :: (((p' :: ps).drop 1).map fst1 ++ [("" : Str)]) = fst1 p' :: nxs (p' :: ps)
    rw [ih]
theorem at_i {xs : List Nat} {i : Int} (h0 : 0 ≤ i) (hi : i.toNat < xs.length) : atI xs i = some (xs.getD i.toNat 0) := by
  obtain ⟨n, rfl⟩ : ∃ n : Nat, i = (n : Int) := ⟨i.toNat, by omega⟩
  refine atI_nat ?_
  rw [Int.toNat_natCast] at hi ⊢
  rw [List.getD_eq_getElem?_getD, List.getElem?_eq_getElem hi]
  rfl
theorem cut_tail {z : Str} (h : 1 ≤ (L z).length) : L (cutS z (some (1 : Int)) none) = (L z).drop 1 := by
  unfold cutS
  rw [show (1 : Int) = ((1 : Nat) : Int) from rfl, L_mk, HT.sIx_nat, HT.sIx_none, len_L, Nat.min_eq_left h, List.take_of_length_le (by rw [List.length_drop]; exact Nat.le_refl _)]
theorem cutM_tail {α : Type} {l : List α} (h : 1 ≤ l.length) : cutM l (some (1 : Int)) none = l.drop 1 := by
  unfold cutM
  rw [show (1 : Int) = ((1 : Nat) : Int) from rfl, HT.sIx_nat, HT.sIx_none, Nat.min_eq_left h, List.take_of_length_le (by rw [List.length_drop]; exact Nat.le_refl _)]
theorem ex_one (l : List Nat) (h : l.length = 1) : ex ((1 : Int), S l) = l := by
  show cyc (L (S l)) 1 = l
  rw [L_S]
  have := cyc_full (m := l)
  rw [h] at this
  exact this
theorem lk_step {p : Int × Str} {b : Option Nat} (hp : POk p) {nb : Str} (hb : L nb = b.toList) {s : List (Int × Str)} (hs : s.length < 16777000) {k : List (Int × Str) → Prop} (q : ∀ t : List (Int × Str), (∀ x ∈ t, POk x) → exs t = lkb (ex p) b → t.length ≤ 2 → k (s ++ t)) : lkBody (p, nb) s k := by
  obtain ⟨n, z⟩ := p
  have z1 : 1 ≤ (L z).length := hp.z1
  have z12 : (L z).length ≤ 12 := hp.z12
  have l1 : 1 ≤ n := hp.l1
  have lb : n.natAbs < 2 ^ 900 := hp.lb
  have hl : (z.length : Int) = (((L z).length : Nat) : Int) := by rw [len_L]
  have lnb : (L nb).length ≤ 100 := by
    rw [hb]
    cases b <;> simp
  have m0 : 0 ≤ (n - 1) % (z.length : Int) := Int.emod_nonneg _ (by omega)
  have m1 : (n - 1) % (z.length : Int) < (z.length : Int) := Int.emod_lt_of_pos _ (by omega)
  have mt : ((n - 1) % (z.length : Int)).toNat = (n.toNat - 1) % (L z).length := by
    rw [hl]
    obtain ⟨a, rfl⟩ : ∃ a : Nat, n = (a : Int) + 1 := ⟨(n - 1).toNat, by omega⟩
    have e : (a : Int) + 1 - 1 = (a : Int) := by omega
    have e2 : ((a : Int) + 1).toNat - 1 = a := by omega
    rw [e, e2]
    omega
  have last := at_i (xs := L z) m0 (by omega)
  rw [mt] at last
  have lx := lkb_ex (z := L z) (by omega) (n := n.toNat) (by omega) b
  have one : (cmpN [(L z).getD ((n.toNat - 1) % (L z).length) 0] b.toList).length = 1 := by rw [cmpN_len]; rfl
  have pk1 : POk ((1 : Int), S (cmpN [(L z).getD ((n.toNat - 1) % (L z).length) 0] b.toList)) := ⟨by show (1 : Int) ≤ 1; decide, by show (1 : Int).natAbs < _; exact Nat.one_lt_two_pow (by decide), by show 1 ≤ (L (S _)).length; rw [L_S, one]; exact Nat.le_refl _, by show (L (S _)).length ≤ 12; rw [L_S, one]; decide⟩
  have x1 := ex_one _ one
  by_cases c : 1 < n
  · show if decide ((1 : Int) < n) = true then _ else _
    rw [if_pos (decide_eq_true c)]
    have e0 : atI (L z) (0 : Int) = some ((L z).getD 0 0) := at_i (xs := L z) (i := 0) (by decide) (by show 0 < _; omega)
    dsimp only
    have ecut : L (cutS z (some (1 : Int)) none ++ Str.mk #[(L z).getD 0 0]) = (L z).drop 1 ++ [(L z).getD 0 0] := by rw [L_app, cut_tail z1, L_one]
    have lcut : (cutS z (some (1 : Int)) none).length ≤ 12 := by
      rw [len_L, cut_tail z1, List.length_drop]
      omega
    have sl := sizeLine_eq
    refine ⟨line_of z12 (by decide), line_of z12 (by decide), _, e0, by rw [str1]; omega, comp_ok z12 (by rw [ecut, List.length_append, List.length_drop]; show (L z).length - 1 + 1 ≤ 100; omega) ?_⟩
    refine ⟨by omega, line_of z12 (by decide), by omega, line_of z12 (by decide), _, last, comp_ok (by rw [L_one]; show 1 ≤ 12; decide) lnb ⟨by rw [List.length_append]; simp; omega, ?_⟩⟩
    rw [ecut, L_one, hb, List.append_assoc]
    refine q [_, _] (fun x hx => ?_) ?_ (by simp)
    · simp only [List.mem_cons, List.not_mem_nil, or_false] at hx
      rcases hx with rfl | rfl
      · refine ⟨by show 1 ≤ n - 1; omega, by show (n - 1).natAbs < _; omega, ?_, ?_⟩
        · show 1 ≤ (L (S _)).length
          rw [L_S, cmpN_len]
          exact z1
        · show (L (S _)).length ≤ 12
          rw [L_S, cmpN_len]
          exact z12
      · exact pk1
    · show ex (n - 1, S (cmpN (L z) ((L z).drop 1 ++ [(L z).getD 0 0]))) ++ (ex _ ++ []) = lkb (cyc (L z) n.toNat) b
      rw [x1, List.append_nil, lx]
      show cyc (L (S _)) (n - 1).toNat ++ _ = _
      rw [L_S, show (n - 1).toNat = n.toNat - 1 by omega]
  · show if decide ((1 : Int) < n) = true then _ else _
    rw [if_neg (by simpa using c)]
    dsimp only
    refine ⟨line_of z12 (by decide), by omega, line_of z12 (by decide), _, last, comp_ok (by rw [L_one]; show 1 ≤ 12; decide) lnb ⟨by omega, ?_⟩⟩
    rw [L_one, hb]
    refine q [_] (fun x hx => by rw [List.mem_singleton.mp hx]; exact pk1) ?_ (by simp)
    show ex _ ++ [] = lkb (cyc (L z) n.toNat) b
    rw [x1, List.append_nil, lx, show n.toNat - 1 = 0 by omega]
    rfl
theorem exs_head {p : Int × Str} {ps : List (Int × Str)} (hp : POk p) : (exs (p :: ps) ++ (none : Option Nat).toList).head? = some ((L p.2).getD 0 0) := by
  have h1 := hp.l1
  have hz := hp.z1
  rw [exs_cons]
  have e : (ex p)[0]? = some ((L p.2).getD 0 0) := by
    unfold ex
    rw [cyc_get _ (by omega), Nat.zero_mod]
  have l : 0 < (ex p).length := by
    rw [ex_len]
    omega
  rw [List.head?_eq_getElem?, List.append_assoc, List.getElem?_append_left l]
  exact e
theorem like_go : ∀ {ps s : List (Int × Str)} {K : List (Int × Str) → Prop}, (∀ p ∈ ps, POk p) → s.length + 2 * ps.length < 16777000 → (∀ t : List (Int × Str), (∀ x ∈ t, POk x) → exs t = lkb (exs ps) none → t.length ≤ 2 * ps.length → K (s ++ t)) → forC lkBody (List.zip ps (nxs ps)) s K
  | [], s, K, _, _, q => by
    have := q [] (fun x hx => absurd hx List.not_mem_nil) rfl (by simp)
    rw [List.append_nil] at this
    exact this
  | [p], s, K, h, hl, q => by
    simp only [List.length_cons, List.length_nil] at hl
    refine forC_hd (lk_step (b := none) (h p List.mem_cons_self) L_empty (by omega) fun t ht et lt => ?_)
    refine q t ht ?_ (by simp; omega)
    rw [et, exs_cons]
    show _ = lkb (ex p ++ []) none
    rw [List.append_nil]
  | p :: p' :: ps, s, K, h, hl, q => by
    have hp' := h p' (List.mem_cons_of_mem _ List.mem_cons_self)
    simp only [List.length_cons] at hl
    refine forC_hd (lk_step (b := some ((L p'.2).getD 0 0)) (h p List.mem_cons_self) (L_one _) (by omega) fun t ht et lt => ?_)
    refine like_go (ps := p' :: ps) (fun x hx => h x (List.mem_cons_of_mem _ hx)) (by rw [List.length_append, List.length_cons]; omega) fun t2 ht2 et2 lt2 => ?_
    rw [List.append_assoc]
    refine q (t ++ t2) (fun x hx => (List.mem_append.mp hx).elim (ht x) (ht2 x)) ?_ (by simp only [List.length_append, List.length_cons] at lt2 ⊢; omega)
    rw [exs_app, et, et2, exs_cons p, lkb_app, exs_head hp']
theorem like_ok {ps : List (Int × Str)} (h : ∀ p ∈ ps, POk p) (hl : ps.length ≤ 1000) (ne : ps ≠ []) {K : List (Int × Str) → Prop} (q : ∀ t : List (Int × Str), (∀ x ∈ t, POk x) → exs t = lkb (exs ps) none → K t) : M_likeness ps K := by
  have l1 : 1 ≤ ps.length := List.length_pos_iff.mpr ne
  have sl := sizeLine_eq
  unfold M_likeness
  rw [cutM_tail l1]
  refine ⟨by rw [List.length_drop]; omega, mapC_ok fst1 (fun x hx k' hk => ?_) ?_⟩
  · have hx := h x (List.mem_of_mem_drop hx)
    exact ⟨line_of hx.z12 (by decide), _, at_i (by decide) (show 0 < (L x.2).length from hx.z1), hk⟩
  · rw [List.nil_append]
    refine ⟨by rw [List.length_map, List.length_drop]; show _ + 1 ≤ _; omega, ?_⟩
    rw [nxs_eq ne]
    exact like_go h (by show 0 + _ < _; omega) fun t ht et _ => q t ht et
structure SZ (r : RT) (n : Int) : Prop where
  v : RV r
  lo : 2 * lstW r.2.1 + 2 ≤ n
  ev : n % 2 = 0
  bg : n.natAbs < 2 ^ 890
theorem SZ.n4 {r : RT} {n : Int} (h : SZ r n) : 4 ≤ n := by
  have := @lst_ge r.2.1
  have := h.lo
  omega
theorem rleast_ok {r : RT} (hw : WV r.2.1) {k : Int → Prop} (q : k (2 * lstW r.2.1 + 2)) : M_Rule_least_size r k := wleast_ok hw q
def mkF (r : RT) (n t d : Int) : Nat := if t = n - 1 then standF r.2.2.1 d else atF r n (seatF r.1 n t d) d
theorem ite_n {c a b : Prop} [Decidable c] (h : ¬ c) (q : b) : if c then a else b := by rw [if_neg h]; exact q
theorem ite_y {c a b : Prop} [Decidable c] (h : c) (q : a) : if c then a else b := by rw [if_pos h]; exact q
theorem nt : ¬ ((!true) = true) := by decide
theorem cseats_ok {r : RT} {n t d : Int} (h : SZ r n) (t0 : 0 ≤ t) (t1 : t < n) (d0 : 0 ≤ d) (d1 : d < n - 1) {K : Unit → Prop} (q : K ()) : M_check_seats r n t d K := by
  unfold M_check_seats M_check_size M_is_size M_check_team M_check_day M_is_count M_is_integer
  refine ite_y rfl (rleast_ok h.v.w (ite_y (decide_eq_true h.lo) ?_))
  rw [show decide (V.int (n % 2) = V.int 0) = true by rw [h.ev]; exact decide_eq_true rfl]
  refine ite_n nt (ite_y rfl ?_)
  rw [decide_eq_true t0]
  refine ite_n nt (ite_n (by simpa using t1) (ite_y rfl ?_))
  rw [decide_eq_true d0]
  exact ite_n nt (ite_n (by simpa using d1) q)
theorem markof_ok {r : RT} {n t d : Int} (h : SZ r n) (t0 : 0 ≤ t) (t1 : t < n) (d0 : 0 ≤ d) (d1 : d < n - 1) {K : Str → Prop} (q : K (S [mkF r n t d])) : M_mark_of r n t d K := by
  have n4 := h.n4
  unfold M_mark_of
  refine cseats_ok h t0 t1 d0 d1 ?_
  unfold mkF at q
  by_cases c : t = n - 1
  · rw [if_pos c] at q
    exact ite_y (by rw [eqI']; exact c) (stander_ok h.v.st q)
  · rw [if_neg c] at q
    refine ite_n (by rw [eqI']; exact c) ?_
    have b := seatF_b (st := r.1) (t := t) (d := d) n4 h.ev
    exact seatU_ok h.v n4 (Nat.lt_of_lt_of_le h.bg (Nat.pow_le_pow_right (by decide) (by decide))) d0 d1 (markat_ok h.v h.lo h.ev b.2 b.1 q)
def rowN (r : RT) (n t : Int) : List Nat := (List.range (n - 1).toNat).map fun d : Nat => mkF r n t ((d : Nat) : Int)
theorem rowN_len (r : RT) (n t : Int) : (rowN r n t).length = (n - 1).toNat := by simp [rowN]
theorem rowN_get {r : RT} {n t : Int} {d : Nat} (h : d < (n - 1).toNat) : (rowN r n t)[d]? = some (mkF r n t (d : Int)) := by
  unfold rowN
  rw [List.getElem?_map, List.getElem?_range h]
  rfl
theorem singles (xs : List Int) (f : Int → Nat) : ((xs.map fun d => S [f d]).map (·.length)).sum = xs.length ∧ L (Txt.join ("" : Str) (xs.map fun d => S [f d])) = xs.map f := by
  have one : ∀ c : Nat, (S [c]).length = 1 := fun c => rfl
  rw [join_L]
  induction xs with
  | nil => exact ⟨rfl, rfl⟩
  | cons x xs ih =>
    refine ⟨?_, ?_⟩
    · rw [List.map_cons, List.map_cons, List.sum_cons, ih.1, one, List.length_cons]
      omega
    · rw [List.map_cons, List.map_cons, List.flatten_cons, ih.2, L_S]
      rfl
def mksF (r : RT) (n t a b : Int) : List Nat := (rangeI a (if a + 12 < b + 1 then a + 12 else b + 1)).map fun d => mkF r n t d
theorem marksfrom_ok {r : RT} {n t a b : Int} (h : SZ r n) (t0 : 0 ≤ t) (t1 : t < n) (a0 : 0 ≤ a) (b1 : b < n - 1) {K : Str → Prop} (q : K (S (mksF r n t a b))) : M_marks_from r n t a b K := by
  unfold M_marks_from
  generalize hc : (if a + 12 < b + 1 then a + 12 else b + 1) = e
  have e1 : e ≤ b + 1 ∧ e ≤ a + 12 := by
    rw [← hc]
    split <;> omega
  refine ⟨by rw [rangeI_len]; omega, mapC_ok (fun d => S [mkF r n t d]) (fun d hd k' hk => ?_) ?_⟩
  · obtain ⟨d0, d1⟩ := rangeI_mem hd
    exact markof_ok h t0 t1 (by omega) (by omega) hk
  · rw [List.nil_append]
    obtain ⟨s1, s2⟩ := singles (rangeI a e) fun d => mkF r n t d
    refine ⟨?_, ?_⟩
    · rw [s1, len_L, L_empty, rangeI_len]
      simp only [List.length_nil]
      omega
    · rw [show Txt.join ("" : Str) ((rangeI a e).map fun d => S [mkF r n t d]) = S (mksF r n t a b) from L_ext (by rw [s2, L_S, mksF, hc])]
      exact q
abbrev sp (r : RT) : Int := (r.1.natAbs : Int)
def bg0 (r : RT) (n t : Int) : Int := if r.1 < 0 then t else (-t) % (n - 1)
theorem bg0_b (h : SZ r n) (t0 : 0 ≤ t) (t1 : t < n - 1) : 0 ≤ bg0 r n t ∧ bg0 r n t < n - 1 := by
  have n4 := h.n4
  unfold bg0
  split
  · omega
  · exact ⟨Int.emod_nonneg _ (by omega), Int.emod_lt_of_pos _ (by omega)⟩
def seatP (r : RT) (n x : Int) : Int := if r.1 < 0 then (if x < n / 2 then x else x - (n - 1)) else (if x = 0 then 0 else if x < n / 2 then -x else n - 1 - x)
theorem seat_at (h : SZ r n) {d lap x : Int} (hx : bg0 r n t + sp r * d = lap * (n - 1) + x) (x0 : 0 ≤ x) (x1 : x < n - 1) : seatF r.1 n t d = seatP r n x := by
  have n4 := h.n4
  have ev := h.ev
  unfold bg0 sp at hx
  unfold seatF seatP
  by_cases c : r.1 < 0
  · rw [if_pos c] at hx ⊢
    have e : t - r.1 * d = x + (n - 1) * lap := by
      have : ((r.1.natAbs : Nat) : Int) * d = -(r.1 * d) := by rw [show ((r.1.natAbs : Nat) : Int) = -r.1 by omega, Int.neg_mul]
      rw [Int.mul_comm (n - 1) lap]
      omega
    rw [e, Int.add_mul_emod_self_left, Int.emod_eq_of_lt x0 x1]
  · rw [if_neg c] at hx ⊢
    have em := Int.emod_add_mul_ediv (-t) (n - 1)
    have e : t - r.1 * d = -x + (n - 1) * (-lap - (-t) / (n - 1)) := by
      have : ((r.1.natAbs : Nat) : Int) * d = r.1 * d := by rw [show ((r.1.natAbs : Nat) : Int) = r.1 by omega]
      rw [Int.mul_sub, Int.mul_neg, Int.mul_comm (n - 1) lap]
      omega
    rw [e, Int.add_mul_emod_self_left]
    by_cases z : x = 0
    · rw [if_pos z, z]
      have : (-(0 : Int)) % (n - 1) = 0 := by simp
      rw [this, if_pos (by omega)]
    · rw [if_neg z]
      have : (-x) % (n - 1) = n - 1 - x := by
        rw [show -x = (n - 1 - x) + (n - 1) * (-1) by omega, Int.add_mul_emod_self_left, Int.emod_eq_of_lt (by omega) (by omega)]
      rw [this]
      by_cases b : x < n / 2
      · rw [if_pos b, if_neg (by omega)]
        omega
      · rw [if_neg b, if_pos (by omega)]
theorem wm_mid {w : Str × Str × Str} (hw : WV w) {p k k' : Int} (hp : lstW w ≤ p) (a : ((L w.1).length : Int) < k) (b : k ≤ p - (L w.2.2).length) (a' : ((L w.1).length : Int) < k') (b' : k' ≤ p - (L w.2.2).length) (e : (k - k') % 12 = 0) : wmF w p k = wmF w p k' := by
  have m1 := hw.m1
  have m4 := hw.m4
  have g := @lst_ge w
  have mid : ∀ {x : Int}, ((L w.1).length : Int) < x → x ≤ p - (L w.2.2).length → wmF w p x = (L w.2.1).getD (((x - 1).toNat - (L w.1).length) % (L w.2.1).length) 0 := fun {x} h1 h2 => by
    unfold wmF rw_
    rw [List.getD_eq_getElem?_getD, row_mid (by omega) (by omega) (by omega) (by omega), ← List.getD_eq_getElem?_getD]
  rw [mid a b, mid a' b']
  congr 1
  have m : (L w.2.1).length = 1 ∨ (L w.2.1).length = 2 ∨ (L w.2.1).length = 3 ∨ (L w.2.1).length = 4 := by omega
  rcases m with m | m | m | m <;> rw [m] <;> omega
abbrev rowBody (x_rule : RT) (x_size x_team r37 x45 stp : Int) : (Int × Int) → List (Int × Str) → (List (Int × Str) → Prop) → Prop := (fun (x76 : (Int × Int)) (s78 : (List (Int × Str))) (k79 : ((List (Int × Str))) → Prop) => (CMulW x45 (x_size - (1 : Int)) ∧ (CDivW ((r37 - (x45 * (x_size - (1 : Int)))) - x76.1) stp ∧ (CMulW x45 (x_size - (1 : Int)) ∧ (CDivW (((x45 * (x_size - (1 : Int))) + x76.2) - r37) stp ∧ (if (decide ((if (-(((r37 - (x45 * (x_size - (1 : Int)))) - x76.1) / stp)) > (0 : Int) then (-(((r37 - (x45 * (x_size - (1 : Int)))) - x76.1) / stp)) else (0 : Int)) ≤ (if ((((x45 * (x_size - (1 : Int))) + x76.2) - r37) / stp) < ((x_size - (1 : Int)) - (1 : Int)) then ((((x45 * (x_size - (1 : Int))) + x76.2) - r37) / stp) else ((x_size - (1 : Int)) - (1 : Int))))) = true then (M_marks_from x_rule x_size x_team (if (-(((r37 - (x45 * (x_size - (1 : Int)))) - x76.1) / stp)) > (0 : Int) then (-(((r37 - (x45 * (x_size - (1 : Int)))) - x76.1) / stp)) else (0 : Int)) (if ((((x45 * (x_size - (1 : Int))) + x76.2) - r37) / stp) < ((x_size - (1 : Int)) - (1 : Int)) then ((((x45 * (x_size - (1 : Int))) + x76.2) - r37) / stp) else ((x_size - (1 : Int)) - (1 : Int))) fun r104 => (s78.length < 16777216 ∧ (k79 ((s78 ++ [((((if ((((x45 * (x_size - (1 : Int))) + x76.2) - r37) / stp) < ((x_size - (1 : Int)) - (1 : Int)) then ((((x45 * (x_size - (1 : Int))) + x76.2) - r37) / stp) else ((x_size - (1 : Int)) - (1 : Int))) - (if (-(((r37 - (x45 * (x_size - (1 : Int)))) - x76.1) / stp)) > (0 : Int) then (-(((r37 - (x45 * (x_size - (1 : Int)))) - x76.1) / stp)) else (0 : Int))) + (1 : Int)), r104)]))))) else (k79 (s78))))))))
theorem mksF_len (r : RT) (n t a b : Int) : (mksF r n t a b).length = (if a + 12 < b + 1 then a + 12 - a else b + 1 - a).toNat := by
  unfold mksF
  rw [List.length_map, rangeI_len]
  split <;> rfl
theorem mksF_get {r : RT} {n t a b : Int} {i : Nat} (h : i < (mksF r n t a b).length) : (mksF r n t a b).getD i 0 = mkF r n t (a + (i : Nat)) := by
  have h' := h
  unfold mksF at h' ⊢
  rw [List.length_map, rangeI_len] at h'
  rw [List.getD_eq_getElem?_getD, List.getElem?_map, rangeI_get h']
  rfl
theorem again {r : RT} {n t a b : Int} (per : ∀ i : Nat, a + (i : Int) + 12 ≤ b → mkF r n t (a + (i : Int) + 12) = mkF r n t (a + (i : Int))) : ∀ (q i : Nat), a + ((i + 12 * q : Nat) : Int) ≤ b → mkF r n t (a + ((i + 12 * q : Nat) : Int)) = mkF r n t (a + (i : Int))
  | 0, i, _ => rfl
  | q + 1, i, h => by
    rw [← again per q i (by omega), ← per (i + 12 * q) (by omega)]
    congr 1
    omega
theorem piece_eq {r : RT} {n t a b : Int} (ab : a ≤ b) (per : ∀ i : Nat, a + (i : Int) + 12 ≤ b → mkF r n t (a + (i : Int) + 12) = mkF r n t (a + (i : Int))) : cyc (mksF r n t a b) (b - a + 1).toNat = (List.range (b - a + 1).toNat).map fun i : Nat => mkF r n t (a + (i : Int)) := by
  have ml := mksF_len r n t a b
  unfold cyc
  refine List.map_congr_left fun i hi => ?_
  have hi := List.mem_range.mp hi
  by_cases c : a + 12 < b + 1
  · rw [if_pos c] at ml
    have m12 : (mksF r n t a b).length = 12 := by omega
    have lt := Nat.mod_lt i (show 0 < 12 by decide)
    rw [mksF_get (Nat.mod_lt _ (by omega)), m12]
    have e : i = i % 12 + 12 * (i / 12) := by omega
    have := again per (i / 12) (i % 12) (by omega)
    rw [← this]
    congr 2
    omega
  · rw [if_neg c] at ml
    have e : i % (mksF r n t a b).length = i := Nat.mod_eq_of_lt (by omega)
    rw [e, mksF_get (by omega)]
theorem row_more {r : RT} {n t a b : Int} (a0 : 0 ≤ a) (ab : a ≤ b) (b1 : b < n - 1) : (rowN r n t).take (b + 1).toNat = (rowN r n t).take a.toNat ++ (List.range (b - a + 1).toNat).map fun i : Nat => mkF r n t (a + (i : Int)) := by
  have rl := rowN_len r n t
  apply List.ext_getElem?
  intro i
  have lt : ((rowN r n t).take a.toNat).length = a.toNat := by rw [List.length_take]; omega
  by_cases c : i < a.toNat
  · rw [List.getElem?_append_left (by omega), List.getElem?_take, List.getElem?_take, if_pos (by omega), if_pos c]
  · rw [List.getElem?_append_right (by omega), lt]
    by_cases c2 : i < (b + 1).toNat
    · rw [List.getElem?_take, if_pos c2, rowN_get (by omega), List.getElem?_map, List.getElem?_range (by omega)]
      show some _ = some _
      congr 2
      omega
    · rw [List.getElem?_eq_none (by rw [List.length_take]; omega), List.getElem?_eq_none (by rw [List.length_map, List.length_range]; omega)]
def dD (N b s x : Int) : Int := if -((b - x) / s) ≤ 0 then 0 else if -((b - x) / s) ≤ N then -((b - x) / s) else N
theorem st_ok {r : RT} {n t lap lo hi : Int} (h : SZ r n) (t0 : 0 ≤ t) (t1 : t < n - 1) (lap0 : 0 ≤ lap) (lap7 : lap ≤ 7) (lohi : lo ≤ hi + 1)
    (good : ∀ d : Int, 0 ≤ d → lap * (n - 1) + lo ≤ bg0 r n t + sp r * d → bg0 r n t + sp r * (d + 12) ≤ lap * (n - 1) + hi → mkF r n t (d + 12) = mkF r n t d) {s : List (Int × Str)} (sp0 : ∀ p ∈ s, POk p)
    (se : exs s = (rowN r n t).take (dD (n - 1) (bg0 r n t) (sp r) (lap * (n - 1) + lo)).toNat) (sl : s.length < 10000) {k : List (Int × Str) → Prop}
    (q : ∀ s' : List (Int × Str), (∀ p ∈ s', POk p) → exs s' = (rowN r n t).take (dD (n - 1) (bg0 r n t) (sp r) (lap * (n - 1) + hi + 1)).toNat → s'.length ≤ s.length + 1 → k s') :
    rowBody r n t (bg0 r n t) lap (sp r) (lo, hi) s k := by
  have n4 := h.n4
  have s0 := h.v.s0
  have s7 := h.v.s7
  have bb := bg0_b h t0 t1
  have big : n.natAbs < 2 ^ 890 := h.bg
  generalize hb : bg0 r n t = b at *
  generalize hs : sp r = s_ at *
  have sr : s_ = 1 ∨ s_ = 2 ∨ s_ = 3 ∨ s_ = 4 ∨ s_ = 5 ∨ s_ = 6 ∨ s_ = 7 := by
    unfold sp at hs
    omega
  have cm : CMulW lap (n - 1) := wide_mul (a := 4) (b := 891) (by omega) (by omega) (by decide) (by decide) (by decide)
  have cd : ∀ x : Int, CDivW x s_ := fun x => wide_div (b := 4) (by omega) (by omega) (by decide) (by decide)
  refine ⟨cm, cd _, cm, cd _, ?_⟩
  dsimp only
  generalize hB : lap * (n - 1) = B at *
  have eF : b - B - lo = b - (B + lo) := by omega
  rw [eF]
  generalize hA : -((b - (B + lo)) / s_) = A
  generalize hZ : (B + hi - b) / s_ = Z
  have two : -((b - (B + hi + 1)) / s_) = Z + 1 := by
    rw [← hZ]
    rcases sr with e | e | e | e | e | e | e <;> rw [e] <;> omega
  have AZ : A ≤ Z + 1 := by
    rw [← two, ← hA]
    rcases sr with e | e | e | e | e | e | e <;> rw [e] <;> omega
  unfold dD at se q
  rw [two] at q
  rw [hA] at se
  generalize hf : (if A > 0 then A else 0) = F
  generalize hl : (if Z < n - 1 - 1 then Z else n - 1 - 1) = Lq
  have f1 : 0 ≤ F ∧ (F = A ∨ F = 0 ∧ A ≤ 0) := by
    rw [← hf]
    split <;> omega
  have l1 : Lq ≤ n - 2 ∧ (Lq = Z ∧ Z < n - 2 ∨ Lq = n - 2 ∧ n - 2 ≤ Z) := by
    rw [← hl]
    split <;> omega
  by_cases c : F ≤ Lq
  · refine ite_y (decide_eq_true c) ?_
    refine marksfrom_ok h t0 (by omega) f1.1 (by omega) ⟨by omega, ?_⟩
    have per : ∀ i : Nat, F + (i : Int) + 12 ≤ Lq → mkF r n t (F + (i : Int) + 12) = mkF r n t (F + (i : Int)) := fun i hi' => by
      refine good _ (by omega) ?_ ?_
      · have : A ≤ F + (i : Int) := by omega
        rw [← hA] at this
        rcases sr with e | e | e | e | e | e | e <;> rw [e] at this ⊢ <;> omega
      · have : F + (i : Int) + 12 ≤ Z := by omega
        rw [← hZ] at this
        rcases sr with e | e | e | e | e | e | e <;> rw [e] at this ⊢ <;> omega
    have pe := piece_eq c per
    have ml := mksF_len r n t F Lq
    refine q _ (fun p hp => ?_) ?_ (by simp)
    · rcases List.mem_append.mp hp with hp | hp
      · exact sp0 p hp
      · rw [List.mem_singleton.mp hp]
        have ml' : 1 ≤ (mksF r n t F Lq).length ∧ (mksF r n t F Lq).length ≤ 12 := by
          rw [ml]
          split <;> omega
        refine ⟨by show 1 ≤ Lq - F + 1; omega, by show (Lq - F + 1).natAbs < 2 ^ 900; exact Nat.lt_of_lt_of_le (show _ < 2 ^ 891 by omega) (Nat.pow_le_pow_right (by decide) (by decide)), ?_, ?_⟩
        · show 1 ≤ (L (S _)).length
          rw [L_S]
          exact ml'.1
        · show (L (S _)).length ≤ 12
          rw [L_S]
          exact ml'.2
    · rw [exs_app, se]
      show _ ++ (cyc (L (S _)) (Lq - F + 1).toNat ++ []) = _
      rw [L_S, List.append_nil, pe]
      have e1 : (if A ≤ 0 then (0 : Int) else if A ≤ n - 1 then A else n - 1) = F := by
        split
        · omega
        · split <;> omega
      have e2 : (if Z + 1 ≤ 0 then (0 : Int) else if Z + 1 ≤ n - 1 then Z + 1 else n - 1) = Lq + 1 := by
        split
        · omega
        · split <;> omega
      rw [e1, e2, row_more f1.1 c (by omega)]
  · refine ite_n (by simpa using c) (q s sp0 ?_ (by omega))
    rw [se]
    congr 2
    split
    · split
      · rfl
      · split <;> omega
    · split
      · split
        · omega
        · split <;> omega
      · split
        · omega
        · split <;> omega
abbrev strl (w : Str × Str × Str) (p : Int) : List (Int × Int) := [(0, 0), (1, ((L w.1).length : Int)), (((L w.1).length : Int) + 1, p - (L w.2.2).length), (p - (L w.2.2).length + 1, p), (p + 1, 2 * p - (p - (L w.2.2).length)), (2 * p - (p - (L w.2.2).length) + 1, 2 * p - (L w.1).length), (2 * p - (L w.1).length + 1, 2 * p)]
theorem stretches_ok {w : Str × Str × Str} (hw : WV w) {p : Int} {K : List (Int × Int) → Prop} (q : K (strl w p)) : M_stretches w p K := by
  unfold M_stretches M_Word_head M_Word_tail
  have sl := sizeLine_eq
  refine ⟨line4 hw.h4, line4 hw.t4, by show 7 < 100000; decide, mapC_ok (fun x : Int => x + 1) (fun x _ k' hk => hk) ?_⟩
  rw [List.nil_append, len_L, len_L]
  refine ⟨by show 1 + 7 ≤ sizeLine; omega, ⟨by show 7 ≤ 8; decide, by show 1 ≤ 7; decide⟩, ?_⟩
  exact q
def Ch : Int → List (Int × Int) → Int → Prop
  | x, [], y => x = y
  | x, q :: l, y => q.1 = x ∧ x ≤ q.2 + 1 ∧ Ch (q.2 + 1) l y
def Gd (r : RT) (n t lap : Int) (q : Int × Int) : Prop := ∀ d : Int, 0 ≤ d → lap * (n - 1) + q.1 ≤ bg0 r n t + sp r * d → bg0 r n t + sp r * (d + 12) ≤ lap * (n - 1) + q.2 → mkF r n t (d + 12) = mkF r n t d
structure Upto (r : RT) (n t x : Int) (s : List (Int × Str)) : Prop where
  ok : ∀ p ∈ s, POk p
  eq : exs s = (rowN r n t).take (dD (n - 1) (bg0 r n t) (sp r) x).toNat
theorem inner_go {r : RT} {n t lap y : Int} (h : SZ r n) (t0 : 0 ≤ t) (t1 : t < n - 1) (lap0 : 0 ≤ lap) (lap7 : lap ≤ 7) {k : List (Int × Str) → Prop} : ∀ {l : List (Int × Int)} {x : Int} {s : List (Int × Str)}, Ch x l y → (∀ q ∈ l, Gd r n t lap q) → Upto r n t (lap * (n - 1) + x) s → s.length + l.length < 10000 →
    (∀ s', Upto r n t (lap * (n - 1) + y) s' → s'.length ≤ s.length + l.length → k s') → forC (rowBody r n t (bg0 r n t) lap (sp r)) l s k
  | [], x, s, c, _, u, _, q => q s (by rw [show y = x from c.symm]; exact u) (by simp)
  | (lo, hi) :: l, x, s, c, g, u, hl, q => by
    obtain ⟨c1, c2, c3⟩ := c
    have c1 : lo = x := c1
    subst c1
    rw [List.length_cons] at hl
    refine forC_hd (st_ok h t0 t1 lap0 lap7 c2 (g (lo, hi) List.mem_cons_self) u.ok u.eq (by omega) fun s' h1 h2 h3 => ?_)
    have e : lap * (n - 1) + hi + 1 = lap * (n - 1) + (hi + 1) := by omega
    rw [e] at h2
    exact inner_go h t0 t1 lap0 lap7 c3 (fun q hq => g q (List.mem_cons_of_mem _ hq)) ⟨h1, h2⟩ (by omega) fun s2 u2 l2 => q s2 u2 (by rw [List.length_cons]; omega)
theorem gd_short (h : SZ r n) {lo hi : Int} (c : hi - lo < 12) : Gd r n t lap (lo, hi) := fun d d0 a b => by
  have s0 := h.v.s0
  have e : sp r * (d + 12) = sp r * d + sp r * 12 := Int.mul_add _ _ _
  have : 1 ≤ sp r := by unfold sp; omega
  dsimp only at a b
  omega
theorem gd_mid {lo hi : Int} (h : SZ r n) (t0 : 0 ≤ t) (t1 : t < n - 1) (at1 : ∀ x : Int, lo ≤ x → x ≤ hi → 0 ≤ x ∧ x < n - 1)
    (same : ∀ x x' : Int, lo ≤ x → x ≤ hi → lo ≤ x' → x' ≤ hi → (x' - x) % 12 = 0 → ∀ d : Int, atF r n (seatP r n x') (d + 12) = atF r n (seatP r n x) d) : Gd r n t lap (lo, hi) := fun d d0 a b => by
  have s0 := h.v.s0
  have e : sp r * (d + 12) = sp r * d + sp r * 12 := Int.mul_add _ _ _
  have sp1 : 1 ≤ sp r := by unfold sp; omega
  dsimp only at a b
  have x1 := at1 (bg0 r n t + sp r * d - lap * (n - 1)) (by omega) (by omega)
  have x2 := at1 (bg0 r n t + sp r * (d + 12) - lap * (n - 1)) (by omega) (by omega)
  unfold mkF
  rw [if_neg (by omega), if_neg (by omega), seat_at h (t := t) (d := d) (x := bg0 r n t + sp r * d - lap * (n - 1)) (lap := lap) (by omega) x1.1 x1.2, seat_at h (t := t) (d := d + 12) (x := bg0 r n t + sp r * (d + 12) - lap * (n - 1)) (lap := lap) (by omega) x2.1 x2.2]
  exact same _ _ (by omega) (by omega) (by omega) (by omega) (by omega) d
theorem tIf_12 (r : RT) (d : Int) (c : Nat) : tIf r (d + 12) c = tIf r d c := by
  unfold tIf
  rw [show (d + 12) % 2 = d % 2 by omega]
theorem sP1 {x : Int} (c : r.1 < 0) (h : x < n / 2) : seatP r n x = x := by
  unfold seatP
  rw [if_pos c, if_pos h]
theorem sP2 {x : Int} (c : r.1 < 0) (h : ¬ x < n / 2) : seatP r n x = x - (n - 1) := by
  unfold seatP
  rw [if_pos c, if_neg h]
theorem sP3 {x : Int} (c : ¬ r.1 < 0) (z : ¬ x = 0) (h : x < n / 2) : seatP r n x = -x := by
  unfold seatP
  rw [if_neg c, if_neg z, if_pos h]
theorem sP4 {x : Int} (c : ¬ r.1 < 0) (z : ¬ x = 0) (h : ¬ x < n / 2) : seatP r n x = n - 1 - x := by
  unfold seatP
  rw [if_neg c, if_neg z, if_neg h]
theorem atF_pos {a d : Int} (h : 0 < a) : atF r n a d = tIf r d (wmF r.2.1 (n / 2 - 1) a) := by
  unfold atF
  rw [if_neg (show ¬ a = 0 by omega), if_pos h, show ((a.natAbs : Nat) : Int) = a by omega]
theorem atF_neg {a d : Int} (h : a < 0) : atF r n a d = ctrc (tIf r d (wmF r.2.1 (n / 2 - 1) (-a))) := by
  unfold atF
  rw [if_neg (show ¬ a = 0 by omega), if_neg (show ¬ 0 < a by omega), show ((a.natAbs : Nat) : Int) = -a by omega]
theorem gd_all (h : SZ r n) (t0 : 0 ≤ t) (t1 : t < n - 1) : ∀ q ∈ strl r.2.1 (n / 2 - 1), Gd r n t lap q := by
  have n4 := h.n4
  have ev := h.ev
  have lo := h.lo
  have g := @lst_ge r.2.1
  have h4 := h.v.w.h4
  have t4 := h.v.w.t4
  intro q hq
  simp only [strl, List.mem_cons, List.not_mem_nil, or_false] at hq
  rcases hq with rfl | rfl | rfl | rfl | rfl | rfl | rfl
  · exact gd_short h (by omega)
  · exact gd_short h (by omega)
  · refine gd_mid h t0 t1 (fun x a b => by omega) fun x x' a b a' b' e d => ?_
    have wm := wm_mid h.v.w (p := n / 2 - 1) (k := x') (k' := x) (by omega) (by omega) (by omega) (by omega) (by omega) e
    by_cases c : r.1 < 0
    · rw [sP1 c (show x' < n / 2 by omega), sP1 c (show x < n / 2 by omega), atF_pos (show 0 < x' by omega), atF_pos (show 0 < x by omega), wm, tIf_12]
    · rw [sP3 c (show ¬ x' = 0 by omega) (show x' < n / 2 by omega), sP3 c (show ¬ x = 0 by omega) (show x < n / 2 by omega), atF_neg (show -x' < 0 by omega), atF_neg (show -x < 0 by omega), Int.neg_neg, Int.neg_neg, wm, tIf_12]
  · exact gd_short h (by omega)
  · exact gd_short h (by omega)
  · refine gd_mid h t0 t1 (fun x a b => by omega) fun x x' a b a' b' e d => ?_
    have wm := wm_mid h.v.w (p := n / 2 - 1) (k := n - 1 - x') (k' := n - 1 - x) (by omega) (by omega) (by omega) (by omega) (by omega) (by omega)
    by_cases c : r.1 < 0
    · rw [sP2 c (show ¬ x' < n / 2 by omega), sP2 c (show ¬ x < n / 2 by omega), atF_neg (show x' - (n - 1) < 0 by omega), atF_neg (show x - (n - 1) < 0 by omega), show -(x' - (n - 1)) = n - 1 - x' by omega, show -(x - (n - 1)) = n - 1 - x by omega, wm, tIf_12]
    · rw [sP4 c (show ¬ x' = 0 by omega) (show ¬ x' < n / 2 by omega), sP4 c (show ¬ x = 0 by omega) (show ¬ x < n / 2 by omega), atF_pos (show 0 < n - 1 - x' by omega), atF_pos (show 0 < n - 1 - x by omega), wm, tIf_12]
  · exact gd_short h (by omega)
theorem ch_all (h : SZ r n) : Ch 0 (strl r.2.1 (n / 2 - 1)) (n - 1) := by
  have n4 := h.n4
  have ev := h.ev
  have lo := h.lo
  have g := @lst_ge r.2.1
  refine ⟨rfl, by show (0 : Int) ≤ 0 + 1; decide, rfl, ?_, rfl, ?_, rfl, ?_, rfl, ?_, rfl, ?_, rfl, ?_, ?_⟩
  all_goals (first | (show _ ≤ _ + 1; omega) | (show _ = _; omega) | omega)
theorem laps_go (h : SZ r n) (t0 : 0 ≤ t) (t1 : t < n - 1) {K : List (Int × Str) → Prop} : ∀ (m : Nat) {lap : Int} {s : List (Int × Str)}, lap + (m : Int) = sp r + 1 → 0 ≤ lap → Upto r n t (lap * (n - 1)) s → (s.length : Int) ≤ 7 * lap →
    (∀ s', Upto r n t ((sp r + 1) * (n - 1)) s' → (s'.length : Int) ≤ 7 * (sp r + 1) → K s') →
    forC (fun (x45 : Int) (s47 : (List (Int × Str))) (k48 : ((List (Int × Str))) → Prop) => (M_Rule_word r fun r61 => (M_stretches r61 ((n / (2 : Int)) - (1 : Int)) fun r66 => (forC (rowBody r n t (bg0 r n t) x45 (sp r)) r66 (s47) fun s122 => (k48 (s122)))))) (rangeI lap (sp r + 1)) s K
  | 0, lap, s, e, l0, u, hl, q => by
    have e' : lap = sp r + 1 := by omega
    rw [rangeI_nil (by omega)]
    rw [e'] at u hl
    exact q s u hl
  | m + 1, lap, s, e, l0, u, hl, q => by
    have s7 := h.v.s7
    have spe : sp r ≤ 7 := by unfold sp; omega
    rw [rangeI_cons (by omega)]
    refine forC_hd ?_
    show M_stretches r.2.1 (n / 2 - 1) fun r66 => _
    refine stretches_ok h.v.w ?_
    have u0 : Upto r n t (lap * (n - 1) + 0) s := by rw [Int.add_zero]; exact u
    refine inner_go h t0 t1 l0 (by omega) (ch_all h) (gd_all h t0 t1) u0 (by show s.length + 7 < 10000; omega) fun s' u' l' => ?_
    have l' : s'.length ≤ s.length + 7 := l'
    refine laps_go h t0 t1 m (by omega) (by omega) ?_ (by omega) q
    have e2 : lap * (n - 1) + (n - 1) = (lap + 1) * (n - 1) := by rw [Int.add_mul, Int.one_mul]
    rw [e2] at u'
    exact u'
theorem dD_0 (h : SZ r n) (t0 : 0 ≤ t) (t1 : t < n - 1) : dD (n - 1) (bg0 r n t) (sp r) 0 = 0 := by
  have b := bg0_b h t0 t1
  have s0 := h.v.s0
  have : 0 ≤ (bg0 r n t - 0) / sp r := Int.ediv_nonneg (by omega) (by unfold sp; omega)
  unfold dD
  rw [if_pos (by omega)]
theorem dD_end (h : SZ r n) (t0 : 0 ≤ t) (t1 : t < n - 1) : dD (n - 1) (bg0 r n t) (sp r) ((sp r + 1) * (n - 1)) = n - 1 := by
  have b := bg0_b h t0 t1
  have n4 := h.n4
  have s0 := h.v.s0
  have s7 := h.v.s7
  unfold dD
  generalize hs : sp r = s_
  generalize bg0 r n t = c at b ⊢
  have sr : s_ = 1 ∨ s_ = 2 ∨ s_ = 3 ∨ s_ = 4 ∨ s_ = 5 ∨ s_ = 6 ∨ s_ = 7 := by
    unfold sp at hs
    omega
  have big : n - 1 < -((c - (s_ + 1) * (n - 1)) / s_) := by
    rcases sr with e | e | e | e | e | e | e <;> rw [e] <;> omega
  rw [if_neg (by omega), if_neg (by omega)]
theorem stand_piece {z : Str} (h : z ∈ standers) : ∃ c, wd_STANDER_MARKS.lookup z = some c ∧ (L c).length = 2 ∧ ∀ d : Nat, (L c).getD (d % 2) 0 = standF z (d : Int) := by
  simp only [standers, List.mem_cons, List.not_mem_nil, or_false] at h
  have two : ∀ d : Nat, (d % 2 = 0 ∧ (d : Int) % 2 = 0) ∨ (d % 2 = 1 ∧ (d : Int) % 2 = 1) := fun d => by omega
  rcases h with rfl | rfl | rfl | rfl
  · refine ⟨"hh", by decide +kernel, by decide +kernel, fun d => ?_⟩
    rw [show standF "home" d = 104 by unfold standF; rw [if_pos rfl]]
    rcases two d with ⟨e, f⟩ | ⟨e, f⟩ <;> rw [e] <;> decide +kernel
  · refine ⟨"aa", by decide +kernel, by decide +kernel, fun d => ?_⟩
    rw [show standF "away" d = 97 by unfold standF; rw [if_neg (by decide +kernel), if_pos rfl]]
    rcases two d with ⟨e, f⟩ | ⟨e, f⟩ <;> rw [e] <;> decide +kernel
  · refine ⟨"ha", by decide +kernel, by decide +kernel, fun d => ?_⟩
    unfold standF
    rw [if_neg (by decide +kernel), if_neg (by decide +kernel), if_pos rfl]
    rcases two d with ⟨e, f⟩ | ⟨e, f⟩ <;> rw [e, f] <;> decide +kernel
  · refine ⟨"ah", by decide +kernel, by decide +kernel, fun d => ?_⟩
    unfold standF
    rw [if_neg (by decide +kernel), if_neg (by decide +kernel), if_neg (by decide +kernel)]
    rcases two d with ⟨e, f⟩ | ⟨e, f⟩ <;> rw [e, f] <;> decide +kernel
structure Tells (ps : List (Int × Str)) (l : List Nat) : Prop where
  ok : ∀ p ∈ ps, POk p
  ln : ps.length ≤ 1000
  ne : ps ≠ []
  eq : exs ps = l
theorem row_ok (h : SZ r n) (t0 : 0 ≤ t) (t1 : t < n) {K : List (Int × Str) → Prop} (q : ∀ ps, Tells ps (rowN r n t) → K ps) : M_row r n t K := by
  have n4 := h.n4
  have rl := rowN_len r n t
  unfold M_row
  by_cases c : t = n - 1
  · refine ite_y (by rw [eqI']; exact c) ?_
    obtain ⟨z, hz, l2, hd⟩ := stand_piece h.v.st
    refine ⟨z, hz, q _ ⟨fun p hp => ?_, by show 1 ≤ 1000; decide, by simp, ?_⟩⟩
    · rw [List.mem_singleton.mp hp]
      exact ⟨by show 1 ≤ n - 1; omega, by show (n - 1).natAbs < _; exact Nat.lt_of_lt_of_le (show _ < 2 ^ 891 by have := h.bg; omega) (Nat.pow_le_pow_right (by decide) (by decide)), by show 1 ≤ (L z).length; omega, by show (L z).length ≤ 12; omega⟩
    · show cyc (L z) (n - 1).toNat ++ [] = _
      rw [List.append_nil]
      unfold cyc rowN
      refine List.map_congr_left fun d _ => ?_
      rw [l2, hd d]
      unfold mkF
      rw [if_pos c]
  · refine ite_n (by rw [eqI']; exact c) ?_
    have t1' : t < n - 1 := by omega
    show ∃ KB27 : Int → Prop, _
    refine ⟨fun v => v = bg0 r n t, ?_, fun v hv => ?_⟩
    · show if decide (r.1 < 0) = true then _ else _
      unfold bg0
      by_cases d : r.1 < 0
      · rw [if_pos (decide_eq_true d), if_pos d]
      · rw [if_neg (by simpa using d), if_neg d]
        exact ⟨by omega, rfl⟩
    · subst hv
      rw [show (if r.1 < 0 then -r.1 else r.1) = sp r from absN r.1]
      refine laps_go h t0 t1' (sp r + 1).toNat (lap := 0) (by unfold sp; omega) (by decide) ⟨fun p hp => absurd hp List.not_mem_nil, ?_⟩ (by simp) fun s' u' l' => ?_
      · rw [Int.zero_mul, dD_0 h t0 t1']
        rfl
      · have s7 := h.v.s7
        have e := u'.eq
        rw [dD_end h t0 t1', List.take_of_length_le (by omega)] at e
        refine q s' ⟨u'.ok, by unfold sp at l'; omega, fun z => ?_, e⟩
        rw [z] at e
        have : (rowN r n t).length = 0 := by rw [← e]; rfl
        omega
theorem ctrc_ctrc {c : Nat} (h : M1 c) : ctrc (ctrc c) = c := by
  rcases h with rfl | rfl <;> rfl
theorem eqM {a b : Nat} : (decide (V.str (S [a]) = V.str (S [b]))) = decide (a = b) := by
  rw [eqS, L_S, L_S]
  by_cases c : a = b
  · rw [decide_eq_true c, decide_eq_true (by rw [c])]
  · rw [decide_eq_false c, decide_eq_false (by simpa using c)]
theorem S_h : ("h" : Str) = S [104] := by decide +kernel
theorem S_a : ("a" : Str) = S [97] := by decide +kernel
abbrev MT := Int × Str × Str × Str × Str × Bool
def rOf (m : MT) : RT := (m.1, (m.2.1, m.2.2.1, m.2.2.2.1), m.2.2.2.2.1, m.2.2.2.2.2)
theorem standL_ok {m : MT} (h : m.2.2.2.2.1 ∈ standers) {d : Int} {K : Str → Prop} (q : K (S [standF m.2.2.2.2.1 d])) : M_stander m d K := by
  unfold M_stander
  simp only [standers, List.mem_cons, List.not_mem_nil, or_false] at h
  generalize m.2.2.2.2.1 = z at h q ⊢
  rcases h with e | e | e | e <;> subst e
  · rw [if_pos (by decide +kernel)]
    refine ⟨fun r => r = S [standF "home" d], ?_, fun r hr => by rw [hr]; exact q⟩
    rw [if_pos (by simp)]
    show "h" = S [standF "home" d]
    rw [S_h]
    unfold standF
    rw [if_pos rfl]
  · rw [if_pos (by decide +kernel)]
    refine ⟨fun r => r = S [standF "away" d], ?_, fun r hr => by rw [hr]; exact q⟩
    rw [if_neg (by decide +kernel)]
    show "a" = S [standF "away" d]
    rw [S_a]
    unfold standF
    rw [if_neg (by decide +kernel), if_pos rfl]
  · rw [if_neg (by decide +kernel)]
    refine ⟨fun r => r = S [standF "even" d], ?_, fun r hr => by rw [hr]; exact q⟩
    by_cases f : d % 2 = 0
    · rw [if_pos (by rw [f]; decide +kernel)]
      show "h" = S [standF "even" d]
      rw [S_h]
      unfold standF
      rw [if_neg (by decide +kernel), if_neg (by decide +kernel), if_pos rfl, if_pos f]
    · have f1 : d % 2 = 1 := by omega
      rw [if_neg (by rw [f1]; decide +kernel)]
      show "a" = S [standF "even" d]
      rw [S_a]
      unfold standF
      rw [if_neg (by decide +kernel), if_neg (by decide +kernel), if_pos rfl, if_neg f]
  · rw [if_neg (by decide +kernel)]
    refine ⟨fun r => r = S [standF "odd" d], ?_, fun r hr => by rw [hr]; exact q⟩
    by_cases f : d % 2 = 0
    · rw [if_neg (by rw [f]; decide +kernel)]
      show "a" = S [standF "odd" d]
      rw [S_a]
      unfold standF
      rw [if_neg (by decide +kernel), if_neg (by decide +kernel), if_neg (by decide +kernel), if_pos f]
    · have f1 : d % 2 = 1 := by omega
      rw [if_pos (by rw [f1]; decide +kernel)]
      show "h" = S [standF "odd" d]
      rw [S_h]
      unfold standF
      rw [if_neg (by decide +kernel), if_neg (by decide +kernel), if_neg (by decide +kernel), if_neg f]
theorem contr_ok {c : Nat} (h : M1 c) {K : Str → Prop} (q : K (S [ctrc c])) : M_contrary (S [c]) K := by
  unfold M_contrary
  refine ⟨fun r => r = S [ctrc c], ?_, fun r hr => by rw [hr]; exact q⟩
  rcases h with rfl | rfl
  · rw [if_pos (by rw [S_h]; simp)]
    exact S_a
  · rw [if_neg (by rw [S_h, eqM]; decide)]
    exact S_h
theorem marks_ok {n : Int} (h0 : 0 ≤ n) (h4 : n ≤ 4) {k : Str → Prop} (q : ∀ z : Str, ((L z).length : Int) = n → (∀ c ∈ L z, c = 104 ∨ c = 97) → k z) : M_marks n k := by
  unfold M_marks
  refine ⟨by rw [rangeI_len]; omega, ?_⟩
  refine mapC_any (fun y => ∃ c, y = Str.mk #[c] ∧ (c = 104 ∨ c = 97)) (fun x _ k' hk => ?_) fun ys hl hp => ?_
  · refine pickS_ok (by decide) (by decide) fun z hz => hk z ?_
    simp only [List.mem_cons, List.not_mem_nil, or_false] at hz
    rcases hz with rfl | rfl
    · exact ⟨104, by decide +kernel, .inl rfl⟩
    · exact ⟨97, by decide +kernel, .inr rfl⟩
  · rw [List.nil_append]
    rw [rangeI_len] at hl
    have hs : ∀ zs : List Str, (∀ y ∈ zs, ∃ c, y = Str.mk #[c] ∧ (c = 104 ∨ c = 97)) → (zs.map (·.length)).sum = zs.length ∧ ((zs.map L).flatten).length = zs.length ∧ ∀ c ∈ (zs.map L).flatten, c = 104 ∨ c = 97 := by
      intro zs
      induction zs with
      | nil => intro _; exact ⟨rfl, rfl, fun c hc => absurd hc (by simp)⟩
      | cons z zs ih =>
        intro h
        obtain ⟨c, rfl, hc⟩ := h z List.mem_cons_self
        obtain ⟨i1, i2, i3⟩ := ih fun y hy => h y (List.mem_cons_of_mem _ hy)
        refine ⟨?_, ?_, fun c' hc' => ?_⟩
        · rw [List.map_cons, List.sum_cons, i1, str1, List.length_cons]
          omega
        · rw [List.map_cons, List.flatten_cons, List.length_append, i2, L_one, List.length_cons, List.length_cons, List.length_nil]
          omega
        · rw [List.map_cons, List.flatten_cons, L_one] at hc'
          rcases List.mem_append.mp hc' with hc' | hc'
          · rw [List.mem_singleton.mp hc']
            exact hc
          · exact i3 c' hc'
    obtain ⟨s1, s2, s3⟩ := hs ys hp
    refine ⟨?_, q _ ?_ ?_⟩
    · rw [s1, len_L, L_empty]
      show ys.length + ys.length * 0 ≤ _
      omega
    · rw [join_L, s2]
      omega
    · rw [join_L]
      exact s3
theorem model_ok {K : MT → Prop} (q : ∀ m, RV (rOf m) → K m) : M_model K := by
  unfold M_model
  refine pick_ok (by decide) (by decide) fun a ha => draw_ok (by decide) (by decide) fun x x0 x1 => marks_ok x0 (by omega) fun z1 l1 h1 => draw_ok (by decide) (by decide) fun y y0 y1 => marks_ok (by omega) (by omega) fun z2 l2 h2 => draw_ok (by decide) (by decide) fun w w0 w1 => marks_ok w0 (by omega) fun z3 l3 h3 => pickS_ok (by decide) (by decide) fun s hs => draw_ok (by decide) (by decide) fun u _ _ => q _ ⟨?_, ?_, ⟨by show (L z1).length ≤ 4; omega, by show 1 ≤ (L z2).length; omega, by show (L z2).length ≤ 4; omega, by show (L z3).length ≤ 4; omega, h1, h2, h3⟩, hs⟩
  · show a ≠ 0
    intro z
    subst z
    revert ha
    decide
  · show a.natAbs ≤ 7
    simp only [List.mem_cons, List.not_mem_nil, or_false] at ha
    omega
theorem made_ok {m : MT} (h : RV (rOf m)) {K : RT → Prop} (q : K (rOf m)) : M_made m K := word_ok h.w (rinit_ok h.s0 h.s7 h.st q)
theorem fewest_ok {m : MT} (h : RV (rOf m)) {K : Int → Prop} (q : K (lstW (rOf m).2.1)) : M_fewest m K := by
  unfold M_fewest
  have h4 := h.w.h4
  have t4 := h.w.t4
  have ea : (m.2.1 ++ m.2.2.2.1).length = (L m.2.1).length + (L m.2.2.2.1).length := by rw [len_L, L_app, List.length_append]
  have ec : ((m.2.1 ++ m.2.2.2.1).length : Int) = ((L (rOf m).2.1.1).length : Int) + (L (rOf m).2.1.2.2).length := by
    rw [ea]
    rfl
  have e1 : (L (rOf m).2.1.1).length = (L m.2.1).length := rfl
  have e2 : (L (rOf m).2.1.2.2).length = (L m.2.2.2.1).length := rfl
  have sz : 8 ≤ sizeLine := by decide
  refine ⟨by rw [len_L, len_L]; omega, by rw [ea]; omega, ?_⟩
  rw [ec]
  exact q
theorem at_ok {m : MT} (h : RV (rOf m)) {n i : Int} (hn : lstW (rOf m).2.1 ≤ n) (h1 : 1 ≤ i) (h2 : i ≤ n) {K : Str → Prop} (q : K (S [wmF (rOf m).2.1 n i])) : M_at m n i K := by
  have hw := h.w
  have g := @lst_ge (rOf m).2.1
  have m1 := hw.m1
  have hlen := rw_len hn
  have hc := wmF_at hn h1 h2
  unfold M_at
  generalize wmF (rOf m).2.1 n i = c at hc q
  show m.2.1.length ≤ sizeLine ∧ _
  refine ⟨line4 hw.h4, ?_⟩
  by_cases b1 : i ≤ (L (rOf m).2.1.1).length
  · refine ite_y (by rw [len_L]; exact decide_eq_true b1) ⟨line4 hw.h4, c, at_nat' (by omega) ?_, q⟩
    rw [row_head (by omega)] at hc
    exact hc
  · refine ite_n (by rw [len_L, decide_eq_true_eq]; exact b1) ⟨line4 hw.t4, ?_⟩
    by_cases b2 : n - (L (rOf m).2.1.2.2).length < i
    · refine ite_y (by rw [len_L]; exact decide_eq_true b2) ⟨line4 hw.t4, line4 hw.t4, c, at_nat' (by rw [len_L]; show 0 ≤ i - n + ((L (rOf m).2.1.2.2).length : Int) - 1; omega) ?_, q⟩
      rw [row_tail (by omega) (by omega)] at hc
      rw [← hc]
      show (L (rOf m).2.1.2.2)[_]? = _
      congr 1
      rw [len_L]
      show (i - n + ((L (rOf m).2.1.2.2).length : Int) - 1).toNat = _
      omega
    · refine ite_n (by rw [len_L, decide_eq_true_eq]; exact b2) ⟨line4 hw.h4, line4 hw.m4, (by rw [len_L]; show (0 : Int) < ((L (rOf m).2.1.2.1).length : Int); omega), line4 hw.m4, c, at_nat' (Int.emod_nonneg _ (by rw [len_L]; show ((L (rOf m).2.1.2.1).length : Int) ≠ 0; omega)) ?_, q⟩
      rw [row_mid (by omega) (by omega) (by omega) (by omega)] at hc
      rw [← hc]
      show (L (rOf m).2.1.2.1)[_]? = _
      congr 1
      rw [len_L, len_L, emod_nat (by show 0 ≤ i - ((L (rOf m).2.1.1).length : Int) - 1; omega)]
      show (i - ((L (rOf m).2.1.1).length : Int) - 1).toNat % (L (rOf m).2.1.2.1).length = _
      congr 1
      omega
theorem bl_eq {a b : Bool} : decide (V.bl a = V.bl b) = decide (a = b) := by
  cases a <;> cases b <;> rfl
theorem sign_ok {m : MT} {n t d : Int} (h : SZ (rOf m) n) (t0 : 0 ≤ t) (t1 : t < n) (d0 : 0 ≤ d) (d1 : d < n - 1) {K : Str → Prop} (q : K (S [mkF (rOf m) n t d])) : M_sign m n t d K := by
  have n4 := h.n4
  have s7 := h.v.s7
  have lo := h.lo
  have ev := h.ev
  unfold M_sign
  unfold mkF at q
  by_cases c : t = n - 1
  · rw [if_pos c] at q
    exact ite_y (by rw [eqI']; exact c) (standL_ok h.v.st q)
  · rw [if_neg c] at q
    refine ite_n (by rw [eqI']; exact c) ⟨cmul7 (n := n) (by show (rOf m).1.natAbs ≤ 14; omega) d0 (by omega) (Nat.lt_of_lt_of_le h.bg (Nat.pow_le_pow_right (by decide) (by decide))), by omega, ?_⟩
    have b0 := Int.emod_nonneg (t - (rOf m).1 * d) (show n - 1 ≠ 0 by omega)
    have b1 := Int.emod_lt_of_pos (t - (rOf m).1 * d) (show 0 < n - 1 by omega)
    show if decide (V.int ((t - (rOf m).1 * d) % (n - 1)) = V.int 0) = true then _ else _
    unfold seatF at q
    change K (S [atF (rOf m) n (if (t - (rOf m).1 * d) % (n - 1) < n / 2 then (t - (rOf m).1 * d) % (n - 1) else (t - (rOf m).1 * d) % (n - 1) - (n - 1)) d]) at q
    rw [show m.1 = (rOf m).1 from rfl]
    generalize (t - (rOf m).1 * d) % (n - 1) = x at q b0 b1 ⊢
    by_cases z : x = 0
    · refine ite_y (by rw [eqI']; exact z) (standL_ok h.v.st (contr_ok (standF_m _ _) ?_))
      rw [z, if_pos (by omega)] at q
      unfold atF at q
      rw [if_pos rfl] at q
      exact q
    · refine ite_n (by rw [eqI']; exact z) ?_
      by_cases lt : x < n / 2
      · refine ⟨fun v => v = x, by rw [if_pos (decide_eq_true lt)], fun v hv => ?_⟩
        subst hv
        refine at_ok h.v (by omega) (by omega) (by omega) ?_
        have wm := wmF_m h.v.w (p := n / 2 - 1) (k := v) (by omega) (by omega) (by omega)
        rw [if_pos lt] at q
        unfold atF at q
        rw [if_neg z, if_pos (by omega), show ((v.natAbs : Nat) : Int) = v by omega] at q
        unfold tIf at q
        refine ⟨fun y => y = S [if (rOf m).2.2.2 = true ∧ d % 2 = 1 then ctrc (wmF (rOf m).2.1 (n / 2 - 1) v) else wmF (rOf m).2.1 (n / 2 - 1) v], ?_, fun y hy => by rw [hy]; exact q⟩
        show if (rOf m).2.2.2 = true then _ else _
        rw [decide_eq_true lt]
        cases tu : (rOf m).2.2.2 with
        | true =>
          refine ite_y rfl ?_
          rw [bl_eq]
          by_cases dd : d % 2 = 1
          · rw [dd]
            refine ite_n (by decide +kernel) (contr_ok wm ?_)
            rw [if_pos ⟨rfl, rfl⟩]
          · refine ite_y (by rw [show decide (V.int (d % 2) = V.int 1) = false from decide_eq_false fun z => dd (V.int.inj z)]; rfl) ?_
            rw [if_neg fun z => dd z.2]
        | false =>
          refine ite_n (by decide) (ite_y (by decide +kernel) ?_)
          rw [if_neg fun z => Bool.noConfusion z.1]
      · refine ⟨fun v => v = n - 1 - x, by rw [if_neg (by simpa using lt)], fun v hv => ?_⟩
        subst hv
        refine at_ok h.v (by omega) (by omega) (by omega) ?_
        have wm := wmF_m h.v.w (p := n / 2 - 1) (k := n - 1 - x) (by omega) (by omega) (by omega)
        rw [if_neg lt] at q
        unfold atF at q
        rw [if_neg (by omega), if_neg (by omega), show (((x - (n - 1)).natAbs : Nat) : Int) = n - 1 - x by omega] at q
        unfold tIf at q
        generalize wmF (rOf m).2.1 (n / 2 - 1) (n - 1 - x) = g at q wm ⊢
        refine ⟨fun y => y = S [ctrc (if (rOf m).2.2.2 = true ∧ d % 2 = 1 then ctrc g else g)], ?_, fun y hy => by rw [hy]; exact q⟩
        show if (rOf m).2.2.2 = true then _ else _
        rw [decide_eq_false lt]
        cases tu : (rOf m).2.2.2 with
        | true =>
          refine ite_y rfl ?_
          rw [bl_eq]
          by_cases dd : d % 2 = 1
          · rw [dd]
            refine ite_y (by decide +kernel) ?_
            rw [if_pos ⟨rfl, rfl⟩, ctrc_ctrc wm]
          · refine ite_n (by rw [show decide (V.int (d % 2) = V.int 1) = false from decide_eq_false fun z => dd (V.int.inj z)]; decide) (contr_ok wm ?_)
            rw [if_neg fun z => dd z.2]
        | false =>
          refine ite_n (by decide) (ite_n (by decide +kernel) (contr_ok wm ?_))
          rw [if_neg fun z => Bool.noConfusion z.1]
def fo (p x : Int) : Int := if x % (2 * p + 1) ≤ p then x % (2 * p + 1) else x % (2 * p + 1) - (2 * p + 1)
def Hb (w : Str × Str × Str) (p s : Int) : Bool := decide (decide (wmF w p (s.natAbs : Int) = 104) = decide (0 < s))
def halt (w : Str × Str × Str) (u : Bool) (p s s' : Int) : Bool := decide ((!(decide (Hb w p s = Hb w p s'))) = u)
def hf (w : Str × Str × Str) (u : Bool) (st p s : Int) : Int := if s ≠ 0 ∧ fo p (s - st) ≠ 0 ∧ halt w u p s (fo p (s - st)) = true then 1 else 0
def bk (r : RT) (n t d : Int) : Int := if mkF r n t (d + 1) = mkF r n t d then 1 else 0
theorem lkb_gn {l : List Nat} {i : Nat} (h : i < l.length) : (lkb l none)[i]? = some (if l[i + 1]? = l[i]? then 115 else 111) := by
  have e := lkb_get (b := none) h
  have z : l ++ (none : Option Nat).toList = l := List.append_nil l
  simp only [z] at e
  exact e
def hm (r : RT) (n t d : Int) : Int := if mkF r n t d = 104 then 1 else 0
theorem along_ok {r : RT} (h : SZ r n) (t0 : 0 ≤ t) (t1 : t < n) {K : Unit → Prop} (q : K ()) : M_check_along r n t K := by
  unfold M_check_along M_check_size M_is_size M_check_team M_is_count M_is_integer
  refine ite_y rfl (rleast_ok h.v.w (ite_y (decide_eq_true h.lo) ?_))
  rw [show decide (V.int (n % 2) = V.int 0) = true by rw [h.ev]; exact decide_eq_true rfl]
  refine ite_n nt (ite_y rfl ?_)
  rw [decide_eq_true t0]
  exact ite_n nt (ite_n (by simpa using t1) q)
theorem rounds_ok {n c : Int} (c0 : 0 ≤ c) (c1 : c ≤ n - 1) {K : Unit → Prop} (q : K ()) : M_check_rounds n c K := by
  unfold M_check_rounds M_is_count M_is_integer
  refine ite_y rfl ?_
  rw [decide_eq_true c0]
  exact ite_n nt (ite_n (by rw [decide_eq_true_eq]; omega) q)
theorem posaid_ok {z : Str} {c len : Nat} (z1 : 1 ≤ (L z).length) (z12 : (L z).length ≤ 12) {k : Int} (k1 : 1 ≤ k) (kb : k.natAbs < 2 ^ 900) (hk : k ≤ cn c (cyc (L z) len)) {K : Int → Prop} (q : ∀ i : Nat, (pos c (cyc (L z) len))[(k - 1).toNat]? = some i → K (i : Int)) : M_position_said z (Str.mk #[c]) k K := by
  obtain ⟨n, rfl⟩ : ∃ n : Nat, k = (n : Int) + 1 := ⟨(k - 1).toNat, by omega⟩
  have pl := pos_len c (L z)
  have c2 := cn_le c (L z)
  have hc : 0 < (pos c (L z)).length := by
    rcases Nat.eq_zero_or_pos (pos c (L z)).length with e | e
    · have e0 : cn c (L z) = 0 := by omega
      have := cyn_eq c (m := L z) (by omega) len
      unfold cyn at this
      have t1 := cn_pos c ((L z).take (len % (L z).length))
      have t2 : cn c ((L z).take (len % (L z).length)) ≤ cn c (L z) := by
        conv => rhs; rw [← List.take_append_drop (len % (L z).length) (L z)]
        rw [cn_app]
        have := cn_pos c ((L z).drop (len % (L z).length))
        omega
      rw [e0, Int.mul_zero] at this
      omega
    · exact e
  have e1 : (n : Int) + 1 - 1 = (n : Int) := by omega
  have hl : (z.length : Int) = (((L z).length : Nat) : Int) := by rw [len_L]
  have hm : (n : Int) % (((pos c (L z)).length : Nat) : Int) = ((n % (pos c (L z)).length : Nat) : Int) := by omega
  have hd : (n : Int) / (((pos c (L z)).length : Nat) : Int) = ((n / (pos c (L z)).length : Nat) : Int) := by omega
  have md := Nat.mod_lt n hc
  have dl : n / (pos c (L z)).length ≤ n := Nat.div_le_self _ _
  have nb : n < 2 ^ 900 := by omega
  unfold M_position_said
  rw [count_c, ← pl, e1, hm, hd, hl]
  refine ⟨⟨by omega, by omega⟩, ?_, ?_⟩
  · rw [List.length_zip, sg_len]
    omega
  refine filC_ok (fun x : Int × Str => if decide (V.str x.2 = V.str (Str.mk #[c])) = true then some x.1 else none) (fun x _ k' hk => ?_) ?_
  · by_cases h : decide (V.str x.2 = V.str (Str.mk #[c])) = true
    · rw [if_pos h] at hk ⊢
      exact hk
    · rw [if_neg h] at hk ⊢
      exact hk
  · rw [List.nil_append]
    have fe : ((rangeI 0 ((Rx.signs z).length : Int)).zip (Rx.signs z)).filterMap (fun x : Int × Str => if decide (V.str x.2 = V.str (Str.mk #[c])) = true then some x.1 else none) = (pos c (L z)).map fun i => (0 : Int) + ((i : Nat) : Int) := by
      have := fil_pos c (L z) 0
      rw [Int.zero_add] at this
      rw [sg_len]
      exact this
    rw [fe]
    refine ⟨line_of z12 (by decide), wide_mul (a := 900) (b := 4) (Nat.lt_of_le_of_lt dl nb) (by omega) (by decide) (by decide) (by decide), by omega, by rw [List.length_map]; omega, fun x hx => ?_⟩
    have hx' : x = (n % (pos c (L z)).length |> fun r => (0 : Int) + (((pos c (L z))[n % (pos c (L z)).length]'md : Nat) : Int)) := by
      rw [hx, List.getElem_map]
      rfl
    have := pos_cyc c (z := L z) (by omega) (len := len) (i := n) (by omega) hc
    rw [List.getElem?_eq_getElem md] at this
    have q2 := q _ (by rw [e1, Int.toNat_natCast]; exact this)
    have fin : ((((n / (pos c (L z)).length : Nat) : Int)) * (((L z).length : Nat) : Int) + x) = (((pos c (L z))[n % (pos c (L z)).length]'md + n / (pos c (L z)).length * (L z).length : Nat) : Int) := by
      rw [hx', Int.natCast_add, Int.natCast_mul]
      show _ + ((0 : Int) + _) = _
      omega
    rw [fin]
    exact q2
theorem pof_go {c : Nat} {K : Option Int → Prop} : ∀ {ps : List (Int × Str)} {left ahead : Int}, (∀ p ∈ ps, POk p) → 1 ≤ left → left.natAbs < 2 ^ 900 → K (((pos c (exs ps))[(left - 1).toNat]?).map fun i => ahead + ((i : Nat) : Int)) →
    forC (fun (x6 : (Int × Str)) (s8 : Int × Int) (k9 : (Int × Int) → Prop) => (M_times_said x6.2 (Str.mk #[c]) x6.1 fun r28 => (if (decide (s8.1 ≤ r28)) = true then (M_position_said x6.2 (Str.mk #[c]) s8.1 fun r33 => (K (some (s8.2 + r33)))) else (k9 ((s8.1 - r28), (s8.2 + x6.1)))))) ps (left, ahead) fun s38 => (K none)
  | [], left, ahead, _, _, _, q => q
  | p :: ps, left, ahead, h, l1, lb, q => by
    have hp := h p List.mem_cons_self
    have p1 := hp.l1
    refine forC_hd ?_
    refine tsaid_ok hp.z1 hp.z12 (by omega) hp.lb ?_
    rw [exs_cons, pos_app] at q
    have pl := pos_len c (ex p)
    have nn := cn_pos c (ex p)
    show if decide (left ≤ cn c (ex p)) = true then _ else _
    by_cases e : left ≤ cn c (ex p)
    · rw [if_pos (decide_eq_true e)]
      rw [List.getElem?_append_left (by omega)] at q
      refine posaid_ok hp.z1 hp.z12 l1 lb e fun i hi => ?_
      have hi' : (pos c (ex p))[(left - 1).toNat]? = some i := hi
      rw [hi'] at q
      exact q
    · rw [if_neg (by simpa using e)]
      rw [List.getElem?_append_right (by omega), List.getElem?_map] at q
      refine pof_go (fun x hx => h x (List.mem_cons_of_mem _ hx)) (by show 1 ≤ left - cn c (ex p); omega) (by show (left - cn c (ex p)).natAbs < 2 ^ 900; omega) ?_
      have e2 : (left - cn c (ex p) - 1).toNat = (left - 1).toNat - (pos c (ex p)).length := by omega
      show K (((pos c (exs ps))[(left - cn c (ex p) - 1).toNat]?).map fun i => ahead + p.1 + ((i : Nat) : Int))
      rw [e2]
      rw [Option.map_map] at q
      have e3 : ((fun i => ahead + ((i : Nat) : Int)) ∘ fun x => x + (ex p).length) = fun i => ahead + p.1 + ((i : Nat) : Int) := by
        funext i
        show ahead + ((i + (ex p).length : Nat) : Int) = _
        rw [ex_len]
        omega
      rw [e3] at q
      exact q
theorem pof_ok {ps : List (Int × Str)} {m : Str} {c : Nat} (hm : m = Str.mk #[c]) (h : ∀ p ∈ ps, POk p) {k : Int} (k1 : 1 ≤ k) (kb : k.natAbs < 2 ^ 900) {K : Option Int → Prop} (q : K (((pos c (exs ps))[(k - 1).toNat]?).map fun i => ((i : Nat) : Int))) : M_position_of ps m k K := by
  subst hm
  refine pof_go h k1 kb ?_
  have e3 : (fun i => (0 : Int) + ((i : Nat) : Int)) = fun i => ((i : Nat) : Int) := funext fun i => Int.zero_add _
  rw [e3]
  exact q
def ansS (l : List Nat) (k : Int) : D := D.tup [D.v (V.int (if cn 111 ((lkb l none).take k.toNat) = 0 then 0 else ((((pos 111 (lkb l none)).getD (cn 111 ((lkb l none).take k.toNat) - 1).toNat 0 : Nat) : Int) + 1))), encO (fun y_ : Int => (D.v (V.int y_))) (((pos 111 (lkb l none))[(cn 111 ((lkb l none).take k.toNat)).toNat]?).map fun i => ((i : Nat) : Int))]
theorem b890 {k : Int} (h : k.natAbs < 2 ^ 890) : k.natAbs < 2 ^ 900 := Nat.lt_of_lt_of_le h (Nat.pow_le_pow_right (by decide) (by decide))
theorem cn_bd (m : Nat) : ∀ l : List Nat, 0 ≤ cn m l ∧ cn m l ≤ (l.length : Int) := fun l => by
  have e := pos_len m l
  refine ⟨by omega, ?_⟩
  have : (pos m l).length ≤ l.length := by
    clear e
    induction l with
    | nil => exact Nat.le_refl _
    | cons a l ih =>
      unfold pos
      split <;> simp <;> omega
  omega
theorem at_some {l : List Nat} {i : Int} (h0 : 0 ≤ i) (hi : i.toNat < l.length) : l[i.toNat]? = some (l.getD i.toNat 0) := by
  rw [List.getD_eq_getElem?_getD, List.getElem?_eq_getElem hi]
  rfl
theorem pos_of {c : Nat} {l : List Nat} {i : Nat} (h : l[i]? = some c) : (pos c l)[(cn c (l.take i)).toNat]? = some i := by
  have hi : i < l.length := (List.getElem?_eq_some_iff.mp h).1
  have pl := pos_len c (l.take i)
  have e : l.drop i = c :: l.drop (i + 1) := by
    rw [List.drop_eq_getElem_cons hi]
    rw [List.getElem?_eq_getElem hi] at h
    rw [Option.some.inj h]
  have tl : (l.take i).length = i := by rw [List.length_take]; omega
  have pe : pos c l = pos c (l.take i) ++ (pos c (l.drop i)).map (· + (l.take i).length) := by rw [← pos_app, List.take_append_drop]
  rw [pe, List.getElem?_append_right (by omega), show (cn c (l.take i)).toNat - (pos c (l.take i)).length = 0 by omega, e]
  show (List.map (· + (l.take i).length) ((if c = c then [0] else []) ++ _))[0]? = some i
  rw [if_pos rfl, tl]
  show some (0 + i) = some i
  rw [Nat.zero_add]
theorem cn_skip {o : List Nat} {a : Nat} : ∀ {b : Nat}, a ≤ b → (∀ i, a ≤ i → i < b → o[i]? = some 115) → cn 111 (o.take b) = cn 111 (o.take a)
  | 0, ab, _ => by rw [show a = 0 by omega]
  | b + 1, ab, h => by
    by_cases e : a = b + 1
    · rw [e]
    · rw [cn_succ 111 (h b (by omega) (by omega)), cn_skip (b := b) (by omega) fun i h1 h2 => h i h1 (by omega), if_neg (by decide), Int.add_zero]
structure Stay (l : List Nat) (k b e : Nat) : Prop where
  bk : b ≤ k
  ke : k ≤ e
  el : e < l.length
  mid : ∀ i, b ≤ i → i < e → (lkb l none)[i]? = some 115
  lo : b = 0 ∨ (lkb l none)[b - 1]? = some 111
  hi : (lkb l none)[e]? = some 111
theorem atS {l : List Nat} {i : Int} {c : Nat} (h0 : 0 ≤ i) (h : l[i.toNat]? = some c) : atI (S l).cps.toList i = some c := at_nat' h0 (by show (L (S l))[i.toNat]? = _; rw [L_S]; exact h)
theorem stay_ans {l : List Nat} {k : Int} {b e : Nat} (h : Stay l k.toNat b e) : ansS l k = D.tup [D.v (V.int (b : Int)), D.v (V.int (e : Int))] := by
  have me : cn 111 ((lkb l none).take e) = cn 111 ((lkb l none).take k.toNat) := cn_skip h.ke fun i a c => h.mid i (by have := h.bk; omega) c
  have mb : cn 111 ((lkb l none).take k.toNat) = cn 111 ((lkb l none).take b) := cn_skip h.bk fun i a c => h.mid i a (by have := h.ke; omega)
  have pe := pos_of h.hi
  rw [me] at pe
  unfold ansS
  rw [pe]
  have n0 := (cn_bd 111 ((lkb l none).take k.toNat)).1
  generalize hm : cn 111 ((lkb l none).take k.toNat) = m at *
  rcases h.lo with z | z
  · have : m = 0 := by
      rw [mb, z]
      rfl
    rw [if_pos this, z]
    rfl
  · by_cases b0 : b = 0
    · have : m = 0 := by
        rw [mb, b0]
        rfl
      rw [if_pos this, b0]
      rfl
    · have s := cn_succ 111 z
      rw [show b - 1 + 1 = b by omega, if_pos rfl, ← mb] at s
      have pz := pos_of z
      rw [if_neg (by have := (cn_bd 111 ((lkb l none).take (b - 1))).1; omega), show (m - 1).toNat = (cn 111 ((lkb l none).take (b - 1))).toNat by omega, List.getD_eq_getElem?_getD, pz]
      show D.tup [D.v (V.int (((b - 1 : Nat) : Int) + 1)), _] = _
      rw [show ((b - 1 : Nat) : Int) + 1 = (b : Int) by omega]
      rfl
theorem homesU {r : RT} {n t : Int} (sz : SZ r n) (t0 : 0 ≤ t) (t1 : t < n) {k : Int} (k0 : 0 ≤ k) (k1 : k ≤ n - 1) {K : Int → Prop} (q : K (cn 104 ((rowN r n t).take k.toNat))) : M_homes_until r n t k K := by
  have bg := sz.bg
  unfold M_homes_until
  refine along_ok sz t0 t1 (rounds_ok k0 k1 (row_ok sz t0 t1 fun ps hp => until_ok (c := 104) (by decide +kernel) hp.ok k0 (Nat.lt_of_lt_of_le (show _ < 2 ^ 890 by omega) (Nat.pow_le_pow_right (by decide) (by decide))) ?_))
  rw [hp.eq]
  exact q
theorem breaksU {r : RT} {n t : Int} (sz : SZ r n) (t0 : 0 ≤ t) (t1 : t < n) {k : Int} (k0 : 0 ≤ k) (k1 : k ≤ n - 1) {K : Int → Prop} (q : K (cn 115 ((lkb (rowN r n t) none).take (k - 1).toNat))) : M_breaks_until r n t k K := by
  have bg := sz.bg
  unfold M_breaks_until
  refine along_ok sz t0 t1 (rounds_ok k0 k1 (row_ok sz t0 t1 fun ps hp => like_ok hp.ok hp.ln hp.ne fun u hu eu => until_ok s_mk hu (by split <;> omega) (Nat.lt_of_lt_of_le (show _ < 2 ^ 890 by split <;> omega) (Nat.pow_le_pow_right (by decide) (by decide))) ?_))
  rw [eu, hp.eq, show (if k - 1 > 0 then k - 1 else 0).toNat = (k - 1).toNat by split <;> omega]
  exact q
theorem nS {s : Str} : ¬ (!(decide (V.str s = V.str s))) = true := by simp
theorem nD {p : Prop} [Decidable p] (h : p) : ¬ (!(decide p)) = true := by
  rw [decide_eq_true h]
  decide
theorem lst_le {w : Str × Str × Str} (hw : WV w) : lstW w ≤ 8 := by
  have := hw.h4
  have := hw.t4
  unfold lstW
  split <;> omega
theorem last_lk {r : RT} {n t : Int} (n4 : 4 ≤ n) : (lkb (rowN r n t) none)[(n - 2).toNat]? = some 111 := by
  have rl := rowN_len r n t
  rw [lkb_gn (by omega), if_neg]
  rw [List.getElem?_eq_none (by omega), List.getElem?_eq_getElem (by omega)]
  exact fun z => by cases z
theorem edge_ok {m : MT} {n t : Int} (hm : RV (rOf m)) (n4 : 4 ≤ n) (bg : n.natAbs < 2 ^ 890) {K : Int → Prop} (q : ∀ y, 0 ≤ y → y ≤ n - 2 → K y) : M_edge m n t K := by
  have s7 : m.1.natAbs ≤ 7 := hm.s7
  have s0 : m.1 ≠ 0 := hm.s0
  have bg2 : (n - 1).natAbs < 2 ^ 891 := by omega
  unfold M_edge
  rw [show (if m.1 < 0 then -m.1 else m.1) = (m.1.natAbs : Int) by split <;> omega]
  refine pick_ok (by simp) (by simp) fun g hg => draw_ok (by omega) (by omega) fun d d0 d1 => ⟨wide_mul (a := 891) (b := 4) bg2 (by omega) (by decide) (by decide) (by decide), fun _ => True, ?_, fun w _ => ?_⟩
  · split <;> trivial
  have pos : 0 < (n - 1) * (m.1.natAbs : Int) := Int.mul_pos (by omega) (by omega)
  refine ⟨wide_mul (a := 891) (b := 4) bg2 (by omega) (by decide) (by decide) (by decide), pos, wide_div (b := 4) (by omega) (by omega) (by decide) (by decide), draw_ok (by decide) (by decide) fun e e0 e1 => ?_⟩
  generalize (w % ((n - 1) * (m.1.natAbs : Int))) / (m.1.natAbs : Int) + e - 6 = z
  refine q _ ?_ ?_
  · split
    · omega
    · split <;> omega
  · split
    · omega
    · split <;> omega
theorem far_ok {n : Int} (n4 : 4 ≤ n) {K : Int → Prop} (q : ∀ y, 0 ≤ y → y ≤ n - 2 → K y) : M_pick ([(0 : Int), (n / (2 : Int)), (n - (2 : Int)), (n / (7 : Int)), ((10 : Int) ^ Int.toNat (8 : Int))] : List Int) fun r17 => (M_draw (50 : Int) fun r22 => (0 < (n - (1 : Int)) ∧ (K ((r17 + r22) % (n - (1 : Int)))))) := by
  refine pick_ok (by simp) (by simp) fun g hg => draw_ok (by decide) (by decide) fun d d0 d1 => ⟨by omega, ?_⟩
  have e1 := Int.emod_nonneg (g + d) (show n - 1 ≠ 0 by omega)
  have e2 := Int.emod_lt_of_pos (g + d) (show 0 < n - 1 by omega)
  exact q _ e1 (by omega)
theorem round_ok {m : MT} {n t : Int} (hm : RV (rOf m)) (n4 : 4 ≤ n) (bg : n.natAbs < 2 ^ 890) {K : Int → Prop} (q : ∀ y, 0 ≤ y → y ≤ n - 2 → K y) : M_round m n t K := by
  unfold M_round
  refine draw_ok (by decide) (by decide) fun d d0 d1 => ?_
  by_cases c : decide (V.int d = V.int 0) = true
  · refine ite_y c ?_
    by_cases e : decide (t < n - 1) = true
    · exact ite_y e (edge_ok hm n4 bg q)
    · exact ite_n e (far_ok n4 q)
  · exact ite_n c (far_ok n4 q)
theorem team_ok {m : MT} {n : Int} (hm : RV (rOf m)) (n4 : 40 ≤ n) (bg : n.natAbs < 2 ^ 890) {K : Int → Prop} (q : ∀ y, 0 ≤ y → y < n → K y) : M_team m n K := by
  have s7 : m.1.natAbs ≤ 7 := hm.s7
  unfold M_team
  refine pick_ok (by simp) (by simp) fun x hx => draw_ok (by decide) (by decide) fun d d0 d1 => ⟨cmul7 (n := n) (by omega) (by omega) (by omega) (Nat.lt_of_lt_of_le bg (Nat.pow_le_pow_right (by decide) (by decide))), by omega, by omega, by omega, pick_ok (by simp) (by simp) fun y hy => ?_⟩
  have e1 := Int.emod_nonneg (m.1 * (n - 2)) (show n - 1 ≠ 0 by omega)
  have e2 := Int.emod_lt_of_pos (m.1 * (n - 2)) (show 0 < n - 1 by omega)
  have e3 := Int.emod_nonneg (x + d) (show n - 1 ≠ 0 by omega)
  have e4 := Int.emod_lt_of_pos (x + d) (show 0 < n - 1 by omega)
  generalize (m.1 * (n - 2)) % (n - 1) = u at hy e1 e2
  generalize (x + d) % (n - 1) = v at hy e3 e4
  simp only [List.mem_cons, List.not_mem_nil, or_false] at hy
  exact q y (by omega) (by omega)
theorem great_ok {m : MT} (hm : RV (rOf m)) {K : Int → Prop} (q : ∀ n, SZ (rOf m) n → 40 ≤ n → n.natAbs < 2 ^ 889 → K n) : M_great m K := by
  have g := @lst_ge (rOf m).2.1
  have g8 := lst_le hm.w
  unfold M_great
  refine fewest_ok hm (pick_ok (by simp) (by simp) fun x hx => draw_ok (by decide) (by decide) fun d d0 d1 => ?_)
  have xb : 20 ≤ x ∧ x < 2 ^ 200 := by
    simp only [List.mem_cons, List.not_mem_nil, or_false] at hx
    rcases hx with rfl | rfl | rfl | rfl | rfl | rfl | rfl <;> decide +kernel
  have big : (2 : Int) ^ 200 = 1606938044258990275541962092341162602522202993782792835301376 := by decide +kernel
  rw [big] at xb
  have b2 : (2 * (1606938044258990275541962092341162602522202993782792835301376 + 2000) : Nat) < 2 ^ 889 := by decide +kernel
  exact q _ ⟨hm, by omega, by omega, Nat.lt_of_le_of_lt (show _ ≤ 2 * (1606938044258990275541962092341162602522202993782792835301376 + 2000) by omega) (Nat.lt_of_lt_of_le b2 (Nat.pow_le_pow_right (by decide) (by decide)))⟩ (by omega) (Nat.lt_of_le_of_lt (show _ ≤ 2 * (1606938044258990275541962092341162602522202993782792835301376 + 2000) by omega) b2)
/-! stays -/
theorem up_ex {o : List Nat} (h : ∀ i, i < o.length → o[i]? = some 115 ∨ o[i]? = some 111) (last : o[o.length - 1]? = some 111) : ∀ (d k : Nat), k + d = o.length - 1 → ∃ e, k ≤ e ∧ e < o.length ∧ (∀ i, k ≤ i → i < e → o[i]? = some 115) ∧ o[e]? = some 111
  | 0, k, hk => by
    have lt := (List.getElem?_eq_some_iff.mp last).1
    refine ⟨k, Nat.le_refl _, by omega, fun i h1 h2 => by omega, ?_⟩
    rw [show k = o.length - 1 by omega]
    exact last
  | d + 1, k, hk => by
    rcases h k (by omega) with c | c
    · obtain ⟨e, h1, h2, h3, h4⟩ := up_ex h last d (k + 1) (by omega)
      refine ⟨e, by omega, h2, fun i i1 i2 => ?_, h4⟩
      by_cases z : i = k
      · rw [z]
        exact c
      · exact h3 i (by omega) i2
    · exact ⟨k, Nat.le_refl _, by omega, fun i h1 h2 => by omega, c⟩
theorem down_ex {o : List Nat} (h : ∀ i, i < o.length → o[i]? = some 115 ∨ o[i]? = some 111) : ∀ k : Nat, k < o.length → ∃ b, b ≤ k ∧ (∀ i, b ≤ i → i < k → o[i]? = some 115) ∧ (b = 0 ∨ o[b - 1]? = some 111)
  | 0, _ => ⟨0, Nat.le_refl _, fun i h1 h2 => by omega, .inl rfl⟩
  | k + 1, hk => by
    rcases h k (by omega) with c | c
    · obtain ⟨b, h1, h2, h3⟩ := down_ex h k (by omega)
      refine ⟨b, by omega, fun i i1 i2 => ?_, h3⟩
      by_cases z : i = k
      · rw [z]
        exact c
      · exact h2 i i1 (by omega)
    · exact ⟨k + 1, Nat.le_refl _, fun i h1 h2 => by omega, .inr c⟩
theorem lk_or {l : List Nat} (i : Nat) (h : i < (lkb l none).length) : (lkb l none)[i]? = some 115 ∨ (lkb l none)[i]? = some 111 := by
  rw [lkb_len] at h
  rw [lkb_gn h]
  split
  · exact .inl rfl
  · exact .inr rfl
theorem lk_end {l : List Nat} (h : 0 < l.length) : (lkb l none)[l.length - 1]? = some 111 := by
  rw [lkb_gn (by omega), if_neg]
  rw [List.getElem?_eq_none (by omega), List.getElem?_eq_getElem (by omega)]
  exact fun z => by cases z
theorem stay_ex {l : List Nat} {k : Nat} (h : k < l.length) : ∃ b e, Stay l k b e := by
  have ll := lkb_len l none
  obtain ⟨b, b1, b2, b3⟩ := down_ex (o := lkb l none) lk_or k (by omega)
  obtain ⟨e, e1, e2, e3, e4⟩ := up_ex (o := lkb l none) lk_or (by rw [ll]; exact lk_end (by omega)) ((lkb l none).length - 1 - k) k (by omega)
  refine ⟨b, e, b1, e1, by omega, fun i i1 i2 => ?_, b3, e4⟩
  by_cases c : i < k
  · exact b2 i i1 c
  · exact e3 i (by omega) i2
theorem Stay.other {l : List Nat} {k b e : Nat} (h : Stay l k b e) {j : Nat} (j1 : b ≤ j) (j2 : j ≤ e) : Stay l j b e := ⟨j1, j2, h.el, h.mid, h.lo, h.hi⟩
theorem Stay.same {l : List Nat} {k b e : Nat} (h : Stay l k b e) : ∀ d : Nat, b + d ≤ e → l[b + d]? = l[b]?
  | 0, _ => rfl
  | d + 1, hd => by
    have el := h.el
    have m := h.mid (b + d) (by omega) (by omega)
    rw [lkb_gn (by omega)] at m
    by_cases c : l[b + d + 1]? = l[b + d]?
    · rw [← Nat.add_assoc, c]
      exact h.same d (by omega)
    · rw [if_neg c] at m
      cases m
theorem cn_run {c x : Nat} {l : List Nat} {b : Nat} : ∀ d : Nat, (∀ i, b ≤ i → i < b + d → l[i]? = some x) → cn c (l.take (b + d)) = cn c (l.take b) + (if x = c then (d : Int) else 0)
  | 0, _ => by
    split <;> simp
  | d + 1, h => by
    have ih := cn_run (c := c) d fun i h1 h2 => h i h1 (by omega)
    rw [← Nat.add_assoc, cn_succ c (h (b + d) (by omega) (by omega)), ih]
    split <;> omega
theorem pair_ans {l : List Nat} {k : Int} {b e : Nat} (h : Stay l k.toNat b e) {v1 : Int} {v2 : Option Int} (hv : ansS l k = D.tup [D.v (V.int v1), encO (fun y_ : Int => (D.v (V.int y_))) v2]) : v1 = (b : Int) ∧ v2 = some (e : Int) := by
  rw [stay_ans h] at hv
  have := D.tup.inj hv
  obtain ⟨h1, h2⟩ := List.cons.inj this
  obtain ⟨h3, _⟩ := List.cons.inj h2
  refine ⟨(V.int.inj (D.v.inj h1)).symm, ?_⟩
  cases v2 with
  | none => cases h3
  | some y => rw [V.int.inj (D.v.inj h3)]
theorem day_okT {k n : Int} (k0 : 0 ≤ k) (k1 : k < n) {K : Unit → Prop} (q : K ()) : M_check_day k n K := by
  unfold M_check_day M_is_count M_is_integer
  show if (!decide (0 ≤ k)) = true then _ else _
  rw [decide_eq_true k0, if_neg (by decide), if_neg (by simp only [decide_eq_true_eq]; omega)]
  exact q
theorem stay_prog {r : RT} {n t : Int} (sz : SZ r n) (t0 : 0 ≤ t) (t1 : t < n) {k : Int} (k0 : 0 ≤ k) (k1 : k < n - 1) {b e : Nat} (st : Stay (rowN r n t) k.toNat b e) {K : Int × Int → Prop} (q : K ((b : Int), (e : Int))) : M_stay_at r n t k K := by
  have n4 := sz.n4
  have bg := sz.bg
  unfold M_stay_at
  refine along_ok sz t0 t1 (day_okT k0 k1 ?_)
  refine row_ok sz t0 t1 fun ps hp => like_ok hp.ok hp.ln hp.ne fun u hu eu => until_ok o_mk hu k0 (b890 (Nat.lt_of_le_of_lt (show _ ≤ n.natAbs by omega) bg)) ?_
  rw [eu, hp.eq]
  have key : ∀ v : Int × Option Int, ansS (rowN r n t) k = D.tup [D.v (V.int v.1), encO (fun y_ : Int => (D.v (V.int y_))) v.2] → ∃ y, v.2 = some y ∧ K (v.1, y) := fun v hv => by
    obtain ⟨v1, v2⟩ := v
    obtain ⟨rfl, rfl⟩ := pair_ans st hv
    exact ⟨_, rfl, q⟩
  unfold ansS at key
  have ll := lkb_len (rowN r n t) none
  rw [rowN_len] at ll
  generalize ho : lkb (rowN r n t) none = ol at key ll ⊢
  rw [hp.eq, ho] at eu
  have c1 := cn_bd 111 (ol.take k.toNat)
  rw [List.length_take] at c1
  have pl := pos_len 111 (ol.take k.toNat)
  have pt : ∀ i : Nat, (i : Int) < cn 111 (ol.take k.toNat) → (pos 111 (ol.take k.toNat))[i]? = (pos 111 ol)[i]? := fun i hi => pos_take 111 hi
  generalize cn 111 (ol.take k.toNat) = m at key c1 pt pl ⊢
  refine ⟨fun v => v = (if m = 0 then 0 else ((((pos 111 ol).getD (m - 1).toNat 0 : Nat) : Int) + 1)), ?_, fun v hv => ?_⟩
  · by_cases z : m = 0
    · refine ite_y (by rw [z]; exact decide_eq_true rfl) ?_
      rw [if_pos z]
    · refine ite_n (by
        rw [decide_eq_true_eq]
        exact fun w => z (V.int.inj w)) ?_
      refine pof_ok o_mk hu (by omega) (b890 (Nat.lt_of_le_of_lt (show _ ≤ n.natAbs by omega) bg)) ?_
      rw [eu]
      have hx := pt (m - 1).toNat (by omega)
      rw [List.getElem?_eq_getElem (by omega)] at hx
      rw [← hx]
      refine ⟨_, rfl, ?_⟩
      rw [if_neg z, List.getD_eq_getElem?_getD, ← hx]
      rfl
  · subst hv
    refine pof_ok o_mk hu (by omega) (b890 (Nat.lt_of_le_of_lt (show _ ≤ n.natAbs by omega) bg)) ?_
    rw [eu, show m + 1 - 1 = m by omega]
    exact key (_, _) rfl
/-! the law's own end -/
theorem mk_eq {r : RT} {n t : Int} {k b e : Nat} (h : Stay (rowN r n t) k b e) {i : Nat} (i1 : b ≤ i) (i2 : i ≤ e) : mkF r n t (i : Int) = mkF r n t (b : Int) := by
  have rl := rowN_len r n t
  have el := h.el
  have s := h.same (i - b) (by omega)
  rw [show b + (i - b) = i by omega, rowN_get (by omega), rowN_get (by omega)] at s
  exact Option.some.inj s
theorem mk_ne {r : RT} {n t : Int} {i : Nat} (h : i + 1 < (n - 1).toNat) (g : (lkb (rowN r n t) none)[i]? = some 111) : mkF r n t ((i + 1 : Nat) : Int) ≠ mkF r n t (i : Int) := by
  have rl := rowN_len r n t
  intro z
  rw [lkb_gn (by omega), if_pos (by rw [rowN_get h, rowN_get (by omega), z])] at g
  cases g
theorem ends_ok {m : MT} {n t : Int} (sz : SZ (rOf m) n) (t0 : 0 ≤ t) (t1 : t < n) {k b e : Nat} (h : Stay (rowN (rOf m) n t) k b e) {K : Bool → Prop} (q : K true) : M_ends_right m n t ((b : Int), (e : Int)) K := by
  have n4 := sz.n4
  have rl := rowN_len (rOf m) n t
  have el := h.el
  have bk := h.bk
  have ke := h.ke
  have fin : ∀ {K : Bool → Prop}, K true → (if decide (V.int (e : Int) = V.int (n - 2)) = true then K true else (M_sign m n t ((e : Int) + 1) fun r26 => K (!(decide (V.str r26 = V.str (S [mkF (rOf m) n t (b : Int)])))))) := fun {K} q => by
    by_cases c : (e : Int) = n - 2
    · exact ite_y (by rw [eqI']; exact c) q
    · refine ite_n (by rw [eqI']; exact c) (sign_ok sz t0 t1 (by omega) (by omega) ?_)
      have ne := mk_ne (i := e) (by omega) h.hi
      rw [mk_eq h (i := e) (by omega) (Nat.le_refl _), show ((e + 1 : Nat) : Int) = (e : Int) + 1 by omega] at ne
      rw [eqM, decide_eq_false ne]
      exact q
  unfold M_ends_right
  refine sign_ok sz t0 t1 (show 0 ≤ (b : Int) by omega) (show (b : Int) < n - 1 by omega) (sign_ok sz t0 t1 (show 0 ≤ (e : Int) by omega) (show (e : Int) < n - 1 by omega) ?_)
  dsimp only
  rw [mk_eq h (i := e) (by omega) (Nat.le_refl _)]
  refine ite_n nS ?_
  by_cases c : decide ((0 : Int) < (b : Int)) = true
  · refine ite_y c ?_
    rw [decide_eq_true_eq] at c
    refine sign_ok sz t0 t1 (by omega) (by omega) (ite_n ?_ (fin q))
    have ne := mk_ne (i := b - 1) (by omega) (h.lo.resolve_left (by omega))
    rw [show ((b - 1 + 1 : Nat) : Int) = (b : Int) by omega, show ((b - 1 : Nat) : Int) = (b : Int) - 1 by omega] at ne
    rw [eqM, decide_eq_false fun z => ne z.symm]
    decide
  · exact ite_n c (fin q)
theorem stayr_ok {m : MT} {n t s : Int} (sz : SZ (rOf m) n) (t0 : 0 ≤ t) (t1 : t < n) (s0 : 0 ≤ s) (s1 : s ≤ n - 2) {K : Bool → Prop} (q : K true) : M_stay_right m (rOf m) n t s K := by
  have n4 := sz.n4
  have bg := sz.bg
  have rl := rowN_len (rOf m) n t
  have ll := lkb_len (rowN (rOf m) n t) none
  obtain ⟨b, e, h⟩ := stay_ex (l := rowN (rOf m) n t) (k := s.toNat) (by omega)
  have el := h.el
  have bk := h.bk
  have ke := h.ke
  have fin : (if decide (V.int (e : Int) = V.int (n - 2)) = true then K true else (M_stay_at (rOf m) n t ((e : Int) + 1) fun r113 => K (decide (V.int r113.1 = V.int ((e : Int) + 1))))) := by
    by_cases c : (e : Int) = n - 2
    · exact ite_y (by rw [eqI']; exact c) q
    · obtain ⟨b2, e2, h2⟩ := stay_ex (l := rowN (rOf m) n t) (k := ((e : Int) + 1).toNat) (by omega)
      have bk2 := h2.bk
      have ke2 := h2.ke
      refine ite_n (by rw [eqI']; exact c) (stay_prog sz t0 t1 (by omega) (by omega) h2 ?_)
      have : b2 = e + 1 := by
        by_cases z : b2 ≤ e
        · have g := h2.mid e z (by omega)
          rw [h.hi] at g
          cases g
        · omega
      rw [decide_eq_true (show V.int ((b2 : Nat) : Int) = V.int ((e : Int) + 1) by rw [this]; rfl)]
      exact q
  unfold M_stay_right
  refine stay_prog sz t0 t1 s0 (by omega) h (ite_n (by decide) (ite_y (decide_eq_true (show 0 ≤ (b : Int) by omega)) (ite_y (decide_eq_true (show (b : Int) ≤ s by omega)) (ite_y (decide_eq_true (show s ≤ (e : Int) by omega)) (ite_n (nD (show (e : Int) ≤ n - 2 by omega)) ?_)))))
  refine ends_ok sz t0 t1 h (ite_n (by decide) (breaksU sz t0 t1 (by omega) (by omega) (breaksU sz t0 t1 (by omega) (by omega) ?_)))
  have rb := cn_run (c := 115) (l := lkb (rowN (rOf m) n t) none) (b := b) (x := 115) (e - b) fun i i1 i2 => h.mid i i1 (by omega)
  rw [if_pos rfl, show b + (e - b) = e by omega] at rb
  have rh := cn_run (c := 104) (l := rowN (rOf m) n t) (b := b) (x := mkF (rOf m) n t (b : Int)) (e - b + 1) fun i i1 i2 => by
    rw [rowN_get (by omega), mk_eq h i1 (by omega)]
  rw [show b + (e - b + 1) = e + 1 by omega] at rh
  dsimp only
  rw [show ((e : Int) + 1 - 1).toNat = e by omega, show ((b : Int) + 1 - 1).toNat = b by omega, rb]
  refine ite_n (nD (by congr 1; omega)) (homesU sz t0 t1 (by omega) (by omega) (homesU sz t0 t1 (by omega) (by omega) ?_))
  rw [show ((e : Int) + 1).toNat = e + 1 by omega, Int.toNat_natCast, rh]
  refine ⟨fun v => v = (if mkF (rOf m) n t (b : Int) = 104 then (e : Int) - b + 1 else 0), sign_ok sz t0 t1 (by omega) (by omega) ?_, fun v hv => ?_⟩
  · rw [S_h, eqM]
    by_cases c : mkF (rOf m) n t (b : Int) = 104
    · refine ite_y (decide_eq_true c) ?_
      rw [if_pos c]
    · refine ite_n (by rw [decide_eq_true_eq]; exact c) ?_
      rw [if_neg c]
  subst hv
  refine ite_n (nD (by
    congr 1
    split <;> omega)) (draw_ok (by decide) (by decide) fun d d0 d1 => ⟨wide_mul (a := 890) (b := 4) (Nat.lt_of_le_of_lt (show _ ≤ n.natAbs by omega) bg) (by omega) (by decide) (by decide) (by decide), by show 3 < _; decide, ?_⟩)
  have dv : 0 ≤ ((e : Int) - b + 1) * d / 8 ∧ ((e : Int) - b + 1) * d / 8 ≤ (e : Int) - b := by
    have dd : d = 0 ∨ d = 1 ∨ d = 2 ∨ d = 3 ∨ d = 4 ∨ d = 5 ∨ d = 6 ∨ d = 7 := by omega
    rcases dd with rfl | rfl | rfl | rfl | rfl | rfl | rfl | rfl <;> omega
  generalize ((e : Int) - b + 1) * d / 8 = w at dv
  refine mapC_ok (fun _ => ((b : Int), (e : Int))) (fun x hx k' hk => ?_) ⟨⟨rfl, rfl, rfl, rfl⟩, ?_⟩
  · have xb : (b : Int) ≤ x ∧ x ≤ (e : Int) := by
      simp only [List.mem_cons, List.not_mem_nil, or_false] at hx
      omega
    exact stay_prog sz t0 t1 (by omega) (by omega) (h.other (j := x.toNat) (by omega) (by omega)) hk
  refine ite_n ?_ ?_
  · show ¬ (!(PyData.eqv (pyOf (D.lst (([((b : Int), (e : Int)), ((b : Int), (e : Int)), ((b : Int), (e : Int))] : List (Int × Int)).map (fun y_ : (Int × Int) => (D.tup [(D.v (V.int y_.1)), (D.v (V.int y_.2))]))))) (pyOf (D.lst (([((b : Int), (e : Int)), ((b : Int), (e : Int)), ((b : Int), (e : Int))] : List (Int × Int)).map (fun y_ : (Int × Int) => (D.tup [(D.v (V.int y_.1)), (D.v (V.int y_.2))]))))))) = true
    rw [SeqAt.eqv_refl _ (SeqAt.canLay_of_shaped rfl)]
    decide
  by_cases c : decide ((0 : Int) < (b : Int)) = true
  · refine ite_y c ?_
    rw [decide_eq_true_eq] at c
    obtain ⟨b2, e2, h2⟩ := stay_ex (l := rowN (rOf m) n t) (k := ((b : Int) - 1).toNat) (by omega)
    have bk2 := h2.bk
    have ke2 := h2.ke
    have el2 := h2.el
    refine stay_prog sz t0 t1 (by omega) (by omega) h2 (ite_n (nD ?_) fin)
    have : e2 = b - 1 := by
      by_cases z : b - 1 < e2
      · have g := h2.mid (b - 1) (by omega) z
        rw [h.lo.resolve_left (by omega)] at g
        cases g
      · omega
    show V.int ((e2 : Nat) : Int) = V.int ((b : Int) - 1)
    rw [show ((e2 : Nat) : Int) = (b : Int) - 1 by omega]
  · exact ite_n c fin
theorem mids : ∀ z ∈ ([("h" : Str), ("a" : Str), ("ha" : Str), ("ah" : Str), ("hhaa" : Str), ("haah" : Str), ("haha" : Str), ("hha" : Str)] : List Str), 1 ≤ (L z).length ∧ (L z).length ≤ 4 ∧ ∀ c ∈ L z, c = 104 ∨ c = 97 := by decide +kernel
theorem drawn_ok {K : MT → Prop} (q : ∀ m, RV (rOf m) → K m) : M_drawn K := by
  unfold M_drawn
  refine model_ok fun m hm => draw_ok (by decide) (by decide) fun a a0 a1 => ?_
  by_cases c : decide ((0 : Int) < a) = true
  · refine ite_y c (pickS_ok (by decide) (by decide) fun z hz => ?_)
    obtain ⟨z1, z2, z3⟩ := mids z hz
    exact q _ ⟨hm.s0, hm.s7, ⟨hm.w.h4, z1, z2, hm.w.t4, hm.w.mh, z3, hm.w.mt⟩, hm.st⟩
  · exact ite_n c (q _ hm)
theorem right_true : M_right fun r => r = true := by
  unfold M_right
  refine forC_ok (fun _ => True) (fun x _ s k4 _ q => drawn_ok fun m hm => made_ok hm (great_ok hm fun n sz n40 nb => forC_ok (fun _ => True) (fun y _ u k' _ hk => team_ok hm n40 sz.bg fun t t0 t1 => round_ok hm (by omega) sz.bg fun s s0 s1 => pick_ok (by simp) (by simp) fun z hz => forC_ok (fun _ => True) (fun v hv u2 k2 _ hk2 => ?_) trivial fun _ _ => hk _ trivial) trivial fun _ _ => q () trivial)) trivial fun _ _ => rfl
  have vb : 0 ≤ v ∧ v ≤ n - 2 := by
    simp only [List.mem_cons, List.not_mem_nil, or_false] at hz hv
    omega
  exact stayr_ok sz t0 t1 vb.1 vb.2 (ite_n (by decide) (hk2 _ trivial))

def sp_law (K : PySem.W.Frag) : Sp := fun vs H Q _ => ∃ (a : Addr) (ns : List Int), vs = [.ref a] ∧ SqL K H a (ns.map V.int) ∧ ns.length ≤ 63 ∧ ∀ H1 : Hp, Q (.bl true) H1
theorem law_enter {K : PySem.W.Frag} {H : Hp} {a : Addr} {ns : List Int} (hl : ns.length ≤ 63) (_ : Only H) (hS : SqL K H a (ns.map V.int)) : sp_law K [.ref a] H (fun v _ => v = .bl true) fun _ _ _ => False := ⟨a, ns, rfl, hS, hl, fun _ => rfl⟩
theorem sq_keep {K : PySem.W.Frag} {H H1 : Hp} {a : Addr} {xs : List V} (k : ∀ b o, H b = some o → H1 b = some o) (h : SqL K H a xs) : SqL K H1 a xs := by
  rcases h with (h | ⟨o, h⟩) | h
  · exact .inl (.inl (k _ _ h))
  · exact .inl (.inr ⟨o, k _ _ h⟩)
  · exact .inr h
theorem ok_law {P : Program} {w : World} {K : PySem.W.Frag} {mg : Str → Option Value} {base : Heap} {A : Ad} (T : Txt w K mg A) : FnG P w K mg base 14 A.a_law A.d_law ["_law_script"] (sp_law K) := by
  refine okG T.F_law sc_law (fun vs H Q E h => ?_) (fun cdv A_ outer s_ H_0 vs Q E gu hr h => ?_)
  · obtain ⟨a, ns, rfl, _⟩ := h
    rfl
  · obtain ⟨a, ns, rfl, hS, hl, hQ⟩ := h
    refine ⟨_, pss_one (ps_ret (pe_callB (cr_all rfl) (by rfl) T.z_all (by decide +kernel) (pa_cons (pe_lc (own := [("_law_k", 1)]) (g := gName 1) rfl sc_law.nd
      (pi_range1 (by rfl) T.z_range (pa_cons (pe_callB (call_max2 rfl) (by rfl) T.z_max (by decide +kernel) (pa_cons pe_int (pa_cons (pe_callB (call_min2 rfl) (by rfl) T.z_min (by decide +kernel) (pa_cons (pe_callB call_len (by rfl) T.z_len PySem.boot_len (pa_cons (pv 0) pa_nil)) (pa_cons pe_int pa_nil))) pa_nil))) pa_nil))
      (blkOk_by (N := ["_law_script", "_law_k"]) (sc := defScope s_law) (by decide +kernel)) (fun _ _ _ _ _ => pg_name (i := 1) sc_law.nd rfl (by first | exact Or.inl rfl | exact Or.inr rfl)) (fun _ _ _ _ _ => pts_nil)
      (fun _ _ _ _ _ => pe_callG (ok_right T) gu (hr.mono (by decide)) (by rfl) T.g_right T.F_right.kp T.b_right (pa_cons (pe_call (ok_pot T) (hr.mono (by decide)) (by rfl) T.g_pot T.F_pot.kp T.b_pot .nil pass0 (pa_cons (pv 0) (pa_cons (pv 1) pa_nil))) pa_nil))) pa_nil))), ?_⟩
    refine ⟨_, rfl, _, ns.length, rfl, .inl ⟨_, hS, by rw [List.length_map]⟩, _, _, rfl, _, _, rfl, _, rfl, ?_, ?_, fun L nl => ?_⟩
    · split <;> split <;> omega
    · split <;> split <;> omega
    have hsq : ∀ H : Hp, (∀ o, H_0 a = some o → H a = some o) → SqL K H a (ns.map V.int) := fun H k => by
      rcases hS with (h | ⟨o, h⟩) | h
      · exact .inl (.inl (k _ h))
      · exact .inl (.inr ⟨o, k _ h⟩)
      · exact .inr h
    refine lc_range (lo := 0) (fun i H => (∀ o, H_0 a = some o → H a = some o) ∧ ∃ n, n ≤ i ∧ H L = some (.lst (List.replicate n (.bl true)))) ⟨fun o h => (Rx.Ext.new nl).keep h, 0, Nat.le_refl _, upd_same⟩ (fun i H hi ⟨hS1, n, hn, hL⟩ => ?_) (fun H ⟨hS1, n, hn, hL⟩ => ?_)
    · refine ⟨rfl, ?_⟩
      refine tyes_of ?_
      have hi4 : i < 64 := by
        refine Nat.lt_of_lt_of_le hi ?_
        split <;> split <;> omega
      refine ⟨_, rfl, _, rfl, a, ns, 0 + (i : Int), rfl, hsq H hS1, hl, by omega, by omega, fun p H1 i1 j1 np e1 hp hj => ?_⟩
      refine ⟨[p], p, fun r => r = true, rfl, ⟨fun _ _ _ h => h, fun _ h => h, fun m hm => ?_, fun b hb => ?_, fun b hb => hb, fun c hc => absurd hc List.not_mem_nil⟩, right_true, fun r u H2 hr2 e2 hu => ?_⟩
      · rw [List.mem_singleton.mp hm, hp]
        exact fun z => nomatch z
      · rw [List.mem_singleton.mp hb]
        exact (⟨i1, j1, hp, hj⟩ : PotH _ _)
      · obtain rfl := of_v hu
        have e3 : ∀ b o, H b = some o → H2 b = some o := fun b o h => e2.kp b o (fun z => by
          rw [(List.mem_singleton.mp z : b = p), np] at h
          cases h) (e1.keep h)
        refine ⟨_, e3 _ _ hL, ?_, fun o h => ?_, n + 1, Nat.succ_le_succ hn, by rw [upd_same, hr2, List.replicate_succ']⟩
        · rw [List.length_replicate]
          exact Nat.lt_of_le_of_lt (show n ≤ 64 by omega) (by decide)
        · rw [upd_ne (ne_of_none h nl)]
          exact e3 _ _ (hS1 _ h)
    · refine ⟨L, List.replicate n true, rfl, .inl (.inl (by rw [List.map_replicate]; exact hL)), ?_⟩
      have : (List.replicate n true).all id = true := by
        rw [List.all_eq_true]
        intro x hx
        rw [(List.mem_replicate.mp hx).2]
        rfl
      rw [this]
      exact hQ _

theorem all_mk {l : PySem.W.OpenLaw} {w : World} {K : PySem.W.Frag} {h : Heap} {mg : Str → Option Value} {fa Adraw Apick Amarks Amodel Adrawn Ais_marks Acheck_part AWord_init Ais_integer ARule_init Amade Afewest Agreat Ateam Aedge Around AWord_least ARule_least_size Ais_size Acheck_size Ais_count Acheck_team Acheck_along Acheck_day ARule_stander ARule_step ARule_word AWord_head AWord_tail Astretches Acheck_seats Astander_mark Aseat Acontrary_marks Acheck_places AWord_mark ARule_turned Aturned_if Amark_at Amark_of Amarks_from Arow Acompared Alikeness Atimes_said Atimes_until Aposition_said Aposition_of Astay_at Astander Acontrary Aat Asign Aends_right Acheck_rounds Abreaks_until Ahomes_until Astay_right Aright Apot Alaw CWord CRule : Addr} (X : K.In h) (G : h.Ns mainGlobals mg) (hfa : mg "law" = some (.ref fa))
    {oddraw andraw : Option Addr} {sldraw : Array (Option Value)} {ocdraw kVdraw dcdraw pmdraw cddraw ctdraw : Value}
    {odpick anpick : Option Addr} {slpick : Array (Option Value)} {ocpick kVpick dcpick pmpick cdpick ctpick : Value}
    {odmarks anmarks : Option Addr} {slmarks : Array (Option Value)} {ocmarks kVmarks dcmarks pmmarks cdmarks ctmarks : Value}
    {odmodel anmodel : Option Addr} {slmodel : Array (Option Value)} {ocmodel kVmodel dcmodel pmmodel cdmodel ctmodel : Value}
    {oddrawn andrawn : Option Addr} {sldrawn : Array (Option Value)} {ocdrawn kVdrawn dcdrawn pmdrawn cddrawn ctdrawn : Value}
    {odis_marks anis_marks : Option Addr} {slis_marks : Array (Option Value)} {ocis_marks kVis_marks dcis_marks pmis_marks cdis_marks ctis_marks : Value}
    {odcheck_part ancheck_part : Option Addr} {slcheck_part : Array (Option Value)} {occheck_part kVcheck_part dccheck_part pmcheck_part cdcheck_part ctcheck_part : Value}
    {odWord_init anWord_init : Option Addr} {slWord_init : Array (Option Value)} {ocWord_init kVWord_init dcWord_init pmWord_init cdWord_init ctWord_init : Value}
    {odis_integer anis_integer : Option Addr} {slis_integer : Array (Option Value)} {ocis_integer kVis_integer dcis_integer pmis_integer cdis_integer ctis_integer : Value}
    {odRule_init anRule_init : Option Addr} {slRule_init : Array (Option Value)} {ocRule_init kVRule_init dcRule_init pmRule_init cdRule_init ctRule_init : Value}
    {TRule_init : Addr} {toRule_init : Option Addr} {tiRule_init : Nat} {tsRule_init : Array (Option Value)} 
    {odmade anmade : Option Addr} {slmade : Array (Option Value)} {ocmade kVmade dcmade pmmade cdmade ctmade : Value}
    {odfewest anfewest : Option Addr} {slfewest : Array (Option Value)} {ocfewest kVfewest dcfewest pmfewest cdfewest ctfewest : Value}
    {odgreat angreat : Option Addr} {slgreat : Array (Option Value)} {ocgreat kVgreat dcgreat pmgreat cdgreat ctgreat : Value}
    {odteam anteam : Option Addr} {slteam : Array (Option Value)} {octeam kVteam dcteam pmteam cdteam ctteam : Value}
    {odedge anedge : Option Addr} {sledge : Array (Option Value)} {ocedge kVedge dcedge pmedge cdedge ctedge : Value}
    {odround anround : Option Addr} {slround : Array (Option Value)} {ocround kVround dcround pmround cdround ctround : Value}
    {PWord_least : Addr}
    {RWord_least : List Value}
    {odWord_least anWord_least : Option Addr} {slWord_least : Array (Option Value)} {ocWord_least kVWord_least dcWord_least pmWord_least cdWord_least ctWord_least : Value}
    {PRule_least_size : Addr}
    {RRule_least_size : List Value}
    {odRule_least_size anRule_least_size : Option Addr} {slRule_least_size : Array (Option Value)} {ocRule_least_size kVRule_least_size dcRule_least_size pmRule_least_size cdRule_least_size ctRule_least_size : Value}
    {odis_size anis_size : Option Addr} {slis_size : Array (Option Value)} {ocis_size kVis_size dcis_size pmis_size cdis_size ctis_size : Value}
    {odcheck_size ancheck_size : Option Addr} {slcheck_size : Array (Option Value)} {occheck_size kVcheck_size dccheck_size pmcheck_size cdcheck_size ctcheck_size : Value}
    {odis_count anis_count : Option Addr} {slis_count : Array (Option Value)} {ocis_count kVis_count dcis_count pmis_count cdis_count ctis_count : Value}
    {odcheck_team ancheck_team : Option Addr} {slcheck_team : Array (Option Value)} {occheck_team kVcheck_team dccheck_team pmcheck_team cdcheck_team ctcheck_team : Value}
    {odcheck_along ancheck_along : Option Addr} {slcheck_along : Array (Option Value)} {occheck_along kVcheck_along dccheck_along pmcheck_along cdcheck_along ctcheck_along : Value}
    {odcheck_day ancheck_day : Option Addr} {slcheck_day : Array (Option Value)} {occheck_day kVcheck_day dccheck_day pmcheck_day cdcheck_day ctcheck_day : Value}
    {PRule_stander : Addr}
    {RRule_stander : List Value}
    {odRule_stander anRule_stander : Option Addr} {slRule_stander : Array (Option Value)} {ocRule_stander kVRule_stander dcRule_stander pmRule_stander cdRule_stander ctRule_stander : Value}
    {PRule_step : Addr}
    {RRule_step : List Value}
    {odRule_step anRule_step : Option Addr} {slRule_step : Array (Option Value)} {ocRule_step kVRule_step dcRule_step pmRule_step cdRule_step ctRule_step : Value}
    {PRule_word : Addr}
    {RRule_word : List Value}
    {odRule_word anRule_word : Option Addr} {slRule_word : Array (Option Value)} {ocRule_word kVRule_word dcRule_word pmRule_word cdRule_word ctRule_word : Value}
    {PWord_head : Addr}
    {RWord_head : List Value}
    {odWord_head anWord_head : Option Addr} {slWord_head : Array (Option Value)} {ocWord_head kVWord_head dcWord_head pmWord_head cdWord_head ctWord_head : Value}
    {PWord_tail : Addr}
    {RWord_tail : List Value}
    {odWord_tail anWord_tail : Option Addr} {slWord_tail : Array (Option Value)} {ocWord_tail kVWord_tail dcWord_tail pmWord_tail cdWord_tail ctWord_tail : Value}
    {odstretches anstretches : Option Addr} {slstretches : Array (Option Value)} {ocstretches kVstretches dcstretches pmstretches cdstretches ctstretches : Value}
    {odcheck_seats ancheck_seats : Option Addr} {slcheck_seats : Array (Option Value)} {occheck_seats kVcheck_seats dccheck_seats pmcheck_seats cdcheck_seats ctcheck_seats : Value}
    {odstander_mark anstander_mark : Option Addr} {slstander_mark : Array (Option Value)} {ocstander_mark kVstander_mark dcstander_mark pmstander_mark cdstander_mark ctstander_mark : Value}
    {odseat anseat : Option Addr} {slseat : Array (Option Value)} {ocseat kVseat dcseat pmseat cdseat ctseat : Value}
    {odcontrary_marks ancontrary_marks : Option Addr} {slcontrary_marks : Array (Option Value)} {occontrary_marks kVcontrary_marks dccontrary_marks pmcontrary_marks cdcontrary_marks ctcontrary_marks : Value}
    {odcheck_places ancheck_places : Option Addr} {slcheck_places : Array (Option Value)} {occheck_places kVcheck_places dccheck_places pmcheck_places cdcheck_places ctcheck_places : Value}
    {odWord_mark anWord_mark : Option Addr} {slWord_mark : Array (Option Value)} {ocWord_mark kVWord_mark dcWord_mark pmWord_mark cdWord_mark ctWord_mark : Value}
    {PRule_turned : Addr}
    {RRule_turned : List Value}
    {odRule_turned anRule_turned : Option Addr} {slRule_turned : Array (Option Value)} {ocRule_turned kVRule_turned dcRule_turned pmRule_turned cdRule_turned ctRule_turned : Value}
    {odturned_if anturned_if : Option Addr} {slturned_if : Array (Option Value)} {octurned_if kVturned_if dcturned_if pmturned_if cdturned_if ctturned_if : Value}
    {odmark_at anmark_at : Option Addr} {slmark_at : Array (Option Value)} {ocmark_at kVmark_at dcmark_at pmmark_at cdmark_at ctmark_at : Value}
    {odmark_of anmark_of : Option Addr} {slmark_of : Array (Option Value)} {ocmark_of kVmark_of dcmark_of pmmark_of cdmark_of ctmark_of : Value}
    {odmarks_from anmarks_from : Option Addr} {slmarks_from : Array (Option Value)} {ocmarks_from kVmarks_from dcmarks_from pmmarks_from cdmarks_from ctmarks_from : Value}
    {odrow anrow : Option Addr} {slrow : Array (Option Value)} {ocrow kVrow dcrow pmrow cdrow ctrow : Value}
    {odcompared ancompared : Option Addr} {slcompared : Array (Option Value)} {occompared kVcompared dccompared pmcompared cdcompared ctcompared : Value}
    {odlikeness anlikeness : Option Addr} {sllikeness : Array (Option Value)} {oclikeness kVlikeness dclikeness pmlikeness cdlikeness ctlikeness : Value}
    {odtimes_said antimes_said : Option Addr} {sltimes_said : Array (Option Value)} {octimes_said kVtimes_said dctimes_said pmtimes_said cdtimes_said cttimes_said : Value}
    {odtimes_until antimes_until : Option Addr} {sltimes_until : Array (Option Value)} {octimes_until kVtimes_until dctimes_until pmtimes_until cdtimes_until cttimes_until : Value}
    {odposition_said anposition_said : Option Addr} {slposition_said : Array (Option Value)} {ocposition_said kVposition_said dcposition_said pmposition_said cdposition_said ctposition_said : Value}
    {odposition_of anposition_of : Option Addr} {slposition_of : Array (Option Value)} {ocposition_of kVposition_of dcposition_of pmposition_of cdposition_of ctposition_of : Value}
    {odstay_at anstay_at : Option Addr} {slstay_at : Array (Option Value)} {ocstay_at kVstay_at dcstay_at pmstay_at cdstay_at ctstay_at : Value}
    {odstander anstander : Option Addr} {slstander : Array (Option Value)} {ocstander kVstander dcstander pmstander cdstander ctstander : Value}
    {odcontrary ancontrary : Option Addr} {slcontrary : Array (Option Value)} {occontrary kVcontrary dccontrary pmcontrary cdcontrary ctcontrary : Value}
    {odat anat : Option Addr} {slat : Array (Option Value)} {ocat kVat dcat pmat cdat ctat : Value}
    {odsign ansign : Option Addr} {slsign : Array (Option Value)} {ocsign kVsign dcsign pmsign cdsign ctsign : Value}
    {odends_right anends_right : Option Addr} {slends_right : Array (Option Value)} {ocends_right kVends_right dcends_right pmends_right cdends_right ctends_right : Value}
    {odcheck_rounds ancheck_rounds : Option Addr} {slcheck_rounds : Array (Option Value)} {occheck_rounds kVcheck_rounds dccheck_rounds pmcheck_rounds cdcheck_rounds ctcheck_rounds : Value}
    {odbreaks_until anbreaks_until : Option Addr} {slbreaks_until : Array (Option Value)} {ocbreaks_until kVbreaks_until dcbreaks_until pmbreaks_until cdbreaks_until ctbreaks_until : Value}
    {odhomes_until anhomes_until : Option Addr} {slhomes_until : Array (Option Value)} {ochomes_until kVhomes_until dchomes_until pmhomes_until cdhomes_until cthomes_until : Value}
    {odstay_right anstay_right : Option Addr} {slstay_right : Array (Option Value)} {ocstay_right kVstay_right dcstay_right pmstay_right cdstay_right ctstay_right : Value}
    {odright anright : Option Addr} {slright : Array (Option Value)} {ocright kVright dcright pmright cdright ctright : Value}
    {odpot anpot : Option Addr} {slpot : Array (Option Value)} {ocpot kVpot dcpot pmpot cdpot ctpot : Value}
    {odlaw anlaw : Option Addr} {sllaw : Array (Option Value)} {oclaw kVlaw dclaw pmlaw cdlaw ctlaw : Value}
    {DCONTRARIES : Addr} {esCONTRARIES : Array DictEntry} {enCONTRARIES : Nat}
    {tCONTRARIES1 : Tok}
    {tCONTRARIES0 : Tok}
    {DCONTRARY_STANDERS : Addr} {esCONTRARY_STANDERS : Array DictEntry} {enCONTRARY_STANDERS : Nat}
    {tCONTRARY_STANDERS3 : Tok}
    {tCONTRARY_STANDERS2 : Tok}
    {tCONTRARY_STANDERS1 : Tok}
    {tCONTRARY_STANDERS0 : Tok}
    {DSTANDER_MARKS : Addr} {esSTANDER_MARKS : Array DictEntry} {enSTANDER_MARKS : Nat}
    {tSTANDER_MARKS3 : Tok}
    {tSTANDER_MARKS2 : Tok}
    {tSTANDER_MARKS1 : Tok}
    {tSTANDER_MARKS0 : Tok}
    {tMARKS_TOLD : Tok}
    {tMOST_MARKS : Tok}
    {tMOST_STEP : Tok}
    {tOTHER : Tok}
    {tSAME : Tok}
    (a_draw : PySem.W.nsIn K mainGlobals "_law_draw" = some (some (.ref Adraw)))
    (l_draw : K.lookup Adraw = some ⟨ocdraw, oddraw, .func (PySem.W.fnOf "_law_draw" "_law_draw" (defArgs s_draw) (defBody s_draw) (defScope s_draw) .none kVdraw dcdraw pmdraw andraw cddraw ctdraw), sldraw⟩)
    (o_draw : PySem.W.codeIn K cddraw "_law_draw" = true)
    (k_draw : PySem.W.keepIn K (.ref Adraw) = true)
    (a_pick : PySem.W.nsIn K mainGlobals "_law_pick" = some (some (.ref Apick)))
    (l_pick : K.lookup Apick = some ⟨ocpick, odpick, .func (PySem.W.fnOf "_law_pick" "_law_pick" (defArgs s_pick) (defBody s_pick) (defScope s_pick) .none kVpick dcpick pmpick anpick cdpick ctpick), slpick⟩)
    (o_pick : PySem.W.codeIn K cdpick "_law_pick" = true)
    (k_pick : PySem.W.keepIn K (.ref Apick) = true)
    (a_marks : PySem.W.nsIn K mainGlobals "_law_marks" = some (some (.ref Amarks)))
    (l_marks : K.lookup Amarks = some ⟨ocmarks, odmarks, .func (PySem.W.fnOf "_law_marks" "_law_marks" (defArgs s_marks) (defBody s_marks) (defScope s_marks) .none kVmarks dcmarks pmmarks anmarks cdmarks ctmarks), slmarks⟩)
    (o_marks : PySem.W.codeIn K cdmarks "_law_marks" = true)
    (k_marks : PySem.W.keepIn K (.ref Amarks) = true)
    (a_model : PySem.W.nsIn K mainGlobals "_law_model" = some (some (.ref Amodel)))
    (l_model : K.lookup Amodel = some ⟨ocmodel, odmodel, .func (PySem.W.fnOf "_law_model" "_law_model" (defArgs s_model) (defBody s_model) (defScope s_model) .none kVmodel dcmodel pmmodel anmodel cdmodel ctmodel), slmodel⟩)
    (o_model : PySem.W.codeIn K cdmodel "_law_model" = true)
    (k_model : PySem.W.keepIn K (.ref Amodel) = true)
    (a_drawn : PySem.W.nsIn K mainGlobals "_law_drawn" = some (some (.ref Adrawn)))
    (l_drawn : K.lookup Adrawn = some ⟨ocdrawn, oddrawn, .func (PySem.W.fnOf "_law_drawn" "_law_drawn" (defArgs s_drawn) (defBody s_drawn) (defScope s_drawn) .none kVdrawn dcdrawn pmdrawn andrawn cddrawn ctdrawn), sldrawn⟩)
    (o_drawn : PySem.W.codeIn K cddrawn "_law_drawn" = true)
    (k_drawn : PySem.W.keepIn K (.ref Adrawn) = true)
    (a_is_marks : PySem.W.nsIn K mainGlobals "is_marks" = some (some (.ref Ais_marks)))
    (l_is_marks : K.lookup Ais_marks = some ⟨ocis_marks, odis_marks, .func (PySem.W.fnOf "is_marks" "is_marks" (defArgs s_is_marks) (defBody s_is_marks) (defScope s_is_marks) .none kVis_marks dcis_marks pmis_marks anis_marks cdis_marks ctis_marks), slis_marks⟩)
    (o_is_marks : PySem.W.codeIn K cdis_marks "is_marks" = true)
    (k_is_marks : PySem.W.keepIn K (.ref Ais_marks) = true)
    (a_check_part : PySem.W.nsIn K mainGlobals "_check_part" = some (some (.ref Acheck_part)))
    (l_check_part : K.lookup Acheck_part = some ⟨occheck_part, odcheck_part, .func (PySem.W.fnOf "_check_part" "_check_part" (defArgs s_check_part) (defBody s_check_part) (defScope s_check_part) .none kVcheck_part dccheck_part pmcheck_part ancheck_part cdcheck_part ctcheck_part), slcheck_part⟩)
    (o_check_part : PySem.W.codeIn K cdcheck_part "_check_part" = true)
    (k_check_part : PySem.W.keepIn K (.ref Acheck_part) = true)
    (a_Word_init : PySem.W.findIn K (.ref CWord) "__init__" = some (some (.ref AWord_init)))
    (i_Word_init : PySem.W.isFn K (.ref AWord_init) = true)
    (l_Word_init : K.lookup AWord_init = some ⟨ocWord_init, odWord_init, .func (PySem.W.fnOf "__init__" "Word.__init__" (defArgs s_Word_init) (defBody s_Word_init) (defScope s_Word_init) .none kVWord_init dcWord_init pmWord_init anWord_init cdWord_init ctWord_init), slWord_init⟩)
    (o_Word_init : PySem.W.codeIn K cdWord_init "Word.__init__" = true)
    (k_Word_init : PySem.W.keepIn K (.ref AWord_init) = true)
    (a_is_integer : PySem.W.nsIn K mainGlobals "is_integer" = some (some (.ref Ais_integer)))
    (l_is_integer : K.lookup Ais_integer = some ⟨ocis_integer, odis_integer, .func (PySem.W.fnOf "is_integer" "is_integer" (defArgs s_is_integer) (defBody s_is_integer) (defScope s_is_integer) .none kVis_integer dcis_integer pmis_integer anis_integer cdis_integer ctis_integer), slis_integer⟩)
    (o_is_integer : PySem.W.codeIn K cdis_integer "is_integer" = true)
    (k_is_integer : PySem.W.keepIn K (.ref Ais_integer) = true)
    (a_Rule_init : PySem.W.findIn K (.ref CRule) "__init__" = some (some (.ref ARule_init)))
    (i_Rule_init : PySem.W.isFn K (.ref ARule_init) = true)
    (t_Rule_init : K.lookup TRule_init = some ⟨.type "tuple", toRule_init, .seq #[.bool false] tiRule_init, tsRule_init⟩)
    (l_Rule_init : K.lookup ARule_init = some ⟨ocRule_init, odRule_init, .func (PySem.W.fnOf "__init__" "Rule.__init__" (defArgs s_Rule_init) (defBody s_Rule_init) (defScope s_Rule_init) (.ref TRule_init) kVRule_init dcRule_init pmRule_init anRule_init cdRule_init ctRule_init), slRule_init⟩)
    (o_Rule_init : PySem.W.codeIn K cdRule_init "Rule.__init__" = true)
    (k_Rule_init : PySem.W.keepIn K (.ref ARule_init) = true)
    (a_made : PySem.W.nsIn K mainGlobals "_law_made" = some (some (.ref Amade)))
    (l_made : K.lookup Amade = some ⟨ocmade, odmade, .func (PySem.W.fnOf "_law_made" "_law_made" (defArgs s_made) (defBody s_made) (defScope s_made) .none kVmade dcmade pmmade anmade cdmade ctmade), slmade⟩)
    (o_made : PySem.W.codeIn K cdmade "_law_made" = true)
    (k_made : PySem.W.keepIn K (.ref Amade) = true)
    (a_fewest : PySem.W.nsIn K mainGlobals "_law_fewest" = some (some (.ref Afewest)))
    (l_fewest : K.lookup Afewest = some ⟨ocfewest, odfewest, .func (PySem.W.fnOf "_law_fewest" "_law_fewest" (defArgs s_fewest) (defBody s_fewest) (defScope s_fewest) .none kVfewest dcfewest pmfewest anfewest cdfewest ctfewest), slfewest⟩)
    (o_fewest : PySem.W.codeIn K cdfewest "_law_fewest" = true)
    (k_fewest : PySem.W.keepIn K (.ref Afewest) = true)
    (a_great : PySem.W.nsIn K mainGlobals "_law_great" = some (some (.ref Agreat)))
    (l_great : K.lookup Agreat = some ⟨ocgreat, odgreat, .func (PySem.W.fnOf "_law_great" "_law_great" (defArgs s_great) (defBody s_great) (defScope s_great) .none kVgreat dcgreat pmgreat angreat cdgreat ctgreat), slgreat⟩)
    (o_great : PySem.W.codeIn K cdgreat "_law_great" = true)
    (k_great : PySem.W.keepIn K (.ref Agreat) = true)
    (a_team : PySem.W.nsIn K mainGlobals "_law_team" = some (some (.ref Ateam)))
    (l_team : K.lookup Ateam = some ⟨octeam, odteam, .func (PySem.W.fnOf "_law_team" "_law_team" (defArgs s_team) (defBody s_team) (defScope s_team) .none kVteam dcteam pmteam anteam cdteam ctteam), slteam⟩)
    (o_team : PySem.W.codeIn K cdteam "_law_team" = true)
    (k_team : PySem.W.keepIn K (.ref Ateam) = true)
    (a_edge : PySem.W.nsIn K mainGlobals "_law_edge" = some (some (.ref Aedge)))
    (l_edge : K.lookup Aedge = some ⟨ocedge, odedge, .func (PySem.W.fnOf "_law_edge" "_law_edge" (defArgs s_edge) (defBody s_edge) (defScope s_edge) .none kVedge dcedge pmedge anedge cdedge ctedge), sledge⟩)
    (o_edge : PySem.W.codeIn K cdedge "_law_edge" = true)
    (k_edge : PySem.W.keepIn K (.ref Aedge) = true)
    (a_round : PySem.W.nsIn K mainGlobals "_law_round" = some (some (.ref Around)))
    (l_round : K.lookup Around = some ⟨ocround, odround, .func (PySem.W.fnOf "_law_round" "_law_round" (defArgs s_round) (defBody s_round) (defScope s_round) .none kVround dcround pmround anround cdround ctround), slround⟩)
    (o_round : PySem.W.codeIn K cdround "_law_round" = true)
    (k_round : PySem.W.keepIn K (.ref Around) = true)
    (pa_Word_least : PySem.W.findIn K (.ref CWord) "least" = some (some (.ref PWord_least)))
    (pg_Word_least : PySem.W.specialIn K (.ref PWord_least) "__get__" = some (some (.builtin "property.__get__")))
    (pt_Word_least : PySem.W.takesIn K (.ref PWord_least) = some true)
    (pr_Word_least : PySem.W.recIn K PWord_least "property" = some (.ref AWord_least :: RWord_least))
    (l_Word_least : K.lookup AWord_least = some ⟨ocWord_least, odWord_least, .func (PySem.W.fnOf "least" "Word.least" (defArgs s_Word_least) (defBody s_Word_least) (defScope s_Word_least) .none kVWord_least dcWord_least pmWord_least anWord_least cdWord_least ctWord_least), slWord_least⟩)
    (o_Word_least : PySem.W.codeIn K cdWord_least "Word.least" = true)
    (k_Word_least : PySem.W.keepIn K (.ref AWord_least) = true)
    (pa_Rule_least_size : PySem.W.findIn K (.ref CRule) "least_size" = some (some (.ref PRule_least_size)))
    (pg_Rule_least_size : PySem.W.specialIn K (.ref PRule_least_size) "__get__" = some (some (.builtin "property.__get__")))
    (pt_Rule_least_size : PySem.W.takesIn K (.ref PRule_least_size) = some true)
    (pr_Rule_least_size : PySem.W.recIn K PRule_least_size "property" = some (.ref ARule_least_size :: RRule_least_size))
    (l_Rule_least_size : K.lookup ARule_least_size = some ⟨ocRule_least_size, odRule_least_size, .func (PySem.W.fnOf "least_size" "Rule.least_size" (defArgs s_Rule_least_size) (defBody s_Rule_least_size) (defScope s_Rule_least_size) .none kVRule_least_size dcRule_least_size pmRule_least_size anRule_least_size cdRule_least_size ctRule_least_size), slRule_least_size⟩)
    (o_Rule_least_size : PySem.W.codeIn K cdRule_least_size "Rule.least_size" = true)
    (k_Rule_least_size : PySem.W.keepIn K (.ref ARule_least_size) = true)
    (a_is_size : PySem.W.nsIn K mainGlobals "is_size" = some (some (.ref Ais_size)))
    (l_is_size : K.lookup Ais_size = some ⟨ocis_size, odis_size, .func (PySem.W.fnOf "is_size" "is_size" (defArgs s_is_size) (defBody s_is_size) (defScope s_is_size) .none kVis_size dcis_size pmis_size anis_size cdis_size ctis_size), slis_size⟩)
    (o_is_size : PySem.W.codeIn K cdis_size "is_size" = true)
    (k_is_size : PySem.W.keepIn K (.ref Ais_size) = true)
    (a_check_size : PySem.W.nsIn K mainGlobals "check_size" = some (some (.ref Acheck_size)))
    (l_check_size : K.lookup Acheck_size = some ⟨occheck_size, odcheck_size, .func (PySem.W.fnOf "check_size" "check_size" (defArgs s_check_size) (defBody s_check_size) (defScope s_check_size) .none kVcheck_size dccheck_size pmcheck_size ancheck_size cdcheck_size ctcheck_size), slcheck_size⟩)
    (o_check_size : PySem.W.codeIn K cdcheck_size "check_size" = true)
    (k_check_size : PySem.W.keepIn K (.ref Acheck_size) = true)
    (a_is_count : PySem.W.nsIn K mainGlobals "is_count" = some (some (.ref Ais_count)))
    (l_is_count : K.lookup Ais_count = some ⟨ocis_count, odis_count, .func (PySem.W.fnOf "is_count" "is_count" (defArgs s_is_count) (defBody s_is_count) (defScope s_is_count) .none kVis_count dcis_count pmis_count anis_count cdis_count ctis_count), slis_count⟩)
    (o_is_count : PySem.W.codeIn K cdis_count "is_count" = true)
    (k_is_count : PySem.W.keepIn K (.ref Ais_count) = true)
    (a_check_team : PySem.W.nsIn K mainGlobals "check_team" = some (some (.ref Acheck_team)))
    (l_check_team : K.lookup Acheck_team = some ⟨occheck_team, odcheck_team, .func (PySem.W.fnOf "check_team" "check_team" (defArgs s_check_team) (defBody s_check_team) (defScope s_check_team) .none kVcheck_team dccheck_team pmcheck_team ancheck_team cdcheck_team ctcheck_team), slcheck_team⟩)
    (o_check_team : PySem.W.codeIn K cdcheck_team "check_team" = true)
    (k_check_team : PySem.W.keepIn K (.ref Acheck_team) = true)
    (a_check_along : PySem.W.nsIn K mainGlobals "check_along" = some (some (.ref Acheck_along)))
    (l_check_along : K.lookup Acheck_along = some ⟨occheck_along, odcheck_along, .func (PySem.W.fnOf "_check" "_check" (defArgs s_check_along) (defBody s_check_along) (defScope s_check_along) .none kVcheck_along dccheck_along pmcheck_along ancheck_along cdcheck_along ctcheck_along), slcheck_along⟩)
    (o_check_along : PySem.W.codeIn K cdcheck_along "_check" = true)
    (k_check_along : PySem.W.keepIn K (.ref Acheck_along) = true)
    (a_check_day : PySem.W.nsIn K mainGlobals "check_day" = some (some (.ref Acheck_day)))
    (l_check_day : K.lookup Acheck_day = some ⟨occheck_day, odcheck_day, .func (PySem.W.fnOf "check_day" "check_day" (defArgs s_check_day) (defBody s_check_day) (defScope s_check_day) .none kVcheck_day dccheck_day pmcheck_day ancheck_day cdcheck_day ctcheck_day), slcheck_day⟩)
    (o_check_day : PySem.W.codeIn K cdcheck_day "check_day" = true)
    (k_check_day : PySem.W.keepIn K (.ref Acheck_day) = true)
    (pa_Rule_stander : PySem.W.findIn K (.ref CRule) "stander" = some (some (.ref PRule_stander)))
    (pg_Rule_stander : PySem.W.specialIn K (.ref PRule_stander) "__get__" = some (some (.builtin "property.__get__")))
    (pt_Rule_stander : PySem.W.takesIn K (.ref PRule_stander) = some true)
    (pr_Rule_stander : PySem.W.recIn K PRule_stander "property" = some (.ref ARule_stander :: RRule_stander))
    (l_Rule_stander : K.lookup ARule_stander = some ⟨ocRule_stander, odRule_stander, .func (PySem.W.fnOf "stander" "Rule.stander" (defArgs s_Rule_stander) (defBody s_Rule_stander) (defScope s_Rule_stander) .none kVRule_stander dcRule_stander pmRule_stander anRule_stander cdRule_stander ctRule_stander), slRule_stander⟩)
    (o_Rule_stander : PySem.W.codeIn K cdRule_stander "Rule.stander" = true)
    (k_Rule_stander : PySem.W.keepIn K (.ref ARule_stander) = true)
    (pa_Rule_step : PySem.W.findIn K (.ref CRule) "step" = some (some (.ref PRule_step)))
    (pg_Rule_step : PySem.W.specialIn K (.ref PRule_step) "__get__" = some (some (.builtin "property.__get__")))
    (pt_Rule_step : PySem.W.takesIn K (.ref PRule_step) = some true)
    (pr_Rule_step : PySem.W.recIn K PRule_step "property" = some (.ref ARule_step :: RRule_step))
    (l_Rule_step : K.lookup ARule_step = some ⟨ocRule_step, odRule_step, .func (PySem.W.fnOf "step" "Rule.step" (defArgs s_Rule_step) (defBody s_Rule_step) (defScope s_Rule_step) .none kVRule_step dcRule_step pmRule_step anRule_step cdRule_step ctRule_step), slRule_step⟩)
    (o_Rule_step : PySem.W.codeIn K cdRule_step "Rule.step" = true)
    (k_Rule_step : PySem.W.keepIn K (.ref ARule_step) = true)
    (pa_Rule_word : PySem.W.findIn K (.ref CRule) "word" = some (some (.ref PRule_word)))
    (pg_Rule_word : PySem.W.specialIn K (.ref PRule_word) "__get__" = some (some (.builtin "property.__get__")))
    (pt_Rule_word : PySem.W.takesIn K (.ref PRule_word) = some true)
    (pr_Rule_word : PySem.W.recIn K PRule_word "property" = some (.ref ARule_word :: RRule_word))
    (l_Rule_word : K.lookup ARule_word = some ⟨ocRule_word, odRule_word, .func (PySem.W.fnOf "word" "Rule.word" (defArgs s_Rule_word) (defBody s_Rule_word) (defScope s_Rule_word) .none kVRule_word dcRule_word pmRule_word anRule_word cdRule_word ctRule_word), slRule_word⟩)
    (o_Rule_word : PySem.W.codeIn K cdRule_word "Rule.word" = true)
    (k_Rule_word : PySem.W.keepIn K (.ref ARule_word) = true)
    (pa_Word_head : PySem.W.findIn K (.ref CWord) "head" = some (some (.ref PWord_head)))
    (pg_Word_head : PySem.W.specialIn K (.ref PWord_head) "__get__" = some (some (.builtin "property.__get__")))
    (pt_Word_head : PySem.W.takesIn K (.ref PWord_head) = some true)
    (pr_Word_head : PySem.W.recIn K PWord_head "property" = some (.ref AWord_head :: RWord_head))
    (l_Word_head : K.lookup AWord_head = some ⟨ocWord_head, odWord_head, .func (PySem.W.fnOf "head" "Word.head" (defArgs s_Word_head) (defBody s_Word_head) (defScope s_Word_head) .none kVWord_head dcWord_head pmWord_head anWord_head cdWord_head ctWord_head), slWord_head⟩)
    (o_Word_head : PySem.W.codeIn K cdWord_head "Word.head" = true)
    (k_Word_head : PySem.W.keepIn K (.ref AWord_head) = true)
    (pa_Word_tail : PySem.W.findIn K (.ref CWord) "tail" = some (some (.ref PWord_tail)))
    (pg_Word_tail : PySem.W.specialIn K (.ref PWord_tail) "__get__" = some (some (.builtin "property.__get__")))
    (pt_Word_tail : PySem.W.takesIn K (.ref PWord_tail) = some true)
    (pr_Word_tail : PySem.W.recIn K PWord_tail "property" = some (.ref AWord_tail :: RWord_tail))
    (l_Word_tail : K.lookup AWord_tail = some ⟨ocWord_tail, odWord_tail, .func (PySem.W.fnOf "tail" "Word.tail" (defArgs s_Word_tail) (defBody s_Word_tail) (defScope s_Word_tail) .none kVWord_tail dcWord_tail pmWord_tail anWord_tail cdWord_tail ctWord_tail), slWord_tail⟩)
    (o_Word_tail : PySem.W.codeIn K cdWord_tail "Word.tail" = true)
    (k_Word_tail : PySem.W.keepIn K (.ref AWord_tail) = true)
    (a_stretches : PySem.W.nsIn K mainGlobals "_stretches" = some (some (.ref Astretches)))
    (l_stretches : K.lookup Astretches = some ⟨ocstretches, odstretches, .func (PySem.W.fnOf "_stretches" "_stretches" (defArgs s_stretches) (defBody s_stretches) (defScope s_stretches) .none kVstretches dcstretches pmstretches anstretches cdstretches ctstretches), slstretches⟩)
    (o_stretches : PySem.W.codeIn K cdstretches "_stretches" = true)
    (k_stretches : PySem.W.keepIn K (.ref Astretches) = true)
    (a_check_seats : PySem.W.nsIn K mainGlobals "check_seats" = some (some (.ref Acheck_seats)))
    (l_check_seats : K.lookup Acheck_seats = some ⟨occheck_seats, odcheck_seats, .func (PySem.W.fnOf "_check" "_check" (defArgs s_check_seats) (defBody s_check_seats) (defScope s_check_seats) .none kVcheck_seats dccheck_seats pmcheck_seats ancheck_seats cdcheck_seats ctcheck_seats), slcheck_seats⟩)
    (o_check_seats : PySem.W.codeIn K cdcheck_seats "_check" = true)
    (k_check_seats : PySem.W.keepIn K (.ref Acheck_seats) = true)
    (a_stander_mark : PySem.W.nsIn K mainGlobals "stander_mark" = some (some (.ref Astander_mark)))
    (l_stander_mark : K.lookup Astander_mark = some ⟨ocstander_mark, odstander_mark, .func (PySem.W.fnOf "stander_mark" "stander_mark" (defArgs s_stander_mark) (defBody s_stander_mark) (defScope s_stander_mark) .none kVstander_mark dcstander_mark pmstander_mark anstander_mark cdstander_mark ctstander_mark), slstander_mark⟩)
    (o_stander_mark : PySem.W.codeIn K cdstander_mark "stander_mark" = true)
    (k_stander_mark : PySem.W.keepIn K (.ref Astander_mark) = true)
    (a_seat : PySem.W.nsIn K mainGlobals "_seat" = some (some (.ref Aseat)))
    (l_seat : K.lookup Aseat = some ⟨ocseat, odseat, .func (PySem.W.fnOf "_seat" "_seat" (defArgs s_seat) (defBody s_seat) (defScope s_seat) .none kVseat dcseat pmseat anseat cdseat ctseat), slseat⟩)
    (o_seat : PySem.W.codeIn K cdseat "_seat" = true)
    (k_seat : PySem.W.keepIn K (.ref Aseat) = true)
    (a_contrary_marks : PySem.W.nsIn K mainGlobals "contrary_marks" = some (some (.ref Acontrary_marks)))
    (l_contrary_marks : K.lookup Acontrary_marks = some ⟨occontrary_marks, odcontrary_marks, .func (PySem.W.fnOf "contrary_marks" "contrary_marks" (defArgs s_contrary_marks) (defBody s_contrary_marks) (defScope s_contrary_marks) .none kVcontrary_marks dccontrary_marks pmcontrary_marks ancontrary_marks cdcontrary_marks ctcontrary_marks), slcontrary_marks⟩)
    (o_contrary_marks : PySem.W.codeIn K cdcontrary_marks "contrary_marks" = true)
    (k_contrary_marks : PySem.W.keepIn K (.ref Acontrary_marks) = true)
    (a_check_places : PySem.W.nsIn K mainGlobals "_check_places" = some (some (.ref Acheck_places)))
    (l_check_places : K.lookup Acheck_places = some ⟨occheck_places, odcheck_places, .func (PySem.W.fnOf "_check_places" "_check_places" (defArgs s_check_places) (defBody s_check_places) (defScope s_check_places) .none kVcheck_places dccheck_places pmcheck_places ancheck_places cdcheck_places ctcheck_places), slcheck_places⟩)
    (o_check_places : PySem.W.codeIn K cdcheck_places "_check_places" = true)
    (k_check_places : PySem.W.keepIn K (.ref Acheck_places) = true)
    (a_Word_mark : PySem.W.findIn K (.ref CWord) "mark" = some (some (.ref AWord_mark)))
    (i_Word_mark : PySem.W.isFn K (.ref AWord_mark) = true)
    (l_Word_mark : K.lookup AWord_mark = some ⟨ocWord_mark, odWord_mark, .func (PySem.W.fnOf "mark" "Word.mark" (defArgs s_Word_mark) (defBody s_Word_mark) (defScope s_Word_mark) .none kVWord_mark dcWord_mark pmWord_mark anWord_mark cdWord_mark ctWord_mark), slWord_mark⟩)
    (o_Word_mark : PySem.W.codeIn K cdWord_mark "Word.mark" = true)
    (k_Word_mark : PySem.W.keepIn K (.ref AWord_mark) = true)
    (pa_Rule_turned : PySem.W.findIn K (.ref CRule) "turned" = some (some (.ref PRule_turned)))
    (pg_Rule_turned : PySem.W.specialIn K (.ref PRule_turned) "__get__" = some (some (.builtin "property.__get__")))
    (pt_Rule_turned : PySem.W.takesIn K (.ref PRule_turned) = some true)
    (pr_Rule_turned : PySem.W.recIn K PRule_turned "property" = some (.ref ARule_turned :: RRule_turned))
    (l_Rule_turned : K.lookup ARule_turned = some ⟨ocRule_turned, odRule_turned, .func (PySem.W.fnOf "turned" "Rule.turned" (defArgs s_Rule_turned) (defBody s_Rule_turned) (defScope s_Rule_turned) .none kVRule_turned dcRule_turned pmRule_turned anRule_turned cdRule_turned ctRule_turned), slRule_turned⟩)
    (o_Rule_turned : PySem.W.codeIn K cdRule_turned "Rule.turned" = true)
    (k_Rule_turned : PySem.W.keepIn K (.ref ARule_turned) = true)
    (a_turned_if : PySem.W.nsIn K mainGlobals "_turned_if" = some (some (.ref Aturned_if)))
    (l_turned_if : K.lookup Aturned_if = some ⟨octurned_if, odturned_if, .func (PySem.W.fnOf "_turned_if" "_turned_if" (defArgs s_turned_if) (defBody s_turned_if) (defScope s_turned_if) .none kVturned_if dcturned_if pmturned_if anturned_if cdturned_if ctturned_if), slturned_if⟩)
    (o_turned_if : PySem.W.codeIn K cdturned_if "_turned_if" = true)
    (k_turned_if : PySem.W.keepIn K (.ref Aturned_if) = true)
    (a_mark_at : PySem.W.nsIn K mainGlobals "_mark_at" = some (some (.ref Amark_at)))
    (l_mark_at : K.lookup Amark_at = some ⟨ocmark_at, odmark_at, .func (PySem.W.fnOf "_mark_at" "_mark_at" (defArgs s_mark_at) (defBody s_mark_at) (defScope s_mark_at) .none kVmark_at dcmark_at pmmark_at anmark_at cdmark_at ctmark_at), slmark_at⟩)
    (o_mark_at : PySem.W.codeIn K cdmark_at "_mark_at" = true)
    (k_mark_at : PySem.W.keepIn K (.ref Amark_at) = true)
    (a_mark_of : PySem.W.nsIn K mainGlobals "mark_of" = some (some (.ref Amark_of)))
    (l_mark_of : K.lookup Amark_of = some ⟨ocmark_of, odmark_of, .func (PySem.W.fnOf "mark_of" "mark_of" (defArgs s_mark_of) (defBody s_mark_of) (defScope s_mark_of) .none kVmark_of dcmark_of pmmark_of anmark_of cdmark_of ctmark_of), slmark_of⟩)
    (o_mark_of : PySem.W.codeIn K cdmark_of "mark_of" = true)
    (k_mark_of : PySem.W.keepIn K (.ref Amark_of) = true)
    (a_marks_from : PySem.W.nsIn K mainGlobals "_marks_from" = some (some (.ref Amarks_from)))
    (l_marks_from : K.lookup Amarks_from = some ⟨ocmarks_from, odmarks_from, .func (PySem.W.fnOf "_marks_from" "_marks_from" (defArgs s_marks_from) (defBody s_marks_from) (defScope s_marks_from) .none kVmarks_from dcmarks_from pmmarks_from anmarks_from cdmarks_from ctmarks_from), slmarks_from⟩)
    (o_marks_from : PySem.W.codeIn K cdmarks_from "_marks_from" = true)
    (k_marks_from : PySem.W.keepIn K (.ref Amarks_from) = true)
    (a_row : PySem.W.nsIn K mainGlobals "_row" = some (some (.ref Arow)))
    (l_row : K.lookup Arow = some ⟨ocrow, odrow, .func (PySem.W.fnOf "_row" "_row" (defArgs s_row) (defBody s_row) (defScope s_row) .none kVrow dcrow pmrow anrow cdrow ctrow), slrow⟩)
    (o_row : PySem.W.codeIn K cdrow "_row" = true)
    (k_row : PySem.W.keepIn K (.ref Arow) = true)
    (a_compared : PySem.W.nsIn K mainGlobals "_compared" = some (some (.ref Acompared)))
    (l_compared : K.lookup Acompared = some ⟨occompared, odcompared, .func (PySem.W.fnOf "_compared" "_compared" (defArgs s_compared) (defBody s_compared) (defScope s_compared) .none kVcompared dccompared pmcompared ancompared cdcompared ctcompared), slcompared⟩)
    (o_compared : PySem.W.codeIn K cdcompared "_compared" = true)
    (k_compared : PySem.W.keepIn K (.ref Acompared) = true)
    (a_likeness : PySem.W.nsIn K mainGlobals "likeness" = some (some (.ref Alikeness)))
    (l_likeness : K.lookup Alikeness = some ⟨oclikeness, odlikeness, .func (PySem.W.fnOf "likeness" "likeness" (defArgs s_likeness) (defBody s_likeness) (defScope s_likeness) .none kVlikeness dclikeness pmlikeness anlikeness cdlikeness ctlikeness), sllikeness⟩)
    (o_likeness : PySem.W.codeIn K cdlikeness "likeness" = true)
    (k_likeness : PySem.W.keepIn K (.ref Alikeness) = true)
    (a_times_said : PySem.W.nsIn K mainGlobals "times_said" = some (some (.ref Atimes_said)))
    (l_times_said : K.lookup Atimes_said = some ⟨octimes_said, odtimes_said, .func (PySem.W.fnOf "times_said" "times_said" (defArgs s_times_said) (defBody s_times_said) (defScope s_times_said) .none kVtimes_said dctimes_said pmtimes_said antimes_said cdtimes_said cttimes_said), sltimes_said⟩)
    (o_times_said : PySem.W.codeIn K cdtimes_said "times_said" = true)
    (k_times_said : PySem.W.keepIn K (.ref Atimes_said) = true)
    (a_times_until : PySem.W.nsIn K mainGlobals "times_until" = some (some (.ref Atimes_until)))
    (l_times_until : K.lookup Atimes_until = some ⟨octimes_until, odtimes_until, .func (PySem.W.fnOf "times_until" "times_until" (defArgs s_times_until) (defBody s_times_until) (defScope s_times_until) .none kVtimes_until dctimes_until pmtimes_until antimes_until cdtimes_until cttimes_until), sltimes_until⟩)
    (o_times_until : PySem.W.codeIn K cdtimes_until "times_until" = true)
    (k_times_until : PySem.W.keepIn K (.ref Atimes_until) = true)
    (a_position_said : PySem.W.nsIn K mainGlobals "_position_said" = some (some (.ref Aposition_said)))
    (l_position_said : K.lookup Aposition_said = some ⟨ocposition_said, odposition_said, .func (PySem.W.fnOf "_position_said" "_position_said" (defArgs s_position_said) (defBody s_position_said) (defScope s_position_said) .none kVposition_said dcposition_said pmposition_said anposition_said cdposition_said ctposition_said), slposition_said⟩)
    (o_position_said : PySem.W.codeIn K cdposition_said "_position_said" = true)
    (k_position_said : PySem.W.keepIn K (.ref Aposition_said) = true)
    (a_position_of : PySem.W.nsIn K mainGlobals "position_of" = some (some (.ref Aposition_of)))
    (l_position_of : K.lookup Aposition_of = some ⟨ocposition_of, odposition_of, .func (PySem.W.fnOf "position_of" "position_of" (defArgs s_position_of) (defBody s_position_of) (defScope s_position_of) .none kVposition_of dcposition_of pmposition_of anposition_of cdposition_of ctposition_of), slposition_of⟩)
    (o_position_of : PySem.W.codeIn K cdposition_of "position_of" = true)
    (k_position_of : PySem.W.keepIn K (.ref Aposition_of) = true)
    (a_stay_at : PySem.W.nsIn K mainGlobals "stay_at" = some (some (.ref Astay_at)))
    (l_stay_at : K.lookup Astay_at = some ⟨ocstay_at, odstay_at, .func (PySem.W.fnOf "stay_at" "stay_at" (defArgs s_stay_at) (defBody s_stay_at) (defScope s_stay_at) .none kVstay_at dcstay_at pmstay_at anstay_at cdstay_at ctstay_at), slstay_at⟩)
    (o_stay_at : PySem.W.codeIn K cdstay_at "stay_at" = true)
    (k_stay_at : PySem.W.keepIn K (.ref Astay_at) = true)
    (a_stander : PySem.W.nsIn K mainGlobals "_law_stander" = some (some (.ref Astander)))
    (l_stander : K.lookup Astander = some ⟨ocstander, odstander, .func (PySem.W.fnOf "_law_stander" "_law_stander" (defArgs s_stander) (defBody s_stander) (defScope s_stander) .none kVstander dcstander pmstander anstander cdstander ctstander), slstander⟩)
    (o_stander : PySem.W.codeIn K cdstander "_law_stander" = true)
    (k_stander : PySem.W.keepIn K (.ref Astander) = true)
    (a_contrary : PySem.W.nsIn K mainGlobals "_law_contrary" = some (some (.ref Acontrary)))
    (l_contrary : K.lookup Acontrary = some ⟨occontrary, odcontrary, .func (PySem.W.fnOf "_law_contrary" "_law_contrary" (defArgs s_contrary) (defBody s_contrary) (defScope s_contrary) .none kVcontrary dccontrary pmcontrary ancontrary cdcontrary ctcontrary), slcontrary⟩)
    (o_contrary : PySem.W.codeIn K cdcontrary "_law_contrary" = true)
    (k_contrary : PySem.W.keepIn K (.ref Acontrary) = true)
    (a_at : PySem.W.nsIn K mainGlobals "_law_at" = some (some (.ref Aat)))
    (l_at : K.lookup Aat = some ⟨ocat, odat, .func (PySem.W.fnOf "_law_at" "_law_at" (defArgs s_at) (defBody s_at) (defScope s_at) .none kVat dcat pmat anat cdat ctat), slat⟩)
    (o_at : PySem.W.codeIn K cdat "_law_at" = true)
    (k_at : PySem.W.keepIn K (.ref Aat) = true)
    (a_sign : PySem.W.nsIn K mainGlobals "_law_sign" = some (some (.ref Asign)))
    (l_sign : K.lookup Asign = some ⟨ocsign, odsign, .func (PySem.W.fnOf "_law_sign" "_law_sign" (defArgs s_sign) (defBody s_sign) (defScope s_sign) .none kVsign dcsign pmsign ansign cdsign ctsign), slsign⟩)
    (o_sign : PySem.W.codeIn K cdsign "_law_sign" = true)
    (k_sign : PySem.W.keepIn K (.ref Asign) = true)
    (a_ends_right : PySem.W.nsIn K mainGlobals "_law_ends_right" = some (some (.ref Aends_right)))
    (l_ends_right : K.lookup Aends_right = some ⟨ocends_right, odends_right, .func (PySem.W.fnOf "_law_ends_right" "_law_ends_right" (defArgs s_ends_right) (defBody s_ends_right) (defScope s_ends_right) .none kVends_right dcends_right pmends_right anends_right cdends_right ctends_right), slends_right⟩)
    (o_ends_right : PySem.W.codeIn K cdends_right "_law_ends_right" = true)
    (k_ends_right : PySem.W.keepIn K (.ref Aends_right) = true)
    (a_check_rounds : PySem.W.nsIn K mainGlobals "_check_rounds" = some (some (.ref Acheck_rounds)))
    (l_check_rounds : K.lookup Acheck_rounds = some ⟨occheck_rounds, odcheck_rounds, .func (PySem.W.fnOf "_check_rounds" "_check_rounds" (defArgs s_check_rounds) (defBody s_check_rounds) (defScope s_check_rounds) .none kVcheck_rounds dccheck_rounds pmcheck_rounds ancheck_rounds cdcheck_rounds ctcheck_rounds), slcheck_rounds⟩)
    (o_check_rounds : PySem.W.codeIn K cdcheck_rounds "_check_rounds" = true)
    (k_check_rounds : PySem.W.keepIn K (.ref Acheck_rounds) = true)
    (a_breaks_until : PySem.W.nsIn K mainGlobals "breaks_until" = some (some (.ref Abreaks_until)))
    (l_breaks_until : K.lookup Abreaks_until = some ⟨ocbreaks_until, odbreaks_until, .func (PySem.W.fnOf "breaks_until" "breaks_until" (defArgs s_breaks_until) (defBody s_breaks_until) (defScope s_breaks_until) .none kVbreaks_until dcbreaks_until pmbreaks_until anbreaks_until cdbreaks_until ctbreaks_until), slbreaks_until⟩)
    (o_breaks_until : PySem.W.codeIn K cdbreaks_until "breaks_until" = true)
    (k_breaks_until : PySem.W.keepIn K (.ref Abreaks_until) = true)
    (a_homes_until : PySem.W.nsIn K mainGlobals "homes_until" = some (some (.ref Ahomes_until)))
    (l_homes_until : K.lookup Ahomes_until = some ⟨ochomes_until, odhomes_until, .func (PySem.W.fnOf "homes_until" "homes_until" (defArgs s_homes_until) (defBody s_homes_until) (defScope s_homes_until) .none kVhomes_until dchomes_until pmhomes_until anhomes_until cdhomes_until cthomes_until), slhomes_until⟩)
    (o_homes_until : PySem.W.codeIn K cdhomes_until "homes_until" = true)
    (k_homes_until : PySem.W.keepIn K (.ref Ahomes_until) = true)
    (a_stay_right : PySem.W.nsIn K mainGlobals "_law_stay_right" = some (some (.ref Astay_right)))
    (l_stay_right : K.lookup Astay_right = some ⟨ocstay_right, odstay_right, .func (PySem.W.fnOf "_law_stay_right" "_law_stay_right" (defArgs s_stay_right) (defBody s_stay_right) (defScope s_stay_right) .none kVstay_right dcstay_right pmstay_right anstay_right cdstay_right ctstay_right), slstay_right⟩)
    (o_stay_right : PySem.W.codeIn K cdstay_right "_law_stay_right" = true)
    (k_stay_right : PySem.W.keepIn K (.ref Astay_right) = true)
    (a_right : PySem.W.nsIn K mainGlobals "_law_right" = some (some (.ref Aright)))
    (l_right : K.lookup Aright = some ⟨ocright, odright, .func (PySem.W.fnOf "_law_right" "_law_right" (defArgs s_right) (defBody s_right) (defScope s_right) .none kVright dcright pmright anright cdright ctright), slright⟩)
    (o_right : PySem.W.codeIn K cdright "_law_right" = true)
    (k_right : PySem.W.keepIn K (.ref Aright) = true)
    (a_pot : PySem.W.nsIn K mainGlobals "_law_pot" = some (some (.ref Apot)))
    (l_pot : K.lookup Apot = some ⟨ocpot, odpot, .func (PySem.W.fnOf "_law_pot" "_law_pot" (defArgs s_pot) (defBody s_pot) (defScope s_pot) .none kVpot dcpot pmpot anpot cdpot ctpot), slpot⟩)
    (o_pot : PySem.W.codeIn K cdpot "_law_pot" = true)
    (k_pot : PySem.W.keepIn K (.ref Apot) = true)
    (a_law : PySem.W.nsIn K mainGlobals "law" = some (some (.ref Alaw)))
    (l_law : K.lookup Alaw = some ⟨oclaw, odlaw, .func (PySem.W.fnOf "law" "law" (defArgs s_law) (defBody s_law) (defScope s_law) .none kVlaw dclaw pmlaw anlaw cdlaw ctlaw), sllaw⟩)
    (o_law : PySem.W.codeIn K cdlaw "law" = true)
    (k_law : PySem.W.keepIn K (.ref Alaw) = true)
    (lo_tb : ([] : List Addr).Nodup)
    (aC_Word : PySem.W.nsIn K mainGlobals "Word" = some (some (.ref CWord)))
    (pg_Word : PySem.W.plainGet K CWord Str.empty = true)
    (hd_Word : PySem.W.hasDictIn K CWord = true)
    (po_Word : PySem.W.plainOver K CWord = true)
    (sa_Word : PySem.W.findIn K (.ref CWord) "__setattr__" = some (some (.builtin "object.__setattr__")))
    (mk_Word : PySem.W.makesIn K CWord = true)
    (kc_Word : PySem.W.keepIn K (.ref CWord) = true)
    (na_Word__head : PySem.W.findIn K (.ref CWord) "_head" = some none)
    (na_Word__middle : PySem.W.findIn K (.ref CWord) "_middle" = some none)
    (na_Word__tail : PySem.W.findIn K (.ref CWord) "_tail" = some none)
    (aC_Rule : PySem.W.nsIn K mainGlobals "Rule" = some (some (.ref CRule)))
    (pg_Rule : PySem.W.plainGet K CRule Str.empty = true)
    (hd_Rule : PySem.W.hasDictIn K CRule = true)
    (po_Rule : PySem.W.plainOver K CRule = true)
    (sa_Rule : PySem.W.findIn K (.ref CRule) "__setattr__" = some (some (.builtin "object.__setattr__")))
    (mk_Rule : PySem.W.makesIn K CRule = true)
    (kc_Rule : PySem.W.keepIn K (.ref CRule) = true)
    (na_Rule__step : PySem.W.findIn K (.ref CRule) "_step" = some none)
    (na_Rule__word : PySem.W.findIn K (.ref CRule) "_word" = some none)
    (na_Rule__stander : PySem.W.findIn K (.ref CRule) "_stander" = some none)
    (na_Rule__turned : PySem.W.findIn K (.ref CRule) "_turned" = some none)
    (gd_CONTRARIES : PySem.W.nsIn K mainGlobals "CONTRARIES" = some (some (.ref DCONTRARIES)))
    (ld_CONTRARIES : K.lookup DCONTRARIES = some ⟨.type "dict", none, .dict esCONTRARIES enCONTRARIES, #[]⟩)
    (lk_CONTRARIES : PySem.W.KeysLit w.params esCONTRARIES.toList)
    (lv_CONTRARIES_1 : PySem.W.nsIn K DCONTRARIES "a" = some (some (.str "h" tCONTRARIES1)))
    (lv_CONTRARIES_0 : PySem.W.nsIn K DCONTRARIES "h" = some (some (.str "a" tCONTRARIES0)))
    (gd_CONTRARY_STANDERS : PySem.W.nsIn K mainGlobals "CONTRARY_STANDERS" = some (some (.ref DCONTRARY_STANDERS)))
    (ld_CONTRARY_STANDERS : K.lookup DCONTRARY_STANDERS = some ⟨.type "dict", none, .dict esCONTRARY_STANDERS enCONTRARY_STANDERS, #[]⟩)
    (lk_CONTRARY_STANDERS : PySem.W.KeysLit w.params esCONTRARY_STANDERS.toList)
    (lv_CONTRARY_STANDERS_3 : PySem.W.nsIn K DCONTRARY_STANDERS "odd" = some (some (.str "even" tCONTRARY_STANDERS3)))
    (lv_CONTRARY_STANDERS_2 : PySem.W.nsIn K DCONTRARY_STANDERS "even" = some (some (.str "odd" tCONTRARY_STANDERS2)))
    (lv_CONTRARY_STANDERS_1 : PySem.W.nsIn K DCONTRARY_STANDERS "away" = some (some (.str "home" tCONTRARY_STANDERS1)))
    (lv_CONTRARY_STANDERS_0 : PySem.W.nsIn K DCONTRARY_STANDERS "home" = some (some (.str "away" tCONTRARY_STANDERS0)))
    (gd_STANDER_MARKS : PySem.W.nsIn K mainGlobals "STANDER_MARKS" = some (some (.ref DSTANDER_MARKS)))
    (ld_STANDER_MARKS : K.lookup DSTANDER_MARKS = some ⟨.type "dict", none, .dict esSTANDER_MARKS enSTANDER_MARKS, #[]⟩)
    (lk_STANDER_MARKS : PySem.W.KeysLit w.params esSTANDER_MARKS.toList)
    (lv_STANDER_MARKS_3 : PySem.W.nsIn K DSTANDER_MARKS "odd" = some (some (.str "ah" tSTANDER_MARKS3)))
    (lv_STANDER_MARKS_2 : PySem.W.nsIn K DSTANDER_MARKS "even" = some (some (.str "ha" tSTANDER_MARKS2)))
    (lv_STANDER_MARKS_1 : PySem.W.nsIn K DSTANDER_MARKS "away" = some (some (.str "aa" tSTANDER_MARKS1)))
    (lv_STANDER_MARKS_0 : PySem.W.nsIn K DSTANDER_MARKS "home" = some (some (.str "hh" tSTANDER_MARKS0)))
    (lo_CONTRARY_STANDERS : (DCONTRARY_STANDERS == sysModules) = false)
    (z_abs : PySem.W.nsIn K mainGlobals "abs" = some none)
    (z_all : PySem.W.nsIn K mainGlobals "all" = some none)
    (z_any : PySem.W.nsIn K mainGlobals "any" = some none)
    (z_bool : PySem.W.nsIn K mainGlobals "bool" = some none)
    (z_dict : PySem.W.nsIn K mainGlobals "dict" = some none)
    (z_divmod : PySem.W.nsIn K mainGlobals "divmod" = some none)
    (z_enumerate : PySem.W.nsIn K mainGlobals "enumerate" = some none)
    (z_int : PySem.W.nsIn K mainGlobals "int" = some none)
    (z_isinstance : PySem.W.nsIn K mainGlobals "isinstance" = some none)
    (z_len : PySem.W.nsIn K mainGlobals "len" = some none)
    (z_list : PySem.W.nsIn K mainGlobals "list" = some none)
    (z_max : PySem.W.nsIn K mainGlobals "max" = some none)
    (z_min : PySem.W.nsIn K mainGlobals "min" = some none)
    (z_range : PySem.W.nsIn K mainGlobals "range" = some none)
    (z_repr : PySem.W.nsIn K mainGlobals "repr" = some none)
    (z_set : PySem.W.nsIn K mainGlobals "set" = some none)
    (z_sorted : PySem.W.nsIn K mainGlobals "sorted" = some none)
    (z_str : PySem.W.nsIn K mainGlobals "str" = some none)
    (z_sum : PySem.W.nsIn K mainGlobals "sum" = some none)
    (z_tuple : PySem.W.nsIn K mainGlobals "tuple" = some none)
    (z_zip : PySem.W.nsIn K mainGlobals "zip" = some none)
    (c_MARKS_TOLD : PySem.W.nsIn K mainGlobals "MARKS_TOLD" = some (some (.int 12 tMARKS_TOLD)))
    (c_MOST_MARKS : PySem.W.nsIn K mainGlobals "MOST_MARKS" = some (some (.int 4 tMOST_MARKS)))
    (c_MOST_STEP : PySem.W.nsIn K mainGlobals "MOST_STEP" = some (some (.int 7 tMOST_STEP)))
    (c_OTHER : PySem.W.nsIn K mainGlobals "OTHER" = some (some (.str "o" tOTHER)))
    (c_SAME : PySem.W.nsIn K mainGlobals "SAME" = some (some (.str "s" tSAME))) :
    ∃ fd : FuncData, (∀ (s : Shared) (v : Value), BindsTo s fd ⟨[v], []⟩ [("_law_script", v)]) ∧ ∀ base : Heap, K.In base → base.Ns mainGlobals mg → FnG l.prog w K mg base 14 fa fd ["_law_script"] (sp_law K) := by
  have e := hfa.symm.trans (PySem.W.mg_of X G a_law)
  cases e
  have T : Txt w K mg ⟨Adraw, (PySem.W.fnOf "_law_draw" "_law_draw" (defArgs s_draw) (defBody s_draw) (defScope s_draw) .none kVdraw dcdraw pmdraw andraw cddraw ctdraw), Apick, (PySem.W.fnOf "_law_pick" "_law_pick" (defArgs s_pick) (defBody s_pick) (defScope s_pick) .none kVpick dcpick pmpick anpick cdpick ctpick), Amarks, (PySem.W.fnOf "_law_marks" "_law_marks" (defArgs s_marks) (defBody s_marks) (defScope s_marks) .none kVmarks dcmarks pmmarks anmarks cdmarks ctmarks), Amodel, (PySem.W.fnOf "_law_model" "_law_model" (defArgs s_model) (defBody s_model) (defScope s_model) .none kVmodel dcmodel pmmodel anmodel cdmodel ctmodel), Adrawn, (PySem.W.fnOf "_law_drawn" "_law_drawn" (defArgs s_drawn) (defBody s_drawn) (defScope s_drawn) .none kVdrawn dcdrawn pmdrawn andrawn cddrawn ctdrawn), Ais_marks, (PySem.W.fnOf "is_marks" "is_marks" (defArgs s_is_marks) (defBody s_is_marks) (defScope s_is_marks) .none kVis_marks dcis_marks pmis_marks anis_marks cdis_marks ctis_marks), Acheck_part, (PySem.W.fnOf "_check_part" "_check_part" (defArgs s_check_part) (defBody s_check_part) (defScope s_check_part) .none kVcheck_part dccheck_part pmcheck_part ancheck_part cdcheck_part ctcheck_part), AWord_init, (PySem.W.fnOf "__init__" "Word.__init__" (defArgs s_Word_init) (defBody s_Word_init) (defScope s_Word_init) .none kVWord_init dcWord_init pmWord_init anWord_init cdWord_init ctWord_init), Ais_integer, (PySem.W.fnOf "is_integer" "is_integer" (defArgs s_is_integer) (defBody s_is_integer) (defScope s_is_integer) .none kVis_integer dcis_integer pmis_integer anis_integer cdis_integer ctis_integer), ARule_init, (PySem.W.fnOf "__init__" "Rule.__init__" (defArgs s_Rule_init) (defBody s_Rule_init) (defScope s_Rule_init) (.ref TRule_init) kVRule_init dcRule_init pmRule_init anRule_init cdRule_init ctRule_init), Amade, (PySem.W.fnOf "_law_made" "_law_made" (defArgs s_made) (defBody s_made) (defScope s_made) .none kVmade dcmade pmmade anmade cdmade ctmade), Afewest, (PySem.W.fnOf "_law_fewest" "_law_fewest" (defArgs s_fewest) (defBody s_fewest) (defScope s_fewest) .none kVfewest dcfewest pmfewest anfewest cdfewest ctfewest), Agreat, (PySem.W.fnOf "_law_great" "_law_great" (defArgs s_great) (defBody s_great) (defScope s_great) .none kVgreat dcgreat pmgreat angreat cdgreat ctgreat), Ateam, (PySem.W.fnOf "_law_team" "_law_team" (defArgs s_team) (defBody s_team) (defScope s_team) .none kVteam dcteam pmteam anteam cdteam ctteam), Aedge, (PySem.W.fnOf "_law_edge" "_law_edge" (defArgs s_edge) (defBody s_edge) (defScope s_edge) .none kVedge dcedge pmedge anedge cdedge ctedge), Around, (PySem.W.fnOf "_law_round" "_law_round" (defArgs s_round) (defBody s_round) (defScope s_round) .none kVround dcround pmround anround cdround ctround), AWord_least, (PySem.W.fnOf "least" "Word.least" (defArgs s_Word_least) (defBody s_Word_least) (defScope s_Word_least) .none kVWord_least dcWord_least pmWord_least anWord_least cdWord_least ctWord_least), ARule_least_size, (PySem.W.fnOf "least_size" "Rule.least_size" (defArgs s_Rule_least_size) (defBody s_Rule_least_size) (defScope s_Rule_least_size) .none kVRule_least_size dcRule_least_size pmRule_least_size anRule_least_size cdRule_least_size ctRule_least_size), Ais_size, (PySem.W.fnOf "is_size" "is_size" (defArgs s_is_size) (defBody s_is_size) (defScope s_is_size) .none kVis_size dcis_size pmis_size anis_size cdis_size ctis_size), Acheck_size, (PySem.W.fnOf "check_size" "check_size" (defArgs s_check_size) (defBody s_check_size) (defScope s_check_size) .none kVcheck_size dccheck_size pmcheck_size ancheck_size cdcheck_size ctcheck_size), Ais_count, (PySem.W.fnOf "is_count" "is_count" (defArgs s_is_count) (defBody s_is_count) (defScope s_is_count) .none kVis_count dcis_count pmis_count anis_count cdis_count ctis_count), Acheck_team, (PySem.W.fnOf "check_team" "check_team" (defArgs s_check_team) (defBody s_check_team) (defScope s_check_team) .none kVcheck_team dccheck_team pmcheck_team ancheck_team cdcheck_team ctcheck_team), Acheck_along, (PySem.W.fnOf "_check" "_check" (defArgs s_check_along) (defBody s_check_along) (defScope s_check_along) .none kVcheck_along dccheck_along pmcheck_along ancheck_along cdcheck_along ctcheck_along), Acheck_day, (PySem.W.fnOf "check_day" "check_day" (defArgs s_check_day) (defBody s_check_day) (defScope s_check_day) .none kVcheck_day dccheck_day pmcheck_day ancheck_day cdcheck_day ctcheck_day), ARule_stander, (PySem.W.fnOf "stander" "Rule.stander" (defArgs s_Rule_stander) (defBody s_Rule_stander) (defScope s_Rule_stander) .none kVRule_stander dcRule_stander pmRule_stander anRule_stander cdRule_stander ctRule_stander), ARule_step, (PySem.W.fnOf "step" "Rule.step" (defArgs s_Rule_step) (defBody s_Rule_step) (defScope s_Rule_step) .none kVRule_step dcRule_step pmRule_step anRule_step cdRule_step ctRule_step), ARule_word, (PySem.W.fnOf "word" "Rule.word" (defArgs s_Rule_word) (defBody s_Rule_word) (defScope s_Rule_word) .none kVRule_word dcRule_word pmRule_word anRule_word cdRule_word ctRule_word), AWord_head, (PySem.W.fnOf "head" "Word.head" (defArgs s_Word_head) (defBody s_Word_head) (defScope s_Word_head) .none kVWord_head dcWord_head pmWord_head anWord_head cdWord_head ctWord_head), AWord_tail, (PySem.W.fnOf "tail" "Word.tail" (defArgs s_Word_tail) (defBody s_Word_tail) (defScope s_Word_tail) .none kVWord_tail dcWord_tail pmWord_tail anWord_tail cdWord_tail ctWord_tail), Astretches, (PySem.W.fnOf "_stretches" "_stretches" (defArgs s_stretches) (defBody s_stretches) (defScope s_stretches) .none kVstretches dcstretches pmstretches anstretches cdstretches ctstretches), Acheck_seats, (PySem.W.fnOf "_check" "_check" (defArgs s_check_seats) (defBody s_check_seats) (defScope s_check_seats) .none kVcheck_seats dccheck_seats pmcheck_seats ancheck_seats cdcheck_seats ctcheck_seats), Astander_mark, (PySem.W.fnOf "stander_mark" "stander_mark" (defArgs s_stander_mark) (defBody s_stander_mark) (defScope s_stander_mark) .none kVstander_mark dcstander_mark pmstander_mark anstander_mark cdstander_mark ctstander_mark), Aseat, (PySem.W.fnOf "_seat" "_seat" (defArgs s_seat) (defBody s_seat) (defScope s_seat) .none kVseat dcseat pmseat anseat cdseat ctseat), Acontrary_marks, (PySem.W.fnOf "contrary_marks" "contrary_marks" (defArgs s_contrary_marks) (defBody s_contrary_marks) (defScope s_contrary_marks) .none kVcontrary_marks dccontrary_marks pmcontrary_marks ancontrary_marks cdcontrary_marks ctcontrary_marks), Acheck_places, (PySem.W.fnOf "_check_places" "_check_places" (defArgs s_check_places) (defBody s_check_places) (defScope s_check_places) .none kVcheck_places dccheck_places pmcheck_places ancheck_places cdcheck_places ctcheck_places), AWord_mark, (PySem.W.fnOf "mark" "Word.mark" (defArgs s_Word_mark) (defBody s_Word_mark) (defScope s_Word_mark) .none kVWord_mark dcWord_mark pmWord_mark anWord_mark cdWord_mark ctWord_mark), ARule_turned, (PySem.W.fnOf "turned" "Rule.turned" (defArgs s_Rule_turned) (defBody s_Rule_turned) (defScope s_Rule_turned) .none kVRule_turned dcRule_turned pmRule_turned anRule_turned cdRule_turned ctRule_turned), Aturned_if, (PySem.W.fnOf "_turned_if" "_turned_if" (defArgs s_turned_if) (defBody s_turned_if) (defScope s_turned_if) .none kVturned_if dcturned_if pmturned_if anturned_if cdturned_if ctturned_if), Amark_at, (PySem.W.fnOf "_mark_at" "_mark_at" (defArgs s_mark_at) (defBody s_mark_at) (defScope s_mark_at) .none kVmark_at dcmark_at pmmark_at anmark_at cdmark_at ctmark_at), Amark_of, (PySem.W.fnOf "mark_of" "mark_of" (defArgs s_mark_of) (defBody s_mark_of) (defScope s_mark_of) .none kVmark_of dcmark_of pmmark_of anmark_of cdmark_of ctmark_of), Amarks_from, (PySem.W.fnOf "_marks_from" "_marks_from" (defArgs s_marks_from) (defBody s_marks_from) (defScope s_marks_from) .none kVmarks_from dcmarks_from pmmarks_from anmarks_from cdmarks_from ctmarks_from), Arow, (PySem.W.fnOf "_row" "_row" (defArgs s_row) (defBody s_row) (defScope s_row) .none kVrow dcrow pmrow anrow cdrow ctrow), Acompared, (PySem.W.fnOf "_compared" "_compared" (defArgs s_compared) (defBody s_compared) (defScope s_compared) .none kVcompared dccompared pmcompared ancompared cdcompared ctcompared), Alikeness, (PySem.W.fnOf "likeness" "likeness" (defArgs s_likeness) (defBody s_likeness) (defScope s_likeness) .none kVlikeness dclikeness pmlikeness anlikeness cdlikeness ctlikeness), Atimes_said, (PySem.W.fnOf "times_said" "times_said" (defArgs s_times_said) (defBody s_times_said) (defScope s_times_said) .none kVtimes_said dctimes_said pmtimes_said antimes_said cdtimes_said cttimes_said), Atimes_until, (PySem.W.fnOf "times_until" "times_until" (defArgs s_times_until) (defBody s_times_until) (defScope s_times_until) .none kVtimes_until dctimes_until pmtimes_until antimes_until cdtimes_until cttimes_until), Aposition_said, (PySem.W.fnOf "_position_said" "_position_said" (defArgs s_position_said) (defBody s_position_said) (defScope s_position_said) .none kVposition_said dcposition_said pmposition_said anposition_said cdposition_said ctposition_said), Aposition_of, (PySem.W.fnOf "position_of" "position_of" (defArgs s_position_of) (defBody s_position_of) (defScope s_position_of) .none kVposition_of dcposition_of pmposition_of anposition_of cdposition_of ctposition_of), Astay_at, (PySem.W.fnOf "stay_at" "stay_at" (defArgs s_stay_at) (defBody s_stay_at) (defScope s_stay_at) .none kVstay_at dcstay_at pmstay_at anstay_at cdstay_at ctstay_at), Astander, (PySem.W.fnOf "_law_stander" "_law_stander" (defArgs s_stander) (defBody s_stander) (defScope s_stander) .none kVstander dcstander pmstander anstander cdstander ctstander), Acontrary, (PySem.W.fnOf "_law_contrary" "_law_contrary" (defArgs s_contrary) (defBody s_contrary) (defScope s_contrary) .none kVcontrary dccontrary pmcontrary ancontrary cdcontrary ctcontrary), Aat, (PySem.W.fnOf "_law_at" "_law_at" (defArgs s_at) (defBody s_at) (defScope s_at) .none kVat dcat pmat anat cdat ctat), Asign, (PySem.W.fnOf "_law_sign" "_law_sign" (defArgs s_sign) (defBody s_sign) (defScope s_sign) .none kVsign dcsign pmsign ansign cdsign ctsign), Aends_right, (PySem.W.fnOf "_law_ends_right" "_law_ends_right" (defArgs s_ends_right) (defBody s_ends_right) (defScope s_ends_right) .none kVends_right dcends_right pmends_right anends_right cdends_right ctends_right), Acheck_rounds, (PySem.W.fnOf "_check_rounds" "_check_rounds" (defArgs s_check_rounds) (defBody s_check_rounds) (defScope s_check_rounds) .none kVcheck_rounds dccheck_rounds pmcheck_rounds ancheck_rounds cdcheck_rounds ctcheck_rounds), Abreaks_until, (PySem.W.fnOf "breaks_until" "breaks_until" (defArgs s_breaks_until) (defBody s_breaks_until) (defScope s_breaks_until) .none kVbreaks_until dcbreaks_until pmbreaks_until anbreaks_until cdbreaks_until ctbreaks_until), Ahomes_until, (PySem.W.fnOf "homes_until" "homes_until" (defArgs s_homes_until) (defBody s_homes_until) (defScope s_homes_until) .none kVhomes_until dchomes_until pmhomes_until anhomes_until cdhomes_until cthomes_until), Astay_right, (PySem.W.fnOf "_law_stay_right" "_law_stay_right" (defArgs s_stay_right) (defBody s_stay_right) (defScope s_stay_right) .none kVstay_right dcstay_right pmstay_right anstay_right cdstay_right ctstay_right), Aright, (PySem.W.fnOf "_law_right" "_law_right" (defArgs s_right) (defBody s_right) (defScope s_right) .none kVright dcright pmright anright cdright ctright), Apot, (PySem.W.fnOf "_law_pot" "_law_pot" (defArgs s_pot) (defBody s_pot) (defScope s_pot) .none kVpot dcpot pmpot anpot cdpot ctpot), fa, (PySem.W.fnOf "law" "law" (defArgs s_law) (defBody s_law) (defScope s_law) .none kVlaw dclaw pmlaw anlaw cdlaw ctlaw), CWord, CRule, PRule_least_size, PRule_stander, PRule_step, PRule_turned, PRule_word, PWord_head, PWord_least, PWord_tail, DCONTRARIES, DCONTRARY_STANDERS, DSTANDER_MARKS⟩ := ⟨lo_tb, fun_mk (st := s_draw) l_draw o_draw k_draw, (fun_mk (st := s_draw) l_draw o_draw k_draw).binds (ps := ["_law_pot_here", "_law_many"]) fun _ _ _ _ _ _ us hl => match us, hl with | [_, _], _ => rfl, PySem.W.mg_of X G a_draw, fun_mk (st := s_pick) l_pick o_pick k_pick, (fun_mk (st := s_pick) l_pick o_pick k_pick).binds (ps := ["_law_pot_here", "_law_some"]) fun _ _ _ _ _ _ us hl => match us, hl with | [_, _], _ => rfl, PySem.W.mg_of X G a_pick, fun_mk (st := s_marks) l_marks o_marks k_marks, (fun_mk (st := s_marks) l_marks o_marks k_marks).binds (ps := ["_law_pot_here", "_law_many"]) fun _ _ _ _ _ _ us hl => match us, hl with | [_, _], _ => rfl, PySem.W.mg_of X G a_marks, fun_mk (st := s_model) l_model o_model k_model, (fun_mk (st := s_model) l_model o_model k_model).binds (ps := ["_law_pot_here"]) fun _ _ _ _ _ _ us hl => match us, hl with | [_], _ => rfl, PySem.W.mg_of X G a_model, fun_mk (st := s_drawn) l_drawn o_drawn k_drawn, (fun_mk (st := s_drawn) l_drawn o_drawn k_drawn).binds (ps := ["_law_pot_here"]) fun _ _ _ _ _ _ us hl => match us, hl with | [_], _ => rfl, PySem.W.mg_of X G a_drawn, fun_mk (st := s_is_marks) l_is_marks o_is_marks k_is_marks, (fun_mk (st := s_is_marks) l_is_marks o_is_marks k_is_marks).binds (ps := ["value"]) fun _ _ _ _ _ _ us hl => match us, hl with | [_], _ => rfl, PySem.W.mg_of X G a_is_marks, fun_mk (st := s_check_part) l_check_part o_check_part k_check_part, (fun_mk (st := s_check_part) l_check_part o_check_part k_check_part).binds (ps := ["marks"]) fun _ _ _ _ _ _ us hl => match us, hl with | [_], _ => rfl, PySem.W.mg_of X G a_check_part, fun_mk (st := s_Word_init) l_Word_init o_Word_init k_Word_init, (fun_mk (st := s_Word_init) l_Word_init o_Word_init k_Word_init).binds (ps := ["self", "head", "middle", "tail"]) fun _ _ _ _ _ _ us hl => match us, hl with | [_, _, _, _], _ => rfl, fun_mk (st := s_is_integer) l_is_integer o_is_integer k_is_integer, (fun_mk (st := s_is_integer) l_is_integer o_is_integer k_is_integer).binds (ps := ["value"]) fun _ _ _ _ _ _ us hl => match us, hl with | [_], _ => rfl, PySem.W.mg_of X G a_is_integer, ⟨⟨_, _, _, _, _, _, _, _, _, _, rfl, l_Rule_init, o_Rule_init, .inr ⟨by simp, TRule_init, _, _, _, rfl, t_Rule_init, rfl, .cons rfl (.nil)⟩, .inl rfl⟩, k_Rule_init⟩, (fun (F_ : FunD K "__init__" "Rule.__init__" (defArgs s_Rule_init) (defBody s_Rule_init) (defScope s_Rule_init) [V.bl false] [] ARule_init _) => FunD_b0 F_ (by simp) fun T_ kV_ doc_ pm_ an_ cdv_ ct_ us_ its_ h_ hi_ => match us_, its_, h_, hi_ with | [_, _, _, _, _], [_], _, _ => ⟨_, rfl, rfl⟩) ⟨⟨_, _, _, _, _, _, _, _, _, _, rfl, l_Rule_init, o_Rule_init, .inr ⟨by simp, TRule_init, _, _, _, rfl, t_Rule_init, rfl, .cons rfl (.nil)⟩, .inl rfl⟩, k_Rule_init⟩, fun_mk (st := s_made) l_made o_made k_made, (fun_mk (st := s_made) l_made o_made k_made).binds (ps := ["_law_model_here"]) fun _ _ _ _ _ _ us hl => match us, hl with | [_], _ => rfl, PySem.W.mg_of X G a_made, fun_mk (st := s_fewest) l_fewest o_fewest k_fewest, (fun_mk (st := s_fewest) l_fewest o_fewest k_fewest).binds (ps := ["_law_model_here"]) fun _ _ _ _ _ _ us hl => match us, hl with | [_], _ => rfl, PySem.W.mg_of X G a_fewest, fun_mk (st := s_great) l_great o_great k_great, (fun_mk (st := s_great) l_great o_great k_great).binds (ps := ["_law_pot_here", "_law_model_here"]) fun _ _ _ _ _ _ us hl => match us, hl with | [_, _], _ => rfl, PySem.W.mg_of X G a_great, fun_mk (st := s_team) l_team o_team k_team, (fun_mk (st := s_team) l_team o_team k_team).binds (ps := ["_law_pot_here", "_law_model_here", "_law_n"]) fun _ _ _ _ _ _ us hl => match us, hl with | [_, _, _], _ => rfl, PySem.W.mg_of X G a_team, fun_mk (st := s_edge) l_edge o_edge k_edge, (fun_mk (st := s_edge) l_edge o_edge k_edge).binds (ps := ["_law_pot_here", "_law_model_here", "_law_n", "_law_team_now"]) fun _ _ _ _ _ _ us hl => match us, hl with | [_, _, _, _], _ => rfl, PySem.W.mg_of X G a_edge, fun_mk (st := s_round) l_round o_round k_round, (fun_mk (st := s_round) l_round o_round k_round).binds (ps := ["_law_pot_here", "_law_model_here", "_law_n", "_law_team_now"]) fun _ _ _ _ _ _ us hl => match us, hl with | [_, _, _, _], _ => rfl, PySem.W.mg_of X G a_round, fun_mk (st := s_Word_least) l_Word_least o_Word_least k_Word_least, (fun_mk (st := s_Word_least) l_Word_least o_Word_least k_Word_least).binds (ps := ["self"]) fun _ _ _ _ _ _ us hl => match us, hl with | [_], _ => rfl, ⟨pa_Word_least, pg_Word_least, pt_Word_least, ⟨_, pr_Word_least⟩⟩, fun_mk (st := s_Rule_least_size) l_Rule_least_size o_Rule_least_size k_Rule_least_size, (fun_mk (st := s_Rule_least_size) l_Rule_least_size o_Rule_least_size k_Rule_least_size).binds (ps := ["self"]) fun _ _ _ _ _ _ us hl => match us, hl with | [_], _ => rfl, ⟨pa_Rule_least_size, pg_Rule_least_size, pt_Rule_least_size, ⟨_, pr_Rule_least_size⟩⟩, fun_mk (st := s_is_size) l_is_size o_is_size k_is_size, (fun_mk (st := s_is_size) l_is_size o_is_size k_is_size).binds (ps := ["rule", "value"]) fun _ _ _ _ _ _ us hl => match us, hl with | [_, _], _ => rfl, PySem.W.mg_of X G a_is_size, fun_mk (st := s_check_size) l_check_size o_check_size k_check_size, (fun_mk (st := s_check_size) l_check_size o_check_size k_check_size).binds (ps := ["rule", "size"]) fun _ _ _ _ _ _ us hl => match us, hl with | [_, _], _ => rfl, PySem.W.mg_of X G a_check_size, fun_mk (st := s_is_count) l_is_count o_is_count k_is_count, (fun_mk (st := s_is_count) l_is_count o_is_count k_is_count).binds (ps := ["value"]) fun _ _ _ _ _ _ us hl => match us, hl with | [_], _ => rfl, PySem.W.mg_of X G a_is_count, fun_mk (st := s_check_team) l_check_team o_check_team k_check_team, (fun_mk (st := s_check_team) l_check_team o_check_team k_check_team).binds (ps := ["team", "teams"]) fun _ _ _ _ _ _ us hl => match us, hl with | [_, _], _ => rfl, PySem.W.mg_of X G a_check_team, fun_mk (st := s_check_along) l_check_along o_check_along k_check_along, (fun_mk (st := s_check_along) l_check_along o_check_along k_check_along).binds (ps := ["rule", "size", "team"]) fun _ _ _ _ _ _ us hl => match us, hl with | [_, _, _], _ => rfl, PySem.W.mg_of X G a_check_along, fun_mk (st := s_check_day) l_check_day o_check_day k_check_day, (fun_mk (st := s_check_day) l_check_day o_check_day k_check_day).binds (ps := ["day", "rounds"]) fun _ _ _ _ _ _ us hl => match us, hl with | [_, _], _ => rfl, PySem.W.mg_of X G a_check_day, fun_mk (st := s_Rule_stander) l_Rule_stander o_Rule_stander k_Rule_stander, (fun_mk (st := s_Rule_stander) l_Rule_stander o_Rule_stander k_Rule_stander).binds (ps := ["self"]) fun _ _ _ _ _ _ us hl => match us, hl with | [_], _ => rfl, ⟨pa_Rule_stander, pg_Rule_stander, pt_Rule_stander, ⟨_, pr_Rule_stander⟩⟩, fun_mk (st := s_Rule_step) l_Rule_step o_Rule_step k_Rule_step, (fun_mk (st := s_Rule_step) l_Rule_step o_Rule_step k_Rule_step).binds (ps := ["self"]) fun _ _ _ _ _ _ us hl => match us, hl with | [_], _ => rfl, ⟨pa_Rule_step, pg_Rule_step, pt_Rule_step, ⟨_, pr_Rule_step⟩⟩, fun_mk (st := s_Rule_word) l_Rule_word o_Rule_word k_Rule_word, (fun_mk (st := s_Rule_word) l_Rule_word o_Rule_word k_Rule_word).binds (ps := ["self"]) fun _ _ _ _ _ _ us hl => match us, hl with | [_], _ => rfl, ⟨pa_Rule_word, pg_Rule_word, pt_Rule_word, ⟨_, pr_Rule_word⟩⟩, fun_mk (st := s_Word_head) l_Word_head o_Word_head k_Word_head, (fun_mk (st := s_Word_head) l_Word_head o_Word_head k_Word_head).binds (ps := ["self"]) fun _ _ _ _ _ _ us hl => match us, hl with | [_], _ => rfl, ⟨pa_Word_head, pg_Word_head, pt_Word_head, ⟨_, pr_Word_head⟩⟩, fun_mk (st := s_Word_tail) l_Word_tail o_Word_tail k_Word_tail, (fun_mk (st := s_Word_tail) l_Word_tail o_Word_tail k_Word_tail).binds (ps := ["self"]) fun _ _ _ _ _ _ us hl => match us, hl with | [_], _ => rfl, ⟨pa_Word_tail, pg_Word_tail, pt_Word_tail, ⟨_, pr_Word_tail⟩⟩, fun_mk (st := s_stretches) l_stretches o_stretches k_stretches, (fun_mk (st := s_stretches) l_stretches o_stretches k_stretches).binds (ps := ["word", "places"]) fun _ _ _ _ _ _ us hl => match us, hl with | [_, _], _ => rfl, PySem.W.mg_of X G a_stretches, fun_mk (st := s_check_seats) l_check_seats o_check_seats k_check_seats, (fun_mk (st := s_check_seats) l_check_seats o_check_seats k_check_seats).binds (ps := ["rule", "size", "team", "day"]) fun _ _ _ _ _ _ us hl => match us, hl with | [_, _, _, _], _ => rfl, PySem.W.mg_of X G a_check_seats, fun_mk (st := s_stander_mark) l_stander_mark o_stander_mark k_stander_mark, (fun_mk (st := s_stander_mark) l_stander_mark o_stander_mark k_stander_mark).binds (ps := ["rule", "day"]) fun _ _ _ _ _ _ us hl => match us, hl with | [_, _], _ => rfl, PySem.W.mg_of X G a_stander_mark, fun_mk (st := s_seat) l_seat o_seat k_seat, (fun_mk (st := s_seat) l_seat o_seat k_seat).binds (ps := ["rule", "size", "team", "day"]) fun _ _ _ _ _ _ us hl => match us, hl with | [_, _, _, _], _ => rfl, PySem.W.mg_of X G a_seat, fun_mk (st := s_contrary_marks) l_contrary_marks o_contrary_marks k_contrary_marks, (fun_mk (st := s_contrary_marks) l_contrary_marks o_contrary_marks k_contrary_marks).binds (ps := ["marks"]) fun _ _ _ _ _ _ us hl => match us, hl with | [_], _ => rfl, PySem.W.mg_of X G a_contrary_marks, fun_mk (st := s_check_places) l_check_places o_check_places k_check_places, (fun_mk (st := s_check_places) l_check_places o_check_places k_check_places).binds (ps := ["word", "places"]) fun _ _ _ _ _ _ us hl => match us, hl with | [_, _], _ => rfl, PySem.W.mg_of X G a_check_places, fun_mk (st := s_Word_mark) l_Word_mark o_Word_mark k_Word_mark, (fun_mk (st := s_Word_mark) l_Word_mark o_Word_mark k_Word_mark).binds (ps := ["self", "places", "place"]) fun _ _ _ _ _ _ us hl => match us, hl with | [_, _, _], _ => rfl, ⟨a_Word_mark, i_Word_mark, k_Word_mark⟩, fun_mk (st := s_Rule_turned) l_Rule_turned o_Rule_turned k_Rule_turned, (fun_mk (st := s_Rule_turned) l_Rule_turned o_Rule_turned k_Rule_turned).binds (ps := ["self"]) fun _ _ _ _ _ _ us hl => match us, hl with | [_], _ => rfl, ⟨pa_Rule_turned, pg_Rule_turned, pt_Rule_turned, ⟨_, pr_Rule_turned⟩⟩, fun_mk (st := s_turned_if) l_turned_if o_turned_if k_turned_if, (fun_mk (st := s_turned_if) l_turned_if o_turned_if k_turned_if).binds (ps := ["rule", "day", "marks"]) fun _ _ _ _ _ _ us hl => match us, hl with | [_, _, _], _ => rfl, PySem.W.mg_of X G a_turned_if, fun_mk (st := s_mark_at) l_mark_at o_mark_at k_mark_at, (fun_mk (st := s_mark_at) l_mark_at o_mark_at k_mark_at).binds (ps := ["rule", "size", "at", "day"]) fun _ _ _ _ _ _ us hl => match us, hl with | [_, _, _, _], _ => rfl, PySem.W.mg_of X G a_mark_at, fun_mk (st := s_mark_of) l_mark_of o_mark_of k_mark_of, (fun_mk (st := s_mark_of) l_mark_of o_mark_of k_mark_of).binds (ps := ["rule", "size", "team", "day"]) fun _ _ _ _ _ _ us hl => match us, hl with | [_, _, _, _], _ => rfl, PySem.W.mg_of X G a_mark_of, fun_mk (st := s_marks_from) l_marks_from o_marks_from k_marks_from, (fun_mk (st := s_marks_from) l_marks_from o_marks_from k_marks_from).binds (ps := ["rule", "size", "team", "first", "last"]) fun _ _ _ _ _ _ us hl => match us, hl with | [_, _, _, _, _], _ => rfl, PySem.W.mg_of X G a_marks_from, fun_mk (st := s_row) l_row o_row k_row, (fun_mk (st := s_row) l_row o_row k_row).binds (ps := ["rule", "size", "team"]) fun _ _ _ _ _ _ us hl => match us, hl with | [_, _, _], _ => rfl, PySem.W.mg_of X G a_row, fun_mk (st := s_compared) l_compared o_compared k_compared, (fun_mk (st := s_compared) l_compared o_compared k_compared).binds (ps := ["marks", "others"]) fun _ _ _ _ _ _ us hl => match us, hl with | [_, _], _ => rfl, PySem.W.mg_of X G a_compared, fun_mk (st := s_likeness) l_likeness o_likeness k_likeness, (fun_mk (st := s_likeness) l_likeness o_likeness k_likeness).binds (ps := ["pieces"]) fun _ _ _ _ _ _ us hl => match us, hl with | [_], _ => rfl, PySem.W.mg_of X G a_likeness, fun_mk (st := s_times_said) l_times_said o_times_said k_times_said, (fun_mk (st := s_times_said) l_times_said o_times_said k_times_said).binds (ps := ["marks", "mark", "many"]) fun _ _ _ _ _ _ us hl => match us, hl with | [_, _, _], _ => rfl, PySem.W.mg_of X G a_times_said, fun_mk (st := s_times_until) l_times_until o_times_until k_times_until, (fun_mk (st := s_times_until) l_times_until o_times_until k_times_until).binds (ps := ["pieces", "mark", "many"]) fun _ _ _ _ _ _ us hl => match us, hl with | [_, _, _], _ => rfl, PySem.W.mg_of X G a_times_until, fun_mk (st := s_position_said) l_position_said o_position_said k_position_said, (fun_mk (st := s_position_said) l_position_said o_position_said k_position_said).binds (ps := ["marks", "mark", "number"]) fun _ _ _ _ _ _ us hl => match us, hl with | [_, _, _], _ => rfl, PySem.W.mg_of X G a_position_said, fun_mk (st := s_position_of) l_position_of o_position_of k_position_of, (fun_mk (st := s_position_of) l_position_of o_position_of k_position_of).binds (ps := ["pieces", "mark", "number"]) fun _ _ _ _ _ _ us hl => match us, hl with | [_, _, _], _ => rfl, PySem.W.mg_of X G a_position_of, fun_mk (st := s_stay_at) l_stay_at o_stay_at k_stay_at, (fun_mk (st := s_stay_at) l_stay_at o_stay_at k_stay_at).binds (ps := ["rule", "size", "team", "day"]) fun _ _ _ _ _ _ us hl => match us, hl with | [_, _, _, _], _ => rfl, PySem.W.mg_of X G a_stay_at, fun_mk (st := s_stander) l_stander o_stander k_stander, (fun_mk (st := s_stander) l_stander o_stander k_stander).binds (ps := ["_law_model_here", "_law_k"]) fun _ _ _ _ _ _ us hl => match us, hl with | [_, _], _ => rfl, PySem.W.mg_of X G a_stander, fun_mk (st := s_contrary) l_contrary o_contrary k_contrary, (fun_mk (st := s_contrary) l_contrary o_contrary k_contrary).binds (ps := ["_law_sign_here"]) fun _ _ _ _ _ _ us hl => match us, hl with | [_], _ => rfl, PySem.W.mg_of X G a_contrary, fun_mk (st := s_at) l_at o_at k_at, (fun_mk (st := s_at) l_at o_at k_at).binds (ps := ["_law_model_here", "_law_places", "_law_k"]) fun _ _ _ _ _ _ us hl => match us, hl with | [_, _, _], _ => rfl, PySem.W.mg_of X G a_at, fun_mk (st := s_sign) l_sign o_sign k_sign, (fun_mk (st := s_sign) l_sign o_sign k_sign).binds (ps := ["_law_model_here", "_law_n", "_law_team_now", "_law_k"]) fun _ _ _ _ _ _ us hl => match us, hl with | [_, _, _, _], _ => rfl, PySem.W.mg_of X G a_sign, fun_mk (st := s_ends_right) l_ends_right o_ends_right k_ends_right, (fun_mk (st := s_ends_right) l_ends_right o_ends_right k_ends_right).binds (ps := ["_law_model_here", "_law_n", "_law_team_now", "_law_stay"]) fun _ _ _ _ _ _ us hl => match us, hl with | [_, _, _, _], _ => rfl, PySem.W.mg_of X G a_ends_right, fun_mk (st := s_check_rounds) l_check_rounds o_check_rounds k_check_rounds, (fun_mk (st := s_check_rounds) l_check_rounds o_check_rounds k_check_rounds).binds (ps := ["size", "rounds"]) fun _ _ _ _ _ _ us hl => match us, hl with | [_, _], _ => rfl, PySem.W.mg_of X G a_check_rounds, fun_mk (st := s_breaks_until) l_breaks_until o_breaks_until k_breaks_until, (fun_mk (st := s_breaks_until) l_breaks_until o_breaks_until k_breaks_until).binds (ps := ["rule", "size", "team", "rounds"]) fun _ _ _ _ _ _ us hl => match us, hl with | [_, _, _, _], _ => rfl, PySem.W.mg_of X G a_breaks_until, fun_mk (st := s_homes_until) l_homes_until o_homes_until k_homes_until, (fun_mk (st := s_homes_until) l_homes_until o_homes_until k_homes_until).binds (ps := ["rule", "size", "team", "rounds"]) fun _ _ _ _ _ _ us hl => match us, hl with | [_, _, _, _], _ => rfl, PySem.W.mg_of X G a_homes_until, fun_mk (st := s_stay_right) l_stay_right o_stay_right k_stay_right, (fun_mk (st := s_stay_right) l_stay_right o_stay_right k_stay_right).binds (ps := ["_law_pot_here", "_law_model_here", "_law_made_here", "_law_n", "_law_team_now", "_law_spot"]) fun _ _ _ _ _ _ us hl => match us, hl with | [_, _, _, _, _, _], _ => rfl, PySem.W.mg_of X G a_stay_right, fun_mk (st := s_right) l_right o_right k_right, (fun_mk (st := s_right) l_right o_right k_right).binds (ps := ["_law_pot_here"]) fun _ _ _ _ _ _ us hl => match us, hl with | [_], _ => rfl, PySem.W.mg_of X G a_right, fun_mk (st := s_pot) l_pot o_pot k_pot, (fun_mk (st := s_pot) l_pot o_pot k_pot).binds (ps := ["_law_script", "_law_k"]) fun _ _ _ _ _ _ us hl => match us, hl with | [_, _], _ => rfl, PySem.W.mg_of X G a_pot, fun_mk (st := s_law) l_law o_law k_law, (fun_mk (st := s_law) l_law o_law k_law).binds (ps := ["_law_script"]) fun _ _ _ _ _ _ us hl => match us, hl with | [_], _ => rfl, PySem.W.mg_of X G a_law, ⟨pg_Word, hd_Word, po_Word, sa_Word⟩, PySem.W.mg_of X G aC_Word, ⟨mk_Word, a_Word_init, i_Word_init, kc_Word⟩, na_Word__head, na_Word__middle, na_Word__tail, ⟨pg_Rule, hd_Rule, po_Rule, sa_Rule⟩, PySem.W.mg_of X G aC_Rule, ⟨mk_Rule, a_Rule_init, i_Rule_init, kc_Rule⟩, na_Rule__step, na_Rule__word, na_Rule__stander, na_Rule__turned, PySem.W.mg_of X G gd_CONTRARIES, (kd_cons ⟨_, _, _, ld_CONTRARIES, lk_CONTRARIES, lv_CONTRARIES_0, ⟨_, rfl⟩⟩ (kd_cons ⟨_, _, _, ld_CONTRARIES, lk_CONTRARIES, lv_CONTRARIES_1, ⟨_, rfl⟩⟩ kd_nil)), PySem.W.mg_of X G gd_CONTRARY_STANDERS, (kd_cons ⟨_, _, _, ld_CONTRARY_STANDERS, lk_CONTRARY_STANDERS, lv_CONTRARY_STANDERS_0, ⟨_, rfl⟩⟩ (kd_cons ⟨_, _, _, ld_CONTRARY_STANDERS, lk_CONTRARY_STANDERS, lv_CONTRARY_STANDERS_1, ⟨_, rfl⟩⟩ (kd_cons ⟨_, _, _, ld_CONTRARY_STANDERS, lk_CONTRARY_STANDERS, lv_CONTRARY_STANDERS_2, ⟨_, rfl⟩⟩ (kd_cons ⟨_, _, _, ld_CONTRARY_STANDERS, lk_CONTRARY_STANDERS, lv_CONTRARY_STANDERS_3, ⟨_, rfl⟩⟩ kd_nil)))), PySem.W.mg_of X G gd_STANDER_MARKS, (kd_cons ⟨_, _, _, ld_STANDER_MARKS, lk_STANDER_MARKS, lv_STANDER_MARKS_0, ⟨_, rfl⟩⟩ (kd_cons ⟨_, _, _, ld_STANDER_MARKS, lk_STANDER_MARKS, lv_STANDER_MARKS_1, ⟨_, rfl⟩⟩ (kd_cons ⟨_, _, _, ld_STANDER_MARKS, lk_STANDER_MARKS, lv_STANDER_MARKS_2, ⟨_, rfl⟩⟩ (kd_cons ⟨_, _, _, ld_STANDER_MARKS, lk_STANDER_MARKS, lv_STANDER_MARKS_3, ⟨_, rfl⟩⟩ kd_nil)))), lo_CONTRARY_STANDERS, PySem.W.mg_none_of X G z_abs, PySem.W.mg_none_of X G z_all, PySem.W.mg_none_of X G z_any, PySem.W.mg_none_of X G z_bool, PySem.W.mg_none_of X G z_dict, PySem.W.mg_none_of X G z_divmod, PySem.W.mg_none_of X G z_enumerate, PySem.W.mg_none_of X G z_int, PySem.W.mg_none_of X G z_isinstance, PySem.W.mg_none_of X G z_len, PySem.W.mg_none_of X G z_list, PySem.W.mg_none_of X G z_max, PySem.W.mg_none_of X G z_min, PySem.W.mg_none_of X G z_range, PySem.W.mg_none_of X G z_repr, PySem.W.mg_none_of X G z_set, PySem.W.mg_none_of X G z_sorted, PySem.W.mg_none_of X G z_str, PySem.W.mg_none_of X G z_sum, PySem.W.mg_none_of X G z_tuple, PySem.W.mg_none_of X G z_zip, ⟨_, PySem.W.mg_of X G c_MARKS_TOLD, ⟨_, rfl⟩⟩, ⟨_, PySem.W.mg_of X G c_MOST_MARKS, ⟨_, rfl⟩⟩, ⟨_, PySem.W.mg_of X G c_MOST_STEP, ⟨_, rfl⟩⟩, ⟨_, PySem.W.mg_of X G c_OTHER, ⟨_, rfl⟩⟩, ⟨_, PySem.W.mg_of X G c_SAME, ⟨_, rfl⟩⟩⟩
  exact ⟨_, fun s v => .of_eq rfl, fun base _ _ => ok_law T⟩
theorem ob_eq (s : PySem.W.SharedT) : ob s = hk.obs s.abs := obF_eq s
theorem facts {l : PySem.W.OpenLaw} {w : World} {mg : Str → Option Value} {fa : Addr} {h : Heap} (Y : hk.says w h) (G : h.Ns mainGlobals mg) (hfa : mg "law" = some (.ref fa)) :
    ∃ K : PySem.W.Frag, K.In h ∧ ∃ (fd : FuncData) (sp : Sp), (∀ (s : Shared) (u : Value), BindsTo s fd ⟨[u], []⟩ [("_law_script", u)]) ∧
      (∀ (H : Hp) (a : Addr) (ns : List Int), ns.length ≤ 63 → Only H → SqL K H a (ns.map V.int) → sp [.ref a] H (fun v _ => v = .bl true) E0) ∧
      ∀ base : Heap, K.In base → base.Ns mainGlobals mg → FnG l.prog w K mg base 14 fa fd ["_law_script"] sp := by
  obtain ⟨K, KX, c_⟩ := Y
  have cx0_ : (gxa K && gxb K) = true := congrArg (fun z : AlR => z.1) c_
  obtain ⟨cx_, cy_⟩ := He.ba cx0_
  have cf_ : (fnL.map fun a => shR K (a K)) = fnV := congrArg (fun z : AlR => z.2.1) c_
  have ct_ : (tsL.map fun t => He.dicW K (t.1 K)) = tsL.map fun t => some (He.keysIn w.params t.2) := congrArg (fun z : AlR => z.2.2) c_
  obtain ⟨g0_, cx_⟩ := He.ba cx_
  obtain ⟨a_draw, fd_draw, o_draw, k_draw, a_pick, fd_pick, o_pick, k_pick, a_marks, fd_marks⟩ := of_decide_eq_true g0_
  obtain ⟨g1_, cx_⟩ := He.ba cx_
  obtain ⟨o_marks, k_marks, a_model, fd_model, o_model, k_model, a_drawn, fd_drawn, o_drawn, k_drawn⟩ := of_decide_eq_true g1_
  obtain ⟨g2_, cx_⟩ := He.ba cx_
  obtain ⟨a_is_marks, fd_is_marks, o_is_marks, k_is_marks, a_check_part, fd_check_part, o_check_part, k_check_part, a_Word_init, i_Word_init⟩ := of_decide_eq_true g2_
  obtain ⟨g3_, cx_⟩ := He.ba cx_
  obtain ⟨fd_Word_init, o_Word_init, k_Word_init, a_is_integer, fd_is_integer, o_is_integer, k_is_integer, a_Rule_init, i_Rule_init, ft_Rule_init⟩ := of_decide_eq_true g3_
  obtain ⟨g4_, cx_⟩ := He.ba cx_
  obtain ⟨fd_Rule_init, o_Rule_init, k_Rule_init, a_made, fd_made, o_made, k_made, a_fewest, fd_fewest, o_fewest⟩ := of_decide_eq_true g4_
  obtain ⟨g5_, cx_⟩ := He.ba cx_
  obtain ⟨k_fewest, a_great, fd_great, o_great, k_great, a_team, fd_team, o_team, k_team, a_edge⟩ := of_decide_eq_true g5_
  obtain ⟨g6_, cx_⟩ := He.ba cx_
  obtain ⟨fd_edge, o_edge, k_edge, a_round, fd_round, o_round, k_round, pa_Word_least, pg_Word_least, pt_Word_least⟩ := of_decide_eq_true g6_
  obtain ⟨g7_, cx_⟩ := He.ba cx_
  obtain ⟨fpr_Word_least, fd_Word_least, o_Word_least, k_Word_least, pa_Rule_least_size, pg_Rule_least_size, pt_Rule_least_size, fpr_Rule_least_size, fd_Rule_least_size, o_Rule_least_size⟩ := of_decide_eq_true g7_
  obtain ⟨g8_, cx_⟩ := He.ba cx_
  obtain ⟨k_Rule_least_size, a_is_size, fd_is_size, o_is_size, k_is_size, a_check_size, fd_check_size, o_check_size, k_check_size, a_is_count⟩ := of_decide_eq_true g8_
  obtain ⟨g9_, cx_⟩ := He.ba cx_
  obtain ⟨fd_is_count, o_is_count, k_is_count, a_check_team, fd_check_team, o_check_team, k_check_team, a_check_along, fd_check_along, o_check_along⟩ := of_decide_eq_true g9_
  obtain ⟨g10_, cx_⟩ := He.ba cx_
  obtain ⟨k_check_along, a_check_day, fd_check_day, o_check_day, k_check_day, pa_Rule_stander, pg_Rule_stander, pt_Rule_stander, fpr_Rule_stander, fd_Rule_stander⟩ := of_decide_eq_true g10_
  obtain ⟨g11_, cx_⟩ := He.ba cx_
  obtain ⟨o_Rule_stander, k_Rule_stander, pa_Rule_step, pg_Rule_step, pt_Rule_step, fpr_Rule_step, fd_Rule_step, o_Rule_step, k_Rule_step, pa_Rule_word⟩ := of_decide_eq_true g11_
  obtain ⟨g12_, cx_⟩ := He.ba cx_
  obtain ⟨pg_Rule_word, pt_Rule_word, fpr_Rule_word, fd_Rule_word, o_Rule_word, k_Rule_word, pa_Word_head, pg_Word_head, pt_Word_head, fpr_Word_head⟩ := of_decide_eq_true g12_
  obtain ⟨g13_, cx_⟩ := He.ba cx_
  obtain ⟨fd_Word_head, o_Word_head, k_Word_head, pa_Word_tail, pg_Word_tail, pt_Word_tail, fpr_Word_tail, fd_Word_tail, o_Word_tail, k_Word_tail⟩ := of_decide_eq_true g13_
  obtain ⟨g14_, cx_⟩ := He.ba cx_
  obtain ⟨a_stretches, fd_stretches, o_stretches, k_stretches, a_check_seats, fd_check_seats, o_check_seats, k_check_seats, a_stander_mark, fd_stander_mark⟩ := of_decide_eq_true g14_
  obtain ⟨g15_, cx_⟩ := He.ba cx_
  obtain ⟨o_stander_mark, k_stander_mark, a_seat, fd_seat, o_seat, k_seat, a_contrary_marks, fd_contrary_marks, o_contrary_marks, k_contrary_marks⟩ := of_decide_eq_true g15_
  have g16_ := cx_
  obtain ⟨a_check_places, fd_check_places, o_check_places, k_check_places, a_Word_mark, i_Word_mark, fd_Word_mark, o_Word_mark, k_Word_mark, pa_Rule_turned⟩ := of_decide_eq_true g16_
  obtain ⟨g17_, cy_⟩ := He.ba cy_
  obtain ⟨pg_Rule_turned, pt_Rule_turned, fpr_Rule_turned, fd_Rule_turned, o_Rule_turned, k_Rule_turned, a_turned_if, fd_turned_if, o_turned_if, k_turned_if⟩ := of_decide_eq_true g17_
  obtain ⟨g18_, cy_⟩ := He.ba cy_
  obtain ⟨a_mark_at, fd_mark_at, o_mark_at, k_mark_at, a_mark_of, fd_mark_of, o_mark_of, k_mark_of, a_marks_from, fd_marks_from⟩ := of_decide_eq_true g18_
  obtain ⟨g19_, cy_⟩ := He.ba cy_
  obtain ⟨o_marks_from, k_marks_from, a_row, fd_row, o_row, k_row, a_compared, fd_compared, o_compared, k_compared⟩ := of_decide_eq_true g19_
  obtain ⟨g20_, cy_⟩ := He.ba cy_
  obtain ⟨a_likeness, fd_likeness, o_likeness, k_likeness, a_times_said, fd_times_said, o_times_said, k_times_said, a_times_until, fd_times_until⟩ := of_decide_eq_true g20_
  obtain ⟨g21_, cy_⟩ := He.ba cy_
  obtain ⟨o_times_until, k_times_until, a_position_said, fd_position_said, o_position_said, k_position_said, a_position_of, fd_position_of, o_position_of, k_position_of⟩ := of_decide_eq_true g21_
  obtain ⟨g22_, cy_⟩ := He.ba cy_
  obtain ⟨a_stay_at, fd_stay_at, o_stay_at, k_stay_at, a_stander, fd_stander, o_stander, k_stander, a_contrary, fd_contrary⟩ := of_decide_eq_true g22_
  obtain ⟨g23_, cy_⟩ := He.ba cy_
  obtain ⟨o_contrary, k_contrary, a_at, fd_at, o_at, k_at, a_sign, fd_sign, o_sign, k_sign⟩ := of_decide_eq_true g23_
  obtain ⟨g24_, cy_⟩ := He.ba cy_
  obtain ⟨a_ends_right, fd_ends_right, o_ends_right, k_ends_right, a_check_rounds, fd_check_rounds, o_check_rounds, k_check_rounds, a_breaks_until, fd_breaks_until⟩ := of_decide_eq_true g24_
  obtain ⟨g25_, cy_⟩ := He.ba cy_
  obtain ⟨o_breaks_until, k_breaks_until, a_homes_until, fd_homes_until, o_homes_until, k_homes_until, a_stay_right, fd_stay_right, o_stay_right, k_stay_right⟩ := of_decide_eq_true g25_
  obtain ⟨g26_, cy_⟩ := He.ba cy_
  obtain ⟨a_right, fd_right, o_right, k_right, a_pot, fd_pot, o_pot, k_pot, a_law, fd_law⟩ := of_decide_eq_true g26_
  obtain ⟨g27_, cy_⟩ := He.ba cy_
  obtain ⟨o_law, k_law, lo_tb, aC_Word, pg_Word, hd_Word, po_Word, sa_Word, mk_Word, kc_Word⟩ := of_decide_eq_true g27_
  obtain ⟨g28_, cy_⟩ := He.ba cy_
  obtain ⟨na_Word__head, na_Word__middle, na_Word__tail, aC_Rule, pg_Rule, hd_Rule, po_Rule, sa_Rule, mk_Rule, kc_Rule⟩ := of_decide_eq_true g28_
  obtain ⟨g29_, cy_⟩ := He.ba cy_
  obtain ⟨na_Rule__step, na_Rule__word, na_Rule__stander, na_Rule__turned, gd_CONTRARIES, lv_CONTRARIES_1, lv_CONTRARIES_0, gd_CONTRARY_STANDERS, lv_CONTRARY_STANDERS_3, lv_CONTRARY_STANDERS_2⟩ := of_decide_eq_true g29_
  obtain ⟨g30_, cy_⟩ := He.ba cy_
  obtain ⟨lv_CONTRARY_STANDERS_1, lv_CONTRARY_STANDERS_0, gd_STANDER_MARKS, lv_STANDER_MARKS_3, lv_STANDER_MARKS_2, lv_STANDER_MARKS_1, lv_STANDER_MARKS_0, z_abs, z_all, z_any⟩ := of_decide_eq_true g30_
  obtain ⟨g31_, cy_⟩ := He.ba cy_
  obtain ⟨z_bool, z_dict, z_divmod, z_enumerate, z_int, z_isinstance, z_len, z_list, z_max, z_min⟩ := of_decide_eq_true g31_
  obtain ⟨g32_, cy_⟩ := He.ba cy_
  obtain ⟨z_range, z_repr, z_set, z_sorted, z_str, z_sum, z_tuple, z_zip, c_MARKS_TOLD, c_MOST_MARKS⟩ := of_decide_eq_true g32_
  have g33_ := cy_
  obtain ⟨c_MOST_STEP, c_OTHER, c_SAME⟩ := of_decide_eq_true g33_
  obtain ⟨_, _, _, _, _, _, _, _, l_draw⟩ := shR_ok (fnAt cf_ 0 (a := xa_Adraw) (v := sv_draw) (by rfl) (by rfl)) fd_draw rfl
  obtain ⟨_, _, _, _, _, _, _, _, l_pick⟩ := shR_ok (fnAt cf_ 1 (a := xa_Apick) (v := sv_pick) (by rfl) (by rfl)) fd_pick rfl
  obtain ⟨_, _, _, _, _, _, _, _, l_marks⟩ := shR_ok (fnAt cf_ 2 (a := xa_Amarks) (v := sv_marks) (by rfl) (by rfl)) fd_marks rfl
  obtain ⟨_, _, _, _, _, _, _, _, l_model⟩ := shR_ok (fnAt cf_ 3 (a := xa_Amodel) (v := sv_model) (by rfl) (by rfl)) fd_model rfl
  obtain ⟨_, _, _, _, _, _, _, _, l_drawn⟩ := shR_ok (fnAt cf_ 4 (a := xa_Adrawn) (v := sv_drawn) (by rfl) (by rfl)) fd_drawn rfl
  obtain ⟨_, _, _, _, _, _, _, _, l_is_marks⟩ := shR_ok (fnAt cf_ 5 (a := xa_Ais_marks) (v := sv_is_marks) (by rfl) (by rfl)) fd_is_marks rfl
  obtain ⟨_, _, _, _, _, _, _, _, l_check_part⟩ := shR_ok (fnAt cf_ 6 (a := xa_Acheck_part) (v := sv_check_part) (by rfl) (by rfl)) fd_check_part rfl
  obtain ⟨_, _, _, _, _, _, _, _, l_Word_init⟩ := shR_ok (fnAt cf_ 7 (a := xa_AWord_init) (v := sv_Word_init) (by rfl) (by rfl)) fd_Word_init rfl
  obtain ⟨_, _, _, _, _, _, _, _, l_is_integer⟩ := shR_ok (fnAt cf_ 8 (a := xa_Ais_integer) (v := sv_is_integer) (by rfl) (by rfl)) fd_is_integer rfl
  obtain ⟨_, _, _, t_Rule_init⟩ := tuR_ok ft_Rule_init
  obtain ⟨_, _, _, _, _, _, _, _, l_Rule_init⟩ := shR_ok (fnAt cf_ 9 (a := xa_ARule_init) (v := sv_Rule_init) (by rfl) (by rfl)) fd_Rule_init rfl
  obtain ⟨_, _, _, _, _, _, _, _, l_made⟩ := shR_ok (fnAt cf_ 10 (a := xa_Amade) (v := sv_made) (by rfl) (by rfl)) fd_made rfl
  obtain ⟨_, _, _, _, _, _, _, _, l_fewest⟩ := shR_ok (fnAt cf_ 11 (a := xa_Afewest) (v := sv_fewest) (by rfl) (by rfl)) fd_fewest rfl
  obtain ⟨_, _, _, _, _, _, _, _, l_great⟩ := shR_ok (fnAt cf_ 12 (a := xa_Agreat) (v := sv_great) (by rfl) (by rfl)) fd_great rfl
  obtain ⟨_, _, _, _, _, _, _, _, l_team⟩ := shR_ok (fnAt cf_ 13 (a := xa_Ateam) (v := sv_team) (by rfl) (by rfl)) fd_team rfl
  obtain ⟨_, _, _, _, _, _, _, _, l_edge⟩ := shR_ok (fnAt cf_ 14 (a := xa_Aedge) (v := sv_edge) (by rfl) (by rfl)) fd_edge rfl
  obtain ⟨_, _, _, _, _, _, _, _, l_round⟩ := shR_ok (fnAt cf_ 15 (a := xa_Around) (v := sv_round) (by rfl) (by rfl)) fd_round rfl
  obtain ⟨_, pr_Word_least⟩ := rcB_ok fpr_Word_least
  obtain ⟨_, _, _, _, _, _, _, _, l_Word_least⟩ := shR_ok (fnAt cf_ 16 (a := xa_AWord_least) (v := sv_Word_least) (by rfl) (by rfl)) fd_Word_least rfl
  obtain ⟨_, pr_Rule_least_size⟩ := rcB_ok fpr_Rule_least_size
  obtain ⟨_, _, _, _, _, _, _, _, l_Rule_least_size⟩ := shR_ok (fnAt cf_ 17 (a := xa_ARule_least_size) (v := sv_Rule_least_size) (by rfl) (by rfl)) fd_Rule_least_size rfl
  obtain ⟨_, _, _, _, _, _, _, _, l_is_size⟩ := shR_ok (fnAt cf_ 18 (a := xa_Ais_size) (v := sv_is_size) (by rfl) (by rfl)) fd_is_size rfl
  obtain ⟨_, _, _, _, _, _, _, _, l_check_size⟩ := shR_ok (fnAt cf_ 19 (a := xa_Acheck_size) (v := sv_check_size) (by rfl) (by rfl)) fd_check_size rfl
  obtain ⟨_, _, _, _, _, _, _, _, l_is_count⟩ := shR_ok (fnAt cf_ 20 (a := xa_Ais_count) (v := sv_is_count) (by rfl) (by rfl)) fd_is_count rfl
  obtain ⟨_, _, _, _, _, _, _, _, l_check_team⟩ := shR_ok (fnAt cf_ 21 (a := xa_Acheck_team) (v := sv_check_team) (by rfl) (by rfl)) fd_check_team rfl
  obtain ⟨_, _, _, _, _, _, _, _, l_check_along⟩ := shR_ok (fnAt cf_ 22 (a := xa_Acheck_along) (v := sv_check_along) (by rfl) (by rfl)) fd_check_along rfl
  obtain ⟨_, _, _, _, _, _, _, _, l_check_day⟩ := shR_ok (fnAt cf_ 23 (a := xa_Acheck_day) (v := sv_check_day) (by rfl) (by rfl)) fd_check_day rfl
  obtain ⟨_, pr_Rule_stander⟩ := rcB_ok fpr_Rule_stander
  obtain ⟨_, _, _, _, _, _, _, _, l_Rule_stander⟩ := shR_ok (fnAt cf_ 24 (a := xa_ARule_stander) (v := sv_Rule_stander) (by rfl) (by rfl)) fd_Rule_stander rfl
  obtain ⟨_, pr_Rule_step⟩ := rcB_ok fpr_Rule_step
  obtain ⟨_, _, _, _, _, _, _, _, l_Rule_step⟩ := shR_ok (fnAt cf_ 25 (a := xa_ARule_step) (v := sv_Rule_step) (by rfl) (by rfl)) fd_Rule_step rfl
  obtain ⟨_, pr_Rule_word⟩ := rcB_ok fpr_Rule_word
  obtain ⟨_, _, _, _, _, _, _, _, l_Rule_word⟩ := shR_ok (fnAt cf_ 26 (a := xa_ARule_word) (v := sv_Rule_word) (by rfl) (by rfl)) fd_Rule_word rfl
  obtain ⟨_, pr_Word_head⟩ := rcB_ok fpr_Word_head
  obtain ⟨_, _, _, _, _, _, _, _, l_Word_head⟩ := shR_ok (fnAt cf_ 27 (a := xa_AWord_head) (v := sv_Word_head) (by rfl) (by rfl)) fd_Word_head rfl
  obtain ⟨_, pr_Word_tail⟩ := rcB_ok fpr_Word_tail
  obtain ⟨_, _, _, _, _, _, _, _, l_Word_tail⟩ := shR_ok (fnAt cf_ 28 (a := xa_AWord_tail) (v := sv_Word_tail) (by rfl) (by rfl)) fd_Word_tail rfl
  obtain ⟨_, _, _, _, _, _, _, _, l_stretches⟩ := shR_ok (fnAt cf_ 29 (a := xa_Astretches) (v := sv_stretches) (by rfl) (by rfl)) fd_stretches rfl
  obtain ⟨_, _, _, _, _, _, _, _, l_check_seats⟩ := shR_ok (fnAt cf_ 30 (a := xa_Acheck_seats) (v := sv_check_seats) (by rfl) (by rfl)) fd_check_seats rfl
  obtain ⟨_, _, _, _, _, _, _, _, l_stander_mark⟩ := shR_ok (fnAt cf_ 31 (a := xa_Astander_mark) (v := sv_stander_mark) (by rfl) (by rfl)) fd_stander_mark rfl
  obtain ⟨_, _, _, _, _, _, _, _, l_seat⟩ := shR_ok (fnAt cf_ 32 (a := xa_Aseat) (v := sv_seat) (by rfl) (by rfl)) fd_seat rfl
  obtain ⟨_, _, _, _, _, _, _, _, l_contrary_marks⟩ := shR_ok (fnAt cf_ 33 (a := xa_Acontrary_marks) (v := sv_contrary_marks) (by rfl) (by rfl)) fd_contrary_marks rfl
  obtain ⟨_, _, _, _, _, _, _, _, l_check_places⟩ := shR_ok (fnAt cf_ 34 (a := xa_Acheck_places) (v := sv_check_places) (by rfl) (by rfl)) fd_check_places rfl
  obtain ⟨_, _, _, _, _, _, _, _, l_Word_mark⟩ := shR_ok (fnAt cf_ 35 (a := xa_AWord_mark) (v := sv_Word_mark) (by rfl) (by rfl)) fd_Word_mark rfl
  obtain ⟨_, pr_Rule_turned⟩ := rcB_ok fpr_Rule_turned
  obtain ⟨_, _, _, _, _, _, _, _, l_Rule_turned⟩ := shR_ok (fnAt cf_ 36 (a := xa_ARule_turned) (v := sv_Rule_turned) (by rfl) (by rfl)) fd_Rule_turned rfl
  obtain ⟨_, _, _, _, _, _, _, _, l_turned_if⟩ := shR_ok (fnAt cf_ 37 (a := xa_Aturned_if) (v := sv_turned_if) (by rfl) (by rfl)) fd_turned_if rfl
  obtain ⟨_, _, _, _, _, _, _, _, l_mark_at⟩ := shR_ok (fnAt cf_ 38 (a := xa_Amark_at) (v := sv_mark_at) (by rfl) (by rfl)) fd_mark_at rfl
  obtain ⟨_, _, _, _, _, _, _, _, l_mark_of⟩ := shR_ok (fnAt cf_ 39 (a := xa_Amark_of) (v := sv_mark_of) (by rfl) (by rfl)) fd_mark_of rfl
  obtain ⟨_, _, _, _, _, _, _, _, l_marks_from⟩ := shR_ok (fnAt cf_ 40 (a := xa_Amarks_from) (v := sv_marks_from) (by rfl) (by rfl)) fd_marks_from rfl
  obtain ⟨_, _, _, _, _, _, _, _, l_row⟩ := shR_ok (fnAt cf_ 41 (a := xa_Arow) (v := sv_row) (by rfl) (by rfl)) fd_row rfl
  obtain ⟨_, _, _, _, _, _, _, _, l_compared⟩ := shR_ok (fnAt cf_ 42 (a := xa_Acompared) (v := sv_compared) (by rfl) (by rfl)) fd_compared rfl
  obtain ⟨_, _, _, _, _, _, _, _, l_likeness⟩ := shR_ok (fnAt cf_ 43 (a := xa_Alikeness) (v := sv_likeness) (by rfl) (by rfl)) fd_likeness rfl
  obtain ⟨_, _, _, _, _, _, _, _, l_times_said⟩ := shR_ok (fnAt cf_ 44 (a := xa_Atimes_said) (v := sv_times_said) (by rfl) (by rfl)) fd_times_said rfl
  obtain ⟨_, _, _, _, _, _, _, _, l_times_until⟩ := shR_ok (fnAt cf_ 45 (a := xa_Atimes_until) (v := sv_times_until) (by rfl) (by rfl)) fd_times_until rfl
  obtain ⟨_, _, _, _, _, _, _, _, l_position_said⟩ := shR_ok (fnAt cf_ 46 (a := xa_Aposition_said) (v := sv_position_said) (by rfl) (by rfl)) fd_position_said rfl
  obtain ⟨_, _, _, _, _, _, _, _, l_position_of⟩ := shR_ok (fnAt cf_ 47 (a := xa_Aposition_of) (v := sv_position_of) (by rfl) (by rfl)) fd_position_of rfl
  obtain ⟨_, _, _, _, _, _, _, _, l_stay_at⟩ := shR_ok (fnAt cf_ 48 (a := xa_Astay_at) (v := sv_stay_at) (by rfl) (by rfl)) fd_stay_at rfl
  obtain ⟨_, _, _, _, _, _, _, _, l_stander⟩ := shR_ok (fnAt cf_ 49 (a := xa_Astander) (v := sv_stander) (by rfl) (by rfl)) fd_stander rfl
  obtain ⟨_, _, _, _, _, _, _, _, l_contrary⟩ := shR_ok (fnAt cf_ 50 (a := xa_Acontrary) (v := sv_contrary) (by rfl) (by rfl)) fd_contrary rfl
  obtain ⟨_, _, _, _, _, _, _, _, l_at⟩ := shR_ok (fnAt cf_ 51 (a := xa_Aat) (v := sv_at) (by rfl) (by rfl)) fd_at rfl
  obtain ⟨_, _, _, _, _, _, _, _, l_sign⟩ := shR_ok (fnAt cf_ 52 (a := xa_Asign) (v := sv_sign) (by rfl) (by rfl)) fd_sign rfl
  obtain ⟨_, _, _, _, _, _, _, _, l_ends_right⟩ := shR_ok (fnAt cf_ 53 (a := xa_Aends_right) (v := sv_ends_right) (by rfl) (by rfl)) fd_ends_right rfl
  obtain ⟨_, _, _, _, _, _, _, _, l_check_rounds⟩ := shR_ok (fnAt cf_ 54 (a := xa_Acheck_rounds) (v := sv_check_rounds) (by rfl) (by rfl)) fd_check_rounds rfl
  obtain ⟨_, _, _, _, _, _, _, _, l_breaks_until⟩ := shR_ok (fnAt cf_ 55 (a := xa_Abreaks_until) (v := sv_breaks_until) (by rfl) (by rfl)) fd_breaks_until rfl
  obtain ⟨_, _, _, _, _, _, _, _, l_homes_until⟩ := shR_ok (fnAt cf_ 56 (a := xa_Ahomes_until) (v := sv_homes_until) (by rfl) (by rfl)) fd_homes_until rfl
  obtain ⟨_, _, _, _, _, _, _, _, l_stay_right⟩ := shR_ok (fnAt cf_ 57 (a := xa_Astay_right) (v := sv_stay_right) (by rfl) (by rfl)) fd_stay_right rfl
  obtain ⟨_, _, _, _, _, _, _, _, l_right⟩ := shR_ok (fnAt cf_ 58 (a := xa_Aright) (v := sv_right) (by rfl) (by rfl)) fd_right rfl
  obtain ⟨_, _, _, _, _, _, _, _, l_pot⟩ := shR_ok (fnAt cf_ 59 (a := xa_Apot) (v := sv_pot) (by rfl) (by rfl)) fd_pot rfl
  obtain ⟨_, _, _, _, _, _, _, _, l_law⟩ := shR_ok (fnAt cf_ 60 (a := xa_Alaw) (v := sv_law) (by rfl) (by rfl)) fd_law rfl
  obtain ⟨_, _, ⟨ld_CONTRARIES, lk_CONTRARIES, lo_CONTRARIES⟩⟩ := tsAt ct_ 0 (t := ts_CONTRARIES) (by rfl)
  obtain ⟨_, _, ⟨ld_CONTRARY_STANDERS, lk_CONTRARY_STANDERS, lo_CONTRARY_STANDERS⟩⟩ := tsAt ct_ 1 (t := ts_CONTRARY_STANDERS) (by rfl)
  obtain ⟨_, _, ⟨ld_STANDER_MARKS, lk_STANDER_MARKS, lo_STANDER_MARKS⟩⟩ := tsAt ct_ 2 (t := ts_STANDER_MARKS) (by rfl)
  obtain ⟨fd_, b_, F_⟩ := all_mk (l := l) KX G hfa a_draw l_draw o_draw k_draw a_pick l_pick o_pick k_pick a_marks l_marks o_marks k_marks a_model l_model o_model k_model a_drawn l_drawn o_drawn k_drawn a_is_marks l_is_marks o_is_marks k_is_marks a_check_part l_check_part o_check_part k_check_part a_Word_init i_Word_init l_Word_init o_Word_init k_Word_init a_is_integer l_is_integer o_is_integer k_is_integer a_Rule_init i_Rule_init t_Rule_init l_Rule_init o_Rule_init k_Rule_init a_made l_made o_made k_made a_fewest l_fewest o_fewest k_fewest a_great l_great o_great k_great a_team l_team o_team k_team a_edge l_edge o_edge k_edge a_round l_round o_round k_round pa_Word_least pg_Word_least pt_Word_least pr_Word_least l_Word_least o_Word_least k_Word_least pa_Rule_least_size pg_Rule_least_size pt_Rule_least_size pr_Rule_least_size l_Rule_least_size o_Rule_least_size k_Rule_least_size a_is_size l_is_size o_is_size k_is_size a_check_size l_check_size o_check_size k_check_size a_is_count l_is_count o_is_count k_is_count a_check_team l_check_team o_check_team k_check_team a_check_along l_check_along o_check_along k_check_along a_check_day l_check_day o_check_day k_check_day pa_Rule_stander pg_Rule_stander pt_Rule_stander pr_Rule_stander l_Rule_stander o_Rule_stander k_Rule_stander pa_Rule_step pg_Rule_step pt_Rule_step pr_Rule_step l_Rule_step o_Rule_step k_Rule_step pa_Rule_word pg_Rule_word pt_Rule_word pr_Rule_word l_Rule_word o_Rule_word k_Rule_word pa_Word_head pg_Word_head pt_Word_head pr_Word_head l_Word_head o_Word_head k_Word_head pa_Word_tail pg_Word_tail pt_Word_tail pr_Word_tail l_Word_tail o_Word_tail k_Word_tail a_stretches l_stretches o_stretches k_stretches a_check_seats l_check_seats o_check_seats k_check_seats a_stander_mark l_stander_mark o_stander_mark k_stander_mark a_seat l_seat o_seat k_seat a_contrary_marks l_contrary_marks o_contrary_marks k_contrary_marks a_check_places l_check_places o_check_places k_check_places a_Word_mark i_Word_mark l_Word_mark o_Word_mark k_Word_mark pa_Rule_turned pg_Rule_turned pt_Rule_turned pr_Rule_turned l_Rule_turned o_Rule_turned k_Rule_turned a_turned_if l_turned_if o_turned_if k_turned_if a_mark_at l_mark_at o_mark_at k_mark_at a_mark_of l_mark_of o_mark_of k_mark_of a_marks_from l_marks_from o_marks_from k_marks_from a_row l_row o_row k_row a_compared l_compared o_compared k_compared a_likeness l_likeness o_likeness k_likeness a_times_said l_times_said o_times_said k_times_said a_times_until l_times_until o_times_until k_times_until a_position_said l_position_said o_position_said k_position_said a_position_of l_position_of o_position_of k_position_of a_stay_at l_stay_at o_stay_at k_stay_at a_stander l_stander o_stander k_stander a_contrary l_contrary o_contrary k_contrary a_at l_at o_at k_at a_sign l_sign o_sign k_sign a_ends_right l_ends_right o_ends_right k_ends_right a_check_rounds l_check_rounds o_check_rounds k_check_rounds a_breaks_until l_breaks_until o_breaks_until k_breaks_until a_homes_until l_homes_until o_homes_until k_homes_until a_stay_right l_stay_right o_stay_right k_stay_right a_right l_right o_right k_right a_pot l_pot o_pot k_pot a_law l_law o_law k_law lo_tb aC_Word pg_Word hd_Word po_Word sa_Word mk_Word kc_Word na_Word__head na_Word__middle na_Word__tail aC_Rule pg_Rule hd_Rule po_Rule sa_Rule mk_Rule kc_Rule na_Rule__step na_Rule__word na_Rule__stander na_Rule__turned gd_CONTRARIES ld_CONTRARIES lk_CONTRARIES lv_CONTRARIES_1 lv_CONTRARIES_0 gd_CONTRARY_STANDERS ld_CONTRARY_STANDERS lk_CONTRARY_STANDERS lv_CONTRARY_STANDERS_3 lv_CONTRARY_STANDERS_2 lv_CONTRARY_STANDERS_1 lv_CONTRARY_STANDERS_0 gd_STANDER_MARKS ld_STANDER_MARKS lk_STANDER_MARKS lv_STANDER_MARKS_3 lv_STANDER_MARKS_2 lv_STANDER_MARKS_1 lv_STANDER_MARKS_0 lo_CONTRARY_STANDERS z_abs z_all z_any z_bool z_dict z_divmod z_enumerate z_int z_isinstance z_len z_list z_max z_min z_range z_repr z_set z_sorted z_str z_sum z_tuple z_zip c_MARKS_TOLD c_MOST_MARKS c_MOST_STEP c_OTHER c_SAME
  exact ⟨K, KX, fd_, _, b_, fun H a ns hl hO hS => law_enter hl hO hS, F_⟩
end Lw
open PySem PySem.W PyProof.Rows in
set_option maxRecDepth 100000 in
set_option maxHeartbeats 0 in
theorem PySem.Challenge.cw_ringrows_k77_whole_long_stays_holds : PySem.Challenge.rw_ringrows_k77_whole_long_stays.Holds := by
  w_on; o_law
  refine HandSHeadRun.head_any (r := OpenLaw.row PySem.Challenge.rw_ringrows_k77_whole_long_stays) (q := Lw.qV) (H := Lw.hk) (ob := Lw.ob) (M := 60000) (loose := Lw.looseL) (d := HandSHeadRun.topDef (OpenLaw.row PySem.Challenge.rw_ringrows_k77_whole_long_stays).prog 84) (kwd := []) Lw.ob_eq (by kernel_rfl) (fun s => by kernel_rfl) Lw.run (by kernel_rfl) (by kernel_rfl) (by kernel_rfl) (by rfl) (by first | assumption | decide +kernel) (by decide +kernel) ⟨rfl, rfl, rfl, rfl, rfl, by decide +kernel⟩ ?hw ?hc
  case hw => w_witness2
  case hc =>
    refine Rx.walk_ofGE (l := PySem.Challenge.rw_ringrows_k77_whole_long_stays) (n := 63) (k := 14) (x := "_law_script") rfl (by decide) (by kernel_rfl) ⟨rfl, by decide, by decide⟩ ?F
    intro w mg fa h Y G hmg0
    have hmg : mg ("law" : PySem.Str) = some (.ref fa) := by
      have e : (HandSHeadRun.topDef (OpenLaw.row PySem.Challenge.rw_ringrows_k77_whole_long_stays).prog 84).name = ("law" : PySem.Str) := by kernel_rfl
      rw [← e]
      exact hmg0
    exact Lw.facts Y G hmg
