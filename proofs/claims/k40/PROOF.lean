import PyProof.Rows.All
import Wide.All
import OpenK.AllK
import Wide.FinOn
import HandS.DictComp
import HandS.TupSets
import HandS.Head0
import HandS.Head1
import HandS.Head2
import HandS.Head3
import HandS.HeadHook4
import HandS.HeadNt
import KE.GoesEnum
import KE.KExcInit
import PyProof.ExcBaseAll.RuntimeError
import PyProof.ExcBaseAll.ArithmeticError
import HandS.DictEq
import PyProof.ListStr
import KE.GoesMore
import KE.GoesZip
import HandS.ForMost
import HandS.Property
import HandS.IsInst
import HandS.Wide
import HandS.WideBits
import HandS.Defaults
import HandS.StrMore
import HandS.Style
import HandS.Codes
import HandS.OwnEq
import HandS.Conv
import HandS.SetFor
import HandS.WrittenGet
import PyProof.StrBlock2
import PyProof.LongRange
import PyProof.ReprRoads
import HandS.FStr
import HandS.MakeKwOnly
import HandS.ListItems
import HandS.Gcd
import HandS.Small
import HandS.NoneIn
import HandS.Walk
import HandS.Deep
import HandS.SortRule
import HandS.SortInts
import HandS.Star
import KE.KOpsOwn
import KE.KMathGC
import HandS.Flt
import KE.KMathG
import KE.DataMinMax
import HandS.SortKw
import HandS.Zip
import Flt.RightSqrt
import PyProof.ReprNest
import HandS.ClsMeth
import HandS.TupLe
import HandS.Lambda
import HandS.ExcInit
import HandS.ExcIs
import HandS.ExcField
import HandS.ExcOwn
import HandS.TryMany
import HandS.WordsExc
import KE.KExcIs
import HandS.EndTab
import KE.KDictZip
import PyProof.ListNew
import HandS.TupAny
import PySem.Challenge.RW_ringrows_k40_tables_told
set_option Elab.async false
set_option linter.all false
set_option maxRecDepth 100000
set_option maxHeartbeats 4000000
namespace Rx
open PySem PySem.Spec PyProof.Rows L2
def fdR (K : PySem.W.Frag) (a : Addr) : Option FuncData := match K.lookup a with
  | some ⟨_, _, .func fd, _⟩ => some fd
  | _ => none
def shR (K : PySem.W.Frag) (a : Addr) : He.FnW := (fdR K a).map fun fd => (fd.name, fd.qualname, fd.params, fd.body, fd.scope, fd.globals, fd.closure, fd.builtins)
def dfR (K : PySem.W.Frag) (a : Addr) : Option Value := (fdR K a).map fun fd => fd.defaults
def cdR (K : PySem.W.Frag) (a : Addr) : Value := match fdR K a with
  | some fd => fd.code
  | none => .none
def adV : Value → Addr
  | .ref a => a
  | _ => 0
def rcA (K : PySem.W.Frag) (p : Addr) (T : String) : Addr := match PySem.W.recIn K p T with
  | some (v :: _) => adV v
  | _ => 0
def rcB (K : PySem.W.Frag) (p : Addr) (T : String) : Bool := match PySem.W.recIn K p T with
  | some (.ref _ :: _) => true
  | _ => false
def tkI : Option (Option Value) → Tok
  | some (some (.int _ t)) => t
  | some (some (.str _ t)) => t
  | _ => 0
abbrev AlR : Type := Bool × List He.FnW × List (Option (List (Option (Str × Int))))
def obK (ex : PySem.W.Frag → Bool) (fn : List (PySem.W.Frag → Addr)) (ts : List He.Tab) (K : PySem.W.Frag) : AlR := (ex K, fn.map fun a => shR K (a K), ts.map fun t => He.dicW K (t.1 K))
def vaR (vs : List He.FnW) (ts : List He.Tab) (w : World) : AlR := (true, vs, ts.map fun t => some (He.keysIn w.params t.2))
def obR (n : Nat) (ex : PySem.W.Frag → Bool) (fn : List (PySem.W.Frag → Addr)) (ts : List He.Tab) (g : Addr → Option Obj) : AlR := obK ex fn ts (He.frT g (List.range n))
def hkR (n : Nat) (ex : PySem.W.Frag → Bool) (fn : List (PySem.W.Frag → Addr)) (vs : List He.FnW) (ts : List He.Tab) : PySem.W.Hook where
  α := AlR
  obs := fun s => obR n ex fn ts s.heap.get?
  val := fun w => vaR vs ts w
  says := fun w h => ∃ K : PySem.W.Frag, K.In h ∧ obK ex fn ts K = vaR vs ts w
  of := fun _ _ e => ⟨_, He.frT_in, e⟩
  keeps := fun _ _ _ ⟨K, hK, c⟩ k => ⟨K, PySem.W.Frag.In.keeps hK k, c⟩
def frcO {α : Type} (o : Obj) (k : Obj → α) : α := match o with
  | ⟨c, d, dt, sl⟩ => k ⟨c, d, dt, sl⟩
def frcK {α : Type} : PySem.W.Frag → (PySem.W.Frag → α) → α
  | [], k => k []
  | (a, o) :: r, k => frcO o fun o => frcK r fun r => k ((a, o) :: r)
def obA (n : Nat) (ex : PySem.W.Frag → Bool) (s : PySem.W.SharedT) : Bool := frcK (He.frT (HandSHeadRun.getT s) (List.range n)) ex
def obB (n : Nat) (fn : List (PySem.W.Frag → Addr)) (ts : List He.Tab) (s : PySem.W.SharedT) : List He.FnW × List (Option (List (Option (Str × Int)))) :=
  frcK (He.frT (HandSHeadRun.getT s) (List.range n)) fun K => (fn.map fun a => shR K (a K), ts.map fun t => He.dicW K (t.1 K))
def obF (n : Nat) (ea eb : PySem.W.Frag → Bool) (fn : List (PySem.W.Frag → Addr)) (ts : List He.Tab) (s : PySem.W.SharedT) : AlR := (obA n ea s && obA n eb s, obB n fn ts s)
theorem map_four {σ α β δ : Type} {o : Option σ} {f : σ → α} {g : σ → β} {h h2 : σ → Bool} {k : σ → δ} {a : α} {b : β} {d : δ} (x : o.map (fun s => (f s, g s)) = some (a, b)) (y : o.map h = some true) (y2 : o.map h2 = some true) (z : o.map k = some d) :
    o.map (fun s => (f s, g s, (h s && h2 s), k s)) = some (a, b, true, d) := by
  cases o with
  | none => cases x
  | some s =>
    have x1 := Option.some.inj x
    have y1 : h s = true := Option.some.inj y
    have y3 : h2 s = true := Option.some.inj y2
    have z1 : k s = d := Option.some.inj z
    obtain ⟨x2, x3⟩ := Prod.mk.inj x1
    show some (f s, g s, (h s && h2 s), k s) = _
    rw [x2, x3, y1, y3, z1]
    rfl
noncomputable abbrev endW (p : Program) (w : World) (os : OsState) : Option PySem.W.SharedT := HandSHeadRun.endF (HandSHeadRun.stepQ (HandSHeadRun.denQ HandSHeadRun.tabQ) p w) 60000 p w os
theorem runEq_of {R : PySem.W.OpenRow} {q : Program} {ea eb : PySem.W.Frag → Bool} {fn : List (PySem.W.Frag → Addr)} {vs : List He.FnW} {ts : List He.Tab} {loose : List Str} {w : World} {n : Nat}
    (x : ∀ os, (endW R.prog w os).map (fun x => (HandSHeadRun.looksF R.prog (PySem.W.boot_heap w.params) x.abs, HandSHeadRun.seenQ q loose (importedModules R.prog.main.body) (fun s => PySem.W.xlAt q [] s && PySem.W.recOk R.toRowW.records s) x.abs)) = some (true, PySem.W.openGood q loose))
    (y : ∀ os, (endW R.prog w os).map (fun x => obA n ea x) = some true) (y2 : ∀ os, (endW R.prog w os).map (fun x => obA n eb x) = some true)
    (z : ∀ os, (endW R.prog w os).map (fun x => obB n fn ts x) = some (vs, ts.map fun t => some (He.keysIn w.params t.2))) :
    HandSHeadRun.RunEq R q (hkR n (fun K => ea K && eb K) fn vs ts) (obF n ea eb fn ts) 60000 loose w := fun os => map_four (x os) (y os) (y2 os) (z os)
end Rx
namespace Lw
open PySem PySem.Spec PyProof.Rows L2 Rx
def topS (i : Nat) : Stmt := PySem.Challenge.pw_ringrows_k40_tables_told.main.body.getD i (.Pass ⟨0, 0, 0, 0⟩)
abbrev s_draw : Stmt := (topS 26)
abbrev s_pick : Stmt := (topS 27)
abbrev s_many : Stmt := (topS 29)
abbrev s_mixed : Stmt := (topS 28)
abbrev s_day : Stmt := (topS 30)
abbrev s_days : Stmt := (topS 31)
abbrev s_passed : Stmt := (topS 33)
abbrev s_is_list : Stmt := (topS 11)
abbrev s_is_integer : Stmt := (topS 9)
abbrev s_is_meeting : Stmt := (topS 22)
abbrev s_is_round : Stmt := (topS 21)
abbrev s_check_rounds : Stmt := (topS 20)
abbrev s_Table_init : Stmt := (inClass (topS 19) 0)
abbrev s_empty : Stmt := (topS 40)
abbrev s_Table_size : Stmt := (inClass (topS 19) 1)
abbrev s_Table_len : Stmt := (inClass (topS 19) 8)
abbrev s_Table_rounds : Stmt := (inClass (topS 19) 3)
abbrev s_is_count : Stmt := (topS 10)
abbrev s_check_day : Stmt := (topS 14)
abbrev s_Table_meetings : Stmt := (inClass (topS 19) 4)
abbrev s_sorted : Stmt := (topS 32)
abbrev s_Table_repr : Stmt := (inClass (topS 19) 10)
abbrev s_check_team : Stmt := (topS 12)
abbrev s_mark_in : Stmt := (topS 23)
abbrev s_Table_row_of : Stmt := (inClass (topS 19) 5)
abbrev s_row : Stmt := (topS 34)
abbrev s_is : Stmt := (topS 36)
abbrev s_check_pair : Stmt := (topS 13)
abbrev s_Table_met_in : Stmt := (inClass (topS 19) 6)
abbrev s_met : Stmt := (topS 35)
abbrev s_are_met : Stmt := (topS 38)
abbrev s_Table_eq : Stmt := (inClass (topS 19) 9)
abbrev s_turned : Stmt := (topS 37)
abbrev s_near_days : Stmt := (topS 39)
abbrev s_named_right : Stmt := (topS 41)
abbrev s_right : Stmt := (topS 42)
abbrev s_pot : Stmt := (topS 25)
abbrev s_law : Stmt := (topS 43)
def xa_CTable (K : PySem.W.Frag) : Addr := He.ga K "Table"
def xa_Adraw (K : PySem.W.Frag) : Addr := He.ga K "_law_draw"
def xa_Apick (K : PySem.W.Frag) : Addr := He.ga K "_law_pick"
def xa_Amany (K : PySem.W.Frag) : Addr := He.ga K "_law_many"
def xa_Amixed (K : PySem.W.Frag) : Addr := He.ga K "_law_mixed"
def xa_Aday (K : PySem.W.Frag) : Addr := He.ga K "_law_day"
def xa_Adays (K : PySem.W.Frag) : Addr := He.ga K "_law_days"
def xa_Apassed (K : PySem.W.Frag) : Addr := He.ga K "_law_passed"
def xa_Ais_list (K : PySem.W.Frag) : Addr := He.ga K "is_list"
def xa_Ais_integer (K : PySem.W.Frag) : Addr := He.ga K "is_integer"
def xa_Ais_meeting (K : PySem.W.Frag) : Addr := He.ga K "_is_meeting"
def xa_Ais_round (K : PySem.W.Frag) : Addr := He.ga K "is_round"
def xa_Acheck_rounds (K : PySem.W.Frag) : Addr := He.ga K "_check_rounds"
def xa_ATable_init (K : PySem.W.Frag) : Addr := He.ma K (xa_CTable K) "__init__"
def xa_Aempty (K : PySem.W.Frag) : Addr := He.ga K "_law_empty"
def xa_PTable_size (K : PySem.W.Frag) : Addr := He.ma K (xa_CTable K) "size"
def xa_ATable_size (K : PySem.W.Frag) : Addr := rcA K (xa_PTable_size K) "property"
def xa_ATable_len (K : PySem.W.Frag) : Addr := He.ma K (xa_CTable K) "__len__"
def xa_ATable_rounds (K : PySem.W.Frag) : Addr := He.ma K (xa_CTable K) "rounds"
def xa_Ais_count (K : PySem.W.Frag) : Addr := He.ga K "is_count"
def xa_Acheck_day (K : PySem.W.Frag) : Addr := He.ga K "check_day"
def xa_ATable_meetings (K : PySem.W.Frag) : Addr := He.ma K (xa_CTable K) "meetings"
def xa_Asorted (K : PySem.W.Frag) : Addr := He.ga K "_law_sorted"
def xa_ATable_repr (K : PySem.W.Frag) : Addr := He.ma K (xa_CTable K) "__repr__"
def xa_Acheck_team (K : PySem.W.Frag) : Addr := He.ga K "check_team"
def xa_Amark_in (K : PySem.W.Frag) : Addr := He.ga K "_mark_in"
def xa_ATable_row_of (K : PySem.W.Frag) : Addr := He.ma K (xa_CTable K) "row_of"
def xa_Arow (K : PySem.W.Frag) : Addr := He.ga K "_law_row"
def xa_Ais (K : PySem.W.Frag) : Addr := He.ga K "_law_is"
def xa_Acheck_pair (K : PySem.W.Frag) : Addr := He.ga K "check_pair"
def xa_ATable_met_in (K : PySem.W.Frag) : Addr := He.ma K (xa_CTable K) "met_in"
def xa_Amet (K : PySem.W.Frag) : Addr := He.ga K "_law_met"
def xa_Aare_met (K : PySem.W.Frag) : Addr := He.ga K "_law_are_met"
def xa_ATable_eq (K : PySem.W.Frag) : Addr := He.ma K (xa_CTable K) "__eq__"
def xa_Aturned (K : PySem.W.Frag) : Addr := He.ga K "_law_turned"
def xa_Anear_days (K : PySem.W.Frag) : Addr := He.ga K "_law_near_days"
def xa_Anamed_right (K : PySem.W.Frag) : Addr := He.ga K "_law_named_right"
def xa_Aright (K : PySem.W.Frag) : Addr := He.ga K "_law_right"
def xa_Apot (K : PySem.W.Frag) : Addr := He.ga K "_law_pot"
def xa_Alaw (K : PySem.W.Frag) : Addr := He.ga K "law"
def sv_draw : He.FnW := some ("_law_draw", "_law_draw", defArgs s_draw, .stmts (defBody s_draw), defScope s_draw, mainGlobals, [], builtinsNs)
def sv_pick : He.FnW := some ("_law_pick", "_law_pick", defArgs s_pick, .stmts (defBody s_pick), defScope s_pick, mainGlobals, [], builtinsNs)
def sv_many : He.FnW := some ("_law_many", "_law_many", defArgs s_many, .stmts (defBody s_many), defScope s_many, mainGlobals, [], builtinsNs)
def sv_mixed : He.FnW := some ("_law_mixed", "_law_mixed", defArgs s_mixed, .stmts (defBody s_mixed), defScope s_mixed, mainGlobals, [], builtinsNs)
def sv_day : He.FnW := some ("_law_day", "_law_day", defArgs s_day, .stmts (defBody s_day), defScope s_day, mainGlobals, [], builtinsNs)
def sv_days : He.FnW := some ("_law_days", "_law_days", defArgs s_days, .stmts (defBody s_days), defScope s_days, mainGlobals, [], builtinsNs)
def sv_passed : He.FnW := some ("_law_passed", "_law_passed", defArgs s_passed, .stmts (defBody s_passed), defScope s_passed, mainGlobals, [], builtinsNs)
def sv_is_list : He.FnW := some ("is_list", "is_list", defArgs s_is_list, .stmts (defBody s_is_list), defScope s_is_list, mainGlobals, [], builtinsNs)
def sv_is_integer : He.FnW := some ("is_integer", "is_integer", defArgs s_is_integer, .stmts (defBody s_is_integer), defScope s_is_integer, mainGlobals, [], builtinsNs)
def sv_is_meeting : He.FnW := some ("_is_meeting", "_is_meeting", defArgs s_is_meeting, .stmts (defBody s_is_meeting), defScope s_is_meeting, mainGlobals, [], builtinsNs)
def sv_is_round : He.FnW := some ("is_round", "is_round", defArgs s_is_round, .stmts (defBody s_is_round), defScope s_is_round, mainGlobals, [], builtinsNs)
def sv_check_rounds : He.FnW := some ("_check_rounds", "_check_rounds", defArgs s_check_rounds, .stmts (defBody s_check_rounds), defScope s_check_rounds, mainGlobals, [], builtinsNs)
def sv_Table_init : He.FnW := some ("__init__", "Table.__init__", defArgs s_Table_init, .stmts (defBody s_Table_init), defScope s_Table_init, mainGlobals, [], builtinsNs)
def sv_empty : He.FnW := some ("_law_empty", "_law_empty", defArgs s_empty, .stmts (defBody s_empty), defScope s_empty, mainGlobals, [], builtinsNs)
def sv_Table_size : He.FnW := some ("size", "Table.size", defArgs s_Table_size, .stmts (defBody s_Table_size), defScope s_Table_size, mainGlobals, [], builtinsNs)
def sv_Table_len : He.FnW := some ("__len__", "Table.__len__", defArgs s_Table_len, .stmts (defBody s_Table_len), defScope s_Table_len, mainGlobals, [], builtinsNs)
def sv_Table_rounds : He.FnW := some ("rounds", "Table.rounds", defArgs s_Table_rounds, .stmts (defBody s_Table_rounds), defScope s_Table_rounds, mainGlobals, [], builtinsNs)
def sv_is_count : He.FnW := some ("is_count", "is_count", defArgs s_is_count, .stmts (defBody s_is_count), defScope s_is_count, mainGlobals, [], builtinsNs)
def sv_check_day : He.FnW := some ("check_day", "check_day", defArgs s_check_day, .stmts (defBody s_check_day), defScope s_check_day, mainGlobals, [], builtinsNs)
def sv_Table_meetings : He.FnW := some ("meetings", "Table.meetings", defArgs s_Table_meetings, .stmts (defBody s_Table_meetings), defScope s_Table_meetings, mainGlobals, [], builtinsNs)
def sv_sorted : He.FnW := some ("_law_sorted", "_law_sorted", defArgs s_sorted, .stmts (defBody s_sorted), defScope s_sorted, mainGlobals, [], builtinsNs)
def sv_Table_repr : He.FnW := some ("__repr__", "Table.__repr__", defArgs s_Table_repr, .stmts (defBody s_Table_repr), defScope s_Table_repr, mainGlobals, [], builtinsNs)
def sv_check_team : He.FnW := some ("check_team", "check_team", defArgs s_check_team, .stmts (defBody s_check_team), defScope s_check_team, mainGlobals, [], builtinsNs)
def sv_mark_in : He.FnW := some ("_mark_in", "_mark_in", defArgs s_mark_in, .stmts (defBody s_mark_in), defScope s_mark_in, mainGlobals, [], builtinsNs)
def sv_Table_row_of : He.FnW := some ("row_of", "Table.row_of", defArgs s_Table_row_of, .stmts (defBody s_Table_row_of), defScope s_Table_row_of, mainGlobals, [], builtinsNs)
def sv_row : He.FnW := some ("_law_row", "_law_row", defArgs s_row, .stmts (defBody s_row), defScope s_row, mainGlobals, [], builtinsNs)
def sv_is : He.FnW := some ("_law_is", "_law_is", defArgs s_is, .stmts (defBody s_is), defScope s_is, mainGlobals, [], builtinsNs)
def sv_check_pair : He.FnW := some ("check_pair", "check_pair", defArgs s_check_pair, .stmts (defBody s_check_pair), defScope s_check_pair, mainGlobals, [], builtinsNs)
def sv_Table_met_in : He.FnW := some ("met_in", "Table.met_in", defArgs s_Table_met_in, .stmts (defBody s_Table_met_in), defScope s_Table_met_in, mainGlobals, [], builtinsNs)
def sv_met : He.FnW := some ("_law_met", "_law_met", defArgs s_met, .stmts (defBody s_met), defScope s_met, mainGlobals, [], builtinsNs)
def sv_are_met : He.FnW := some ("_law_are_met", "_law_are_met", defArgs s_are_met, .stmts (defBody s_are_met), defScope s_are_met, mainGlobals, [], builtinsNs)
def sv_Table_eq : He.FnW := some ("__eq__", "Table.__eq__", defArgs s_Table_eq, .stmts (defBody s_Table_eq), defScope s_Table_eq, mainGlobals, [], builtinsNs)
def sv_turned : He.FnW := some ("_law_turned", "_law_turned", defArgs s_turned, .stmts (defBody s_turned), defScope s_turned, mainGlobals, [], builtinsNs)
def sv_near_days : He.FnW := some ("_law_near_days", "_law_near_days", defArgs s_near_days, .stmts (defBody s_near_days), defScope s_near_days, mainGlobals, [], builtinsNs)
def sv_named_right : He.FnW := some ("_law_named_right", "_law_named_right", defArgs s_named_right, .stmts (defBody s_named_right), defScope s_named_right, mainGlobals, [], builtinsNs)
def sv_right : He.FnW := some ("_law_right", "_law_right", defArgs s_right, .stmts (defBody s_right), defScope s_right, mainGlobals, [], builtinsNs)
def sv_pot : He.FnW := some ("_law_pot", "_law_pot", defArgs s_pot, .stmts (defBody s_pot), defScope s_pot, mainGlobals, [], builtinsNs)
def sv_law : He.FnW := some ("law", "law", defArgs s_law, .stmts (defBody s_law), defScope s_law, mainGlobals, [], builtinsNs)
def gx0 (K : PySem.W.Frag) : Bool := decide ((PySem.W.nsIn K mainGlobals "_law_draw" = some (some (.ref (xa_Adraw K)))) ∧ (dfR K (xa_Adraw K) = some .none) ∧ (PySem.W.codeIn K (cdR K (xa_Adraw K)) "_law_draw" = true) ∧ (PySem.W.keepIn K (.ref (xa_Adraw K)) = true) ∧ (PySem.W.nsIn K mainGlobals "_law_pick" = some (some (.ref (xa_Apick K)))) ∧ (dfR K (xa_Apick K) = some .none) ∧ (PySem.W.codeIn K (cdR K (xa_Apick K)) "_law_pick" = true) ∧ (PySem.W.keepIn K (.ref (xa_Apick K)) = true) ∧ (PySem.W.nsIn K mainGlobals "_law_many" = some (some (.ref (xa_Amany K)))) ∧ (dfR K (xa_Amany K) = some .none))
def gx1 (K : PySem.W.Frag) : Bool := decide ((PySem.W.codeIn K (cdR K (xa_Amany K)) "_law_many" = true) ∧ (PySem.W.keepIn K (.ref (xa_Amany K)) = true) ∧ (PySem.W.nsIn K mainGlobals "_law_mixed" = some (some (.ref (xa_Amixed K)))) ∧ (dfR K (xa_Amixed K) = some .none) ∧ (PySem.W.codeIn K (cdR K (xa_Amixed K)) "_law_mixed" = true) ∧ (PySem.W.keepIn K (.ref (xa_Amixed K)) = true) ∧ (PySem.W.nsIn K mainGlobals "_law_day" = some (some (.ref (xa_Aday K)))) ∧ (dfR K (xa_Aday K) = some .none) ∧ (PySem.W.codeIn K (cdR K (xa_Aday K)) "_law_day" = true) ∧ (PySem.W.keepIn K (.ref (xa_Aday K)) = true))
def gx2 (K : PySem.W.Frag) : Bool := decide ((PySem.W.nsIn K mainGlobals "_law_days" = some (some (.ref (xa_Adays K)))) ∧ (dfR K (xa_Adays K) = some .none) ∧ (PySem.W.codeIn K (cdR K (xa_Adays K)) "_law_days" = true) ∧ (PySem.W.keepIn K (.ref (xa_Adays K)) = true) ∧ (PySem.W.nsIn K mainGlobals "_law_passed" = some (some (.ref (xa_Apassed K)))) ∧ (dfR K (xa_Apassed K) = some .none) ∧ (PySem.W.codeIn K (cdR K (xa_Apassed K)) "_law_passed" = true) ∧ (PySem.W.keepIn K (.ref (xa_Apassed K)) = true) ∧ (PySem.W.nsIn K mainGlobals "is_list" = some (some (.ref (xa_Ais_list K)))) ∧ (dfR K (xa_Ais_list K) = some .none))
def gx3 (K : PySem.W.Frag) : Bool := decide ((PySem.W.codeIn K (cdR K (xa_Ais_list K)) "is_list" = true) ∧ (PySem.W.keepIn K (.ref (xa_Ais_list K)) = true) ∧ (PySem.W.nsIn K mainGlobals "is_integer" = some (some (.ref (xa_Ais_integer K)))) ∧ (dfR K (xa_Ais_integer K) = some .none) ∧ (PySem.W.codeIn K (cdR K (xa_Ais_integer K)) "is_integer" = true) ∧ (PySem.W.keepIn K (.ref (xa_Ais_integer K)) = true) ∧ (PySem.W.nsIn K mainGlobals "_is_meeting" = some (some (.ref (xa_Ais_meeting K)))) ∧ (dfR K (xa_Ais_meeting K) = some .none) ∧ (PySem.W.codeIn K (cdR K (xa_Ais_meeting K)) "_is_meeting" = true) ∧ (PySem.W.keepIn K (.ref (xa_Ais_meeting K)) = true))
def gx4 (K : PySem.W.Frag) : Bool := decide ((PySem.W.nsIn K mainGlobals "is_round" = some (some (.ref (xa_Ais_round K)))) ∧ (dfR K (xa_Ais_round K) = some .none) ∧ (PySem.W.codeIn K (cdR K (xa_Ais_round K)) "is_round" = true) ∧ (PySem.W.keepIn K (.ref (xa_Ais_round K)) = true) ∧ (PySem.W.nsIn K mainGlobals "_check_rounds" = some (some (.ref (xa_Acheck_rounds K)))) ∧ (dfR K (xa_Acheck_rounds K) = some .none) ∧ (PySem.W.codeIn K (cdR K (xa_Acheck_rounds K)) "_check_rounds" = true) ∧ (PySem.W.keepIn K (.ref (xa_Acheck_rounds K)) = true) ∧ (PySem.W.findIn K (.ref (xa_CTable K)) "__init__" = some (some (.ref (xa_ATable_init K)))) ∧ (PySem.W.isFn K (.ref (xa_ATable_init K)) = true))
def gx5 (K : PySem.W.Frag) : Bool := decide ((dfR K (xa_ATable_init K) = some .none) ∧ (PySem.W.codeIn K (cdR K (xa_ATable_init K)) "Table.__init__" = true) ∧ (PySem.W.keepIn K (.ref (xa_ATable_init K)) = true) ∧ (PySem.W.nsIn K mainGlobals "_law_empty" = some (some (.ref (xa_Aempty K)))) ∧ (dfR K (xa_Aempty K) = some .none) ∧ (PySem.W.codeIn K (cdR K (xa_Aempty K)) "_law_empty" = true) ∧ (PySem.W.keepIn K (.ref (xa_Aempty K)) = true) ∧ (PySem.W.findIn K (.ref (xa_CTable K)) "size" = some (some (.ref (xa_PTable_size K)))) ∧ (PySem.W.specialIn K (.ref (xa_PTable_size K)) "__get__" = some (some (.builtin "property.__get__"))) ∧ (PySem.W.takesIn K (.ref (xa_PTable_size K)) = some true))
def gx6 (K : PySem.W.Frag) : Bool := decide ((rcB K (xa_PTable_size K) "property" = true) ∧ (dfR K (xa_ATable_size K) = some .none) ∧ (PySem.W.codeIn K (cdR K (xa_ATable_size K)) "Table.size" = true) ∧ (PySem.W.keepIn K (.ref (xa_ATable_size K)) = true) ∧ (PySem.W.findIn K (.ref (xa_CTable K)) "__len__" = some (some (.ref (xa_ATable_len K)))) ∧ (PySem.W.isFn K (.ref (xa_ATable_len K)) = true) ∧ (dfR K (xa_ATable_len K) = some .none) ∧ (PySem.W.codeIn K (cdR K (xa_ATable_len K)) "Table.__len__" = true) ∧ (PySem.W.keepIn K (.ref (xa_ATable_len K)) = true) ∧ (PySem.W.findIn K (.ref (xa_CTable K)) "rounds" = some (some (.ref (xa_ATable_rounds K)))))
def gx7 (K : PySem.W.Frag) : Bool := decide ((PySem.W.isFn K (.ref (xa_ATable_rounds K)) = true) ∧ (dfR K (xa_ATable_rounds K) = some .none) ∧ (PySem.W.codeIn K (cdR K (xa_ATable_rounds K)) "Table.rounds" = true) ∧ (PySem.W.keepIn K (.ref (xa_ATable_rounds K)) = true) ∧ (PySem.W.nsIn K mainGlobals "is_count" = some (some (.ref (xa_Ais_count K)))) ∧ (dfR K (xa_Ais_count K) = some .none) ∧ (PySem.W.codeIn K (cdR K (xa_Ais_count K)) "is_count" = true) ∧ (PySem.W.keepIn K (.ref (xa_Ais_count K)) = true) ∧ (PySem.W.nsIn K mainGlobals "check_day" = some (some (.ref (xa_Acheck_day K)))) ∧ (dfR K (xa_Acheck_day K) = some .none))
def gx8 (K : PySem.W.Frag) : Bool := decide ((PySem.W.codeIn K (cdR K (xa_Acheck_day K)) "check_day" = true) ∧ (PySem.W.keepIn K (.ref (xa_Acheck_day K)) = true) ∧ (PySem.W.findIn K (.ref (xa_CTable K)) "meetings" = some (some (.ref (xa_ATable_meetings K)))) ∧ (PySem.W.isFn K (.ref (xa_ATable_meetings K)) = true) ∧ (dfR K (xa_ATable_meetings K) = some .none) ∧ (PySem.W.codeIn K (cdR K (xa_ATable_meetings K)) "Table.meetings" = true) ∧ (PySem.W.keepIn K (.ref (xa_ATable_meetings K)) = true) ∧ (PySem.W.nsIn K mainGlobals "_law_sorted" = some (some (.ref (xa_Asorted K)))) ∧ (dfR K (xa_Asorted K) = some .none) ∧ (PySem.W.codeIn K (cdR K (xa_Asorted K)) "_law_sorted" = true))
def gx9 (K : PySem.W.Frag) : Bool := decide ((PySem.W.keepIn K (.ref (xa_Asorted K)) = true) ∧ (PySem.W.findIn K (.ref (xa_CTable K)) "__repr__" = some (some (.ref (xa_ATable_repr K)))) ∧ (PySem.W.isFn K (.ref (xa_ATable_repr K)) = true) ∧ (dfR K (xa_ATable_repr K) = some .none) ∧ (PySem.W.codeIn K (cdR K (xa_ATable_repr K)) "Table.__repr__" = true) ∧ (PySem.W.keepIn K (.ref (xa_ATable_repr K)) = true) ∧ (PySem.W.nsIn K mainGlobals "check_team" = some (some (.ref (xa_Acheck_team K)))) ∧ (dfR K (xa_Acheck_team K) = some .none) ∧ (PySem.W.codeIn K (cdR K (xa_Acheck_team K)) "check_team" = true) ∧ (PySem.W.keepIn K (.ref (xa_Acheck_team K)) = true))
def gx10 (K : PySem.W.Frag) : Bool := decide ((PySem.W.nsIn K mainGlobals "_mark_in" = some (some (.ref (xa_Amark_in K)))) ∧ (dfR K (xa_Amark_in K) = some .none) ∧ (PySem.W.codeIn K (cdR K (xa_Amark_in K)) "_mark_in" = true) ∧ (PySem.W.keepIn K (.ref (xa_Amark_in K)) = true) ∧ (PySem.W.findIn K (.ref (xa_CTable K)) "row_of" = some (some (.ref (xa_ATable_row_of K)))) ∧ (PySem.W.isFn K (.ref (xa_ATable_row_of K)) = true) ∧ (dfR K (xa_ATable_row_of K) = some .none) ∧ (PySem.W.codeIn K (cdR K (xa_ATable_row_of K)) "Table.row_of" = true) ∧ (PySem.W.keepIn K (.ref (xa_ATable_row_of K)) = true) ∧ (PySem.W.nsIn K mainGlobals "_law_row" = some (some (.ref (xa_Arow K)))))
def gx11 (K : PySem.W.Frag) : Bool := decide ((dfR K (xa_Arow K) = some .none) ∧ (PySem.W.codeIn K (cdR K (xa_Arow K)) "_law_row" = true) ∧ (PySem.W.keepIn K (.ref (xa_Arow K)) = true) ∧ (PySem.W.nsIn K mainGlobals "_law_is" = some (some (.ref (xa_Ais K)))) ∧ (dfR K (xa_Ais K) = some .none) ∧ (PySem.W.codeIn K (cdR K (xa_Ais K)) "_law_is" = true) ∧ (PySem.W.keepIn K (.ref (xa_Ais K)) = true) ∧ (PySem.W.nsIn K mainGlobals "check_pair" = some (some (.ref (xa_Acheck_pair K)))) ∧ (dfR K (xa_Acheck_pair K) = some .none) ∧ (PySem.W.codeIn K (cdR K (xa_Acheck_pair K)) "check_pair" = true))
def gx12 (K : PySem.W.Frag) : Bool := decide ((PySem.W.keepIn K (.ref (xa_Acheck_pair K)) = true) ∧ (PySem.W.findIn K (.ref (xa_CTable K)) "met_in" = some (some (.ref (xa_ATable_met_in K)))) ∧ (PySem.W.isFn K (.ref (xa_ATable_met_in K)) = true) ∧ (dfR K (xa_ATable_met_in K) = some .none) ∧ (PySem.W.codeIn K (cdR K (xa_ATable_met_in K)) "Table.met_in" = true) ∧ (PySem.W.keepIn K (.ref (xa_ATable_met_in K)) = true) ∧ (PySem.W.nsIn K mainGlobals "_law_met" = some (some (.ref (xa_Amet K)))) ∧ (dfR K (xa_Amet K) = some .none) ∧ (PySem.W.codeIn K (cdR K (xa_Amet K)) "_law_met" = true) ∧ (PySem.W.keepIn K (.ref (xa_Amet K)) = true))
def gx13 (K : PySem.W.Frag) : Bool := decide ((PySem.W.nsIn K mainGlobals "_law_are_met" = some (some (.ref (xa_Aare_met K)))) ∧ (dfR K (xa_Aare_met K) = some .none) ∧ (PySem.W.codeIn K (cdR K (xa_Aare_met K)) "_law_are_met" = true) ∧ (PySem.W.keepIn K (.ref (xa_Aare_met K)) = true) ∧ (PySem.W.findIn K (.ref (xa_CTable K)) "__eq__" = some (some (.ref (xa_ATable_eq K)))) ∧ (PySem.W.isFn K (.ref (xa_ATable_eq K)) = true) ∧ (dfR K (xa_ATable_eq K) = some .none) ∧ (PySem.W.codeIn K (cdR K (xa_ATable_eq K)) "Table.__eq__" = true) ∧ (PySem.W.keepIn K (.ref (xa_ATable_eq K)) = true) ∧ (PySem.W.nsIn K mainGlobals "_law_turned" = some (some (.ref (xa_Aturned K)))))
def gx14 (K : PySem.W.Frag) : Bool := decide ((dfR K (xa_Aturned K) = some .none) ∧ (PySem.W.codeIn K (cdR K (xa_Aturned K)) "_law_turned" = true) ∧ (PySem.W.keepIn K (.ref (xa_Aturned K)) = true) ∧ (PySem.W.nsIn K mainGlobals "_law_near_days" = some (some (.ref (xa_Anear_days K)))) ∧ (dfR K (xa_Anear_days K) = some .none) ∧ (PySem.W.codeIn K (cdR K (xa_Anear_days K)) "_law_near_days" = true) ∧ (PySem.W.keepIn K (.ref (xa_Anear_days K)) = true) ∧ (PySem.W.nsIn K mainGlobals "_law_named_right" = some (some (.ref (xa_Anamed_right K)))) ∧ (dfR K (xa_Anamed_right K) = some .none) ∧ (PySem.W.codeIn K (cdR K (xa_Anamed_right K)) "_law_named_right" = true))
def gx15 (K : PySem.W.Frag) : Bool := decide ((PySem.W.keepIn K (.ref (xa_Anamed_right K)) = true) ∧ (PySem.W.nsIn K mainGlobals "_law_right" = some (some (.ref (xa_Aright K)))) ∧ (dfR K (xa_Aright K) = some .none) ∧ (PySem.W.codeIn K (cdR K (xa_Aright K)) "_law_right" = true) ∧ (PySem.W.keepIn K (.ref (xa_Aright K)) = true) ∧ (PySem.W.nsIn K mainGlobals "_law_pot" = some (some (.ref (xa_Apot K)))) ∧ (dfR K (xa_Apot K) = some .none) ∧ (PySem.W.codeIn K (cdR K (xa_Apot K)) "_law_pot" = true) ∧ (PySem.W.keepIn K (.ref (xa_Apot K)) = true) ∧ (PySem.W.nsIn K mainGlobals "law" = some (some (.ref (xa_Alaw K)))))
def gx16 (K : PySem.W.Frag) : Bool := decide ((dfR K (xa_Alaw K) = some .none) ∧ (PySem.W.codeIn K (cdR K (xa_Alaw K)) "law" = true) ∧ (PySem.W.keepIn K (.ref (xa_Alaw K)) = true) ∧ (PySem.W.nsIn K mainGlobals "Table" = some (some (.ref (xa_CTable K)))) ∧ (PySem.W.plainGet K (xa_CTable K) Str.empty = true) ∧ (PySem.W.hasDictIn K (xa_CTable K) = true) ∧ (PySem.W.plainOver K (xa_CTable K) = true) ∧ (PySem.W.findIn K (.ref (xa_CTable K)) "__setattr__" = some (some (.builtin "object.__setattr__"))) ∧ (PySem.W.makesIn K (xa_CTable K) = true) ∧ (PySem.W.keepIn K (.ref (xa_CTable K)) = true))
def gx17 (K : PySem.W.Frag) : Bool := decide ((PySem.W.findIn K (.ref (xa_CTable K)) "_rounds" = some none) ∧ (PySem.W.findIn K (.ref (xa_CTable K)) "__class__" = some (some (.builtin "object.__class__"))) ∧ (PySem.W.specialIn K (.builtin "object.__class__") "__get__" = some (some (.builtin "getset_descriptor.__get__"))) ∧ (PySem.W.takesIn K (.builtin "object.__class__") = some true) ∧ (PySem.W.mroIn K (xa_CTable K) (.type "object") = some true) ∧ (PySem.W.isClsIn K (xa_CTable K) = true) ∧ (PySem.W.typeIn K (.ref (xa_CTable K)) = some (.type "type")) ∧ (PySem.W.nsIn K mainGlobals "abs" = some none) ∧ (PySem.W.nsIn K mainGlobals "all" = some none) ∧ (PySem.W.nsIn K mainGlobals "any" = some none))
def gx18 (K : PySem.W.Frag) : Bool := decide ((PySem.W.nsIn K mainGlobals "bool" = some none) ∧ (PySem.W.nsIn K mainGlobals "dict" = some none) ∧ (PySem.W.nsIn K mainGlobals "divmod" = some none) ∧ (PySem.W.nsIn K mainGlobals "enumerate" = some none) ∧ (PySem.W.nsIn K mainGlobals "int" = some none) ∧ (PySem.W.nsIn K mainGlobals "isinstance" = some none) ∧ (PySem.W.nsIn K mainGlobals "len" = some none) ∧ (PySem.W.nsIn K mainGlobals "list" = some none) ∧ (PySem.W.nsIn K mainGlobals "max" = some none) ∧ (PySem.W.nsIn K mainGlobals "min" = some none))
def gx19 (K : PySem.W.Frag) : Bool := decide ((PySem.W.nsIn K mainGlobals "range" = some none) ∧ (PySem.W.nsIn K mainGlobals "repr" = some none) ∧ (PySem.W.nsIn K mainGlobals "set" = some none) ∧ (PySem.W.nsIn K mainGlobals "sorted" = some none) ∧ (PySem.W.nsIn K mainGlobals "sum" = some none) ∧ (PySem.W.nsIn K mainGlobals "tuple" = some none) ∧ (PySem.W.nsIn K mainGlobals "zip" = some none) ∧ (PySem.W.nsIn K mainGlobals "FEWEST_MEETINGS" = some (some (.int 2 (tkI (PySem.W.nsIn K mainGlobals "FEWEST_MEETINGS"))))) ∧ (PySem.W.nsIn K mainGlobals "MOST_MEETINGS" = some (some (.int 12 (tkI (PySem.W.nsIn K mainGlobals "MOST_MEETINGS"))))) ∧ (PySem.W.nsIn K mainGlobals "MOST_ROUNDS" = some (some (.int 60 (tkI (PySem.W.nsIn K mainGlobals "MOST_ROUNDS"))))))
def gxa (K : PySem.W.Frag) : Bool := gx0 K && (gx1 K && (gx2 K && (gx3 K && (gx4 K && (gx5 K && (gx6 K && (gx7 K && (gx8 K && (gx9 K)))))))))
def gxb (K : PySem.W.Frag) : Bool := gx10 K && (gx11 K && (gx12 K && (gx13 K && (gx14 K && (gx15 K && (gx16 K && (gx17 K && (gx18 K && (gx19 K)))))))))
def fnL0 : List (PySem.W.Frag → Addr) := [xa_Adraw, xa_Apick, xa_Amany, xa_Amixed, xa_Aday, xa_Adays, xa_Apassed, xa_Ais_list, xa_Ais_integer, xa_Ais_meeting, xa_Ais_round, xa_Acheck_rounds, xa_ATable_init, xa_Aempty, xa_ATable_size, xa_ATable_len, xa_ATable_rounds, xa_Ais_count, xa_Acheck_day, xa_ATable_meetings]
def fnL1 : List (PySem.W.Frag → Addr) := [xa_Asorted, xa_ATable_repr, xa_Acheck_team, xa_Amark_in, xa_ATable_row_of, xa_Arow, xa_Ais, xa_Acheck_pair, xa_ATable_met_in, xa_Amet, xa_Aare_met, xa_ATable_eq, xa_Aturned, xa_Anear_days, xa_Anamed_right, xa_Aright, xa_Apot, xa_Alaw]
def fnL : List (PySem.W.Frag → Addr) := fnL0 ++ (fnL1)
def fnV0 : List He.FnW := [sv_draw, sv_pick, sv_many, sv_mixed, sv_day, sv_days, sv_passed, sv_is_list, sv_is_integer, sv_is_meeting, sv_is_round, sv_check_rounds, sv_Table_init, sv_empty, sv_Table_size, sv_Table_len, sv_Table_rounds, sv_is_count, sv_check_day, sv_Table_meetings]
def fnV1 : List He.FnW := [sv_sorted, sv_Table_repr, sv_check_team, sv_mark_in, sv_Table_row_of, sv_row, sv_is, sv_check_pair, sv_Table_met_in, sv_met, sv_are_met, sv_Table_eq, sv_turned, sv_near_days, sv_named_right, sv_right, sv_pot, sv_law]
def fnV : List He.FnW := fnV0 ++ (fnV1)
def tsL : List He.Tab := []
def looseL0 : List PySem.Str := ["_wall", "__name__", "LeagueError", "InvalidTeam", "InvalidRound", "InvalidRounds", "LimitError", "TooMany", "is_integer", "is_count", "is_list", "check_team", "check_pair", "check_day", "FEWEST_MEETINGS", "MOST_MEETINGS", "MOST_ROUNDS", "Table", "_check_rounds", "is_round"]
def looseL1 : List PySem.Str := ["_is_meeting", "_mark_in", "_law_pot", "_law_draw", "_law_pick", "_law_mixed", "_law_many", "_law_day", "_law_days", "_law_sorted", "_law_passed", "_law_row", "_law_met", "_law_is", "_law_turned", "_law_are_met", "_law_near_days", "_law_empty", "_law_named_right", "_law_right"]
def looseL : List PySem.Str := looseL0 ++ (looseL1)
abbrev RR : PySem.W.OpenRow := PySem.W.OpenLaw.row PySem.Challenge.rw_ringrows_k40_tables_told
abbrev qV : Program := PySem.W.view RR.prog [43]
abbrev hk : PySem.W.Hook := hkR 4000 (fun K => gxa K && gxb K) fnL fnV tsL
abbrev ob : PySem.W.SharedT → hk.α := obF 4000 gxa gxb fnL tsL
set_option maxHeartbeats 0 in
theorem runA_false (w : World) (os : OsState) : (endW RR.prog (w.withFollow "special-get-raises" false) os).map (fun x => (HandSHeadRun.looksF RR.prog (PySem.W.boot_heap (w.withFollow "special-get-raises" false).params) x.abs, HandSHeadRun.seenQ qV looseL (importedModules RR.prog.main.body) (fun s => PySem.W.xlAt qV [] s && PySem.W.recOk RR.toRowW.records s) x.abs)) = some (true, PySem.W.openGood qV looseL) := by
  kernel_rfl
set_option maxHeartbeats 0 in
theorem runBa_false (w : World) (os : OsState) : (endW RR.prog (w.withFollow "special-get-raises" false) os).map (fun x => obA 4000 gxa x) = some true := by
  kernel_rfl
set_option maxHeartbeats 0 in
theorem runBb_false (w : World) (os : OsState) : (endW RR.prog (w.withFollow "special-get-raises" false) os).map (fun x => obA 4000 gxb x) = some true := by
  kernel_rfl
set_option maxHeartbeats 0 in
theorem runC_false (w : World) (os : OsState) : (endW RR.prog (w.withFollow "special-get-raises" false) os).map (fun x => obB 4000 fnL tsL x) = some (fnV, tsL.map fun t => some (He.keysIn (w.withFollow "special-get-raises" false).params t.2)) := by
  kernel_rfl
theorem run_false (w : World) : HandSHeadRun.RunEq RR qV hk ob 60000 looseL (w.withFollow "special-get-raises" false) := runEq_of (runA_false w) (runBa_false w) (runBb_false w) (runC_false w)
set_option maxHeartbeats 0 in
theorem runA_true (w : World) (os : OsState) : (endW RR.prog (w.withFollow "special-get-raises" true) os).map (fun x => (HandSHeadRun.looksF RR.prog (PySem.W.boot_heap (w.withFollow "special-get-raises" true).params) x.abs, HandSHeadRun.seenQ qV looseL (importedModules RR.prog.main.body) (fun s => PySem.W.xlAt qV [] s && PySem.W.recOk RR.toRowW.records s) x.abs)) = some (true, PySem.W.openGood qV looseL) := by
  kernel_rfl
set_option maxHeartbeats 0 in
theorem runBa_true (w : World) (os : OsState) : (endW RR.prog (w.withFollow "special-get-raises" true) os).map (fun x => obA 4000 gxa x) = some true := by
  kernel_rfl
set_option maxHeartbeats 0 in
theorem runBb_true (w : World) (os : OsState) : (endW RR.prog (w.withFollow "special-get-raises" true) os).map (fun x => obA 4000 gxb x) = some true := by
  kernel_rfl
set_option maxHeartbeats 0 in
theorem runC_true (w : World) (os : OsState) : (endW RR.prog (w.withFollow "special-get-raises" true) os).map (fun x => obB 4000 fnL tsL x) = some (fnV, tsL.map fun t => some (He.keysIn (w.withFollow "special-get-raises" true).params t.2)) := by
  kernel_rfl
theorem run_true (w : World) : HandSHeadRun.RunEq RR qV hk ob 60000 looseL (w.withFollow "special-get-raises" true) := runEq_of (runA_true w) (runBa_true w) (runBb_true w) (runC_true w)
theorem run (w : World) : HandSHeadRun.RunEq RR qV hk ob 60000 looseL w := PySem.W.byRow2 "special-get-raises" (P := fun w => HandSHeadRun.RunEq RR qV hk ob 60000 looseL w) run_false run_true w
end Lw
namespace Rx
open PySem PySem.Spec PyProof.Rows L2

inductive D where
  | v (x : V)
  | lst (xs : List D)
  | tup (xs : List D)
  | ins (C : Addr) (ns : List Str) (xs : List D)
  | dct (ks : List Key) (xs : List D)
  | dcT (ks : List (List Key)) (xs : List D)

mutual
def rep (ms : List Addr) (H : Hp) : D → V → Prop
  | .v x, u => u = x
  | .lst ds, u => ∃ p vs, u = .ref p ∧ p ∉ ms ∧ H p = some (.lst vs) ∧ repL ms H ds vs
  | .tup ds, u => ∃ p vs, u = .ref p ∧ p ∉ ms ∧ H p = some (.tup vs) ∧ repL ms H ds vs
  | .ins C ns ds, u => ∃ p dx vs, u = .ref p ∧ p ∉ ms ∧ H p = some (.ins C dx (ns.zip vs)) ∧ ns.length = vs.length ∧ repL ms H ds vs
  | .dct ks ds, u => ∃ p vs, u = .ref p ∧ p ∉ ms ∧ H p = some (.dK (ks.zip vs)) ∧ ks.length = vs.length ∧ repL ms H ds vs
  | .dcT ks ds, u => ∃ p vs, u = .ref p ∧ p ∉ ms ∧ H p = some (.dT (ks.zip vs)) ∧ ks.length = vs.length ∧ repL ms H ds vs
def repL (ms : List Addr) (H : Hp) : List D → List V → Prop
  | [], vs => vs = []
  | d :: ds, vs => ∃ u us, vs = u :: us ∧ rep ms H d u ∧ repL ms H ds us
end

mutual
theorem rep_map {ms ms' : List Addr} {H H' : Hp} (f : ∀ p o, p ∉ ms → H p = some o → p ∉ ms' ∧ H' p = some o) : ∀ (d : D) (u : V), rep ms H d u → rep ms' H' d u
  | .v x, u, h => by
    simp only [rep] at h ⊢
    exact h
  | .lst ds, u, h => by
    simp only [rep] at h ⊢
    obtain ⟨p, vs, e, n, hp, hl⟩ := h
    exact ⟨p, vs, e, (f p _ n hp).1, (f p _ n hp).2, repL_map f ds vs hl⟩
  | .tup ds, u, h => by
    simp only [rep] at h ⊢
    obtain ⟨p, vs, e, n, hp, hl⟩ := h
    exact ⟨p, vs, e, (f p _ n hp).1, (f p _ n hp).2, repL_map f ds vs hl⟩
  | .ins C ns ds, u, h => by
    simp only [rep] at h ⊢
    obtain ⟨p, dx, vs, e, n, hp, hn, hl⟩ := h
    exact ⟨p, dx, vs, e, (f p _ n hp).1, (f p _ n hp).2, hn, repL_map f ds vs hl⟩
  | .dct ks ds, u, h => by
    simp only [rep] at h ⊢
    obtain ⟨p, vs, e, n, hp, hn, hl⟩ := h
    exact ⟨p, vs, e, (f p _ n hp).1, (f p _ n hp).2, hn, repL_map f ds vs hl⟩
  | .dcT ks ds, u, h => by
    simp only [rep] at h ⊢
    obtain ⟨p, vs, e, n, hp, hn, hl⟩ := h
    exact ⟨p, vs, e, (f p _ n hp).1, (f p _ n hp).2, hn, repL_map f ds vs hl⟩
theorem repL_map {ms ms' : List Addr} {H H' : Hp} (f : ∀ p o, p ∉ ms → H p = some o → p ∉ ms' ∧ H' p = some o) : ∀ (ds : List D) (us : List V), repL ms H ds us → repL ms' H' ds us
  | [], us, h => by
    simp only [repL] at h ⊢
    exact h
  | d :: ds, us, h => by
    simp only [repL] at h ⊢
    obtain ⟨u, vs, e, h1, h2⟩ := h
    exact ⟨u, vs, e, rep_map f d u h1, repL_map f ds vs h2⟩
end

theorem repL_len {ms : List Addr} {H : Hp} : ∀ {ds : List D} {vs : List V}, repL ms H ds vs → ds.length = vs.length
  | [], vs, h => by
    simp only [repL] at h
    rw [h]
    rfl
  | d :: ds, vs, h => by
    simp only [repL] at h
    obtain ⟨u, us, e, _, h2⟩ := h
    rw [e]
    show ds.length + 1 = us.length + 1
    rw [repL_len h2]
theorem repL_get {ms : List Addr} {H : Hp} : ∀ {ds : List D} {vs : List V} {j : Nat} {d : D}, repL ms H ds vs → ds[j]? = some d → ∃ v, vs[j]? = some v ∧ rep ms H d v
  | [], vs, j, d, h, e => by simp at e
  | d0 :: ds, vs, 0, d, h, e => by
    simp only [repL] at h
    obtain ⟨u, us, rfl, h1, _⟩ := h
    have e' : d0 = d := Option.some.inj e
    subst e'
    exact ⟨u, rfl, h1⟩
  | d0 :: ds, vs, j + 1, d, h, e => by
    simp only [repL] at h
    obtain ⟨u, us, rfl, _, h2⟩ := h
    exact repL_get (j := j) h2 (by simpa using e)
theorem repL_app {ms : List Addr} {H : Hp} : ∀ {ds es : List D} {vs us : List V}, repL ms H ds vs → repL ms H es us → repL ms H (ds ++ es) (vs ++ us)
  | [], es, vs, us, h, h' => by
    simp only [repL] at h
    rw [h]
    exact h'
  | d :: ds, es, vs, us, h, h' => by
    simp only [repL] at h
    obtain ⟨u, ws, rfl, h1, h2⟩ := h
    show repL ms H (d :: (ds ++ es)) (u :: (ws ++ us))
    simp only [repL]
    exact ⟨u, ws ++ us, rfl, h1, repL_app h2 h'⟩
theorem repL_one {ms : List Addr} {H : Hp} {d : D} {u : V} (h : rep ms H d u) : repL ms H [d] [u] := by
  simp only [repL]
  exact ⟨u, [], rfl, h, rfl⟩
theorem repL_nil {ms : List Addr} {H : Hp} : repL ms H [] [] := by simp only [repL]
theorem repL_cons {ms : List Addr} {H : Hp} {d : D} {u : V} {ds : List D} {us : List V} (h : rep ms H d u) (t : repL ms H ds us) : repL ms H (d :: ds) (u :: us) := by
  simp only [repL]
  exact ⟨u, us, rfl, h, t⟩
theorem rep_v {ms : List Addr} {H : Hp} {x : V} : rep ms H (.v x) x := by simp only [rep]
theorem of_v {ms : List Addr} {H : Hp} {x u : V} (h : rep ms H (.v x) u) : u = x := by
  simp only [rep] at h
  exact h
theorem repL_flat {ms : List Addr} {H : Hp} : ∀ {xs vs : List V}, repL ms H (xs.map D.v) vs ↔ vs = xs
  | [], vs => by simp only [List.map_nil, repL]
  | x :: xs, vs => by
    simp only [List.map_cons, repL]
    constructor
    · rintro ⟨u, us, rfl, h1, h2⟩
      rw [of_v h1, repL_flat.mp h2]
    · rintro rfl
      exact ⟨x, xs, rfl, rep_v, repL_flat.mpr rfl⟩

def PotH (H : Hp) (a : Addr) : Prop := ∃ i j : Int, H a = some (.lst [.int i, .int j]) ∧ j.natAbs < 4294967296
abbrev PEn := Addr × Option Str
abbrev ad (ps : List PEn) : List Addr := ps.map Prod.fst
def EntH (H : Hp) (p : PEn) : Prop := match p.2 with
  | none => PotH H p.1
  | some q => LamX.TabS H p.1 q
theorem ent_ne {H : Hp} {p : PEn} {o : HO} (h : EntH H p) (e : H p.1 = some o) : (∃ xs, o = .lst xs) ∨ ∃ xs, o = .tbl xs := by
  obtain ⟨a, k⟩ := p
  cases k with
  | none =>
    obtain ⟨i, j, h1, _⟩ := h
    rw [h1] at e
    cases e
    exact .inl ⟨_, rfl⟩
  | some q =>
    obtain ⟨xs, h1, _⟩ := h
    rw [h1] at e
    cases e
    exact .inr ⟨_, rfl⟩
theorem ent_some {H : Hp} {p : PEn} (h : EntH H p) : H p.1 ≠ none := fun z => by
  obtain ⟨a, k⟩ := p
  cases k with
  | none =>
    obtain ⟨i, j, h1, _⟩ := h
    rw [z] at h1
    cases h1
  | some q =>
    obtain ⟨xs, h1, _⟩ := h
    rw [z] at h1
    cases h1
theorem ent_stay {H H' : Hp} {p : PEn} (h : EntH H p) (f : ∀ o, H p.1 = some o → H' p.1 = some o) (g : ∀ c q, H c = some (LamX.CodeO c q) → H' c = some (LamX.CodeO c q)) : EntH H' p := by
  obtain ⟨a, k⟩ := p
  cases k with
  | none =>
    obtain ⟨i, j, h1, h2⟩ := h
    exact ⟨i, j, f _ h1, h2⟩
  | some q =>
    obtain ⟨xs, h1, h2, h3⟩ := h
    exact ⟨xs, f _ h1, h2, fun pos cv hc => by
      obtain ⟨c, e1, e2⟩ := h3 pos cv hc
      exact ⟨c, e1, g c q e2⟩⟩
structure Ret (ps : List PEn) (H H' : Hp) : Prop where
  kp : ∀ a o, a ∉ ad ps → H a = some o → H' a = some o
  pot : ∀ a ∈ ps, EntH H' a
  grow : ∀ a, H a ≠ none → H' a ≠ none
abbrev Ext (H H' : Hp) : Prop := Ret [] H H'
theorem Ext.keep {H H' : Hp} (e : Ext H H') {a : Addr} {o : HO} (h : H a = some o) : H' a = some o := e.kp a o (by simp) h
theorem Ext.new {H : Hp} {p : Addr} {o : HO} (np : H p = none) : Ext H (upd H p o) := by
  refine ⟨fun a u _ h => ?_, fun _ h => absurd h List.not_mem_nil, fun a h => ?_⟩
  · rw [upd_ne (ne_of_none h np)]
    exact h
  · by_cases e : a = p
    · rw [e, upd_same]
      exact fun z => nomatch z
    · rw [upd_ne e]
      exact h
structure Wd (ms : List Addr) (ps : List PEn) (cs : List (Addr × List V)) (H0 H : Hp) : Prop where
  kp : ∀ a o, a ∉ ad ps → H0 a = some o → H a = some o
  grow : ∀ a, H0 a ≠ none → H a ≠ none
  tr : ∀ m ∈ ms, H m ≠ none
  pot : ∀ a ∈ ps, EntH H a
  pm : ∀ a ∈ ad ps, a ∈ ms
  cel : ∀ c ∈ cs, H c.1 = some (.lst c.2) ∧ c.1 ∈ ms ∧ c.1 ∉ ad ps ∧ H0 c.1 = none

section
variable {ms : List Addr} {ps ps' : List PEn} {cs : List (Addr × List V)} {H0 H H' : Hp} {d : D} {u : V}
theorem ad_mem {ps ps' : List PEn} (hs : ∀ a ∈ ps', a ∈ ps) {a : Addr} (h : a ∈ ad ps') : a ∈ ad ps := by
  obtain ⟨p, hp, rfl⟩ := List.mem_map.mp h
  exact List.mem_map.mpr ⟨p, hs p hp, rfl⟩
theorem mem_ad {ps : List PEn} {p : PEn} (h : p ∈ ps) : p.1 ∈ ad ps := List.mem_map.mpr ⟨p, h, rfl⟩
theorem Wd.ret (hs : ∀ a ∈ ps', a ∈ ps) (hu : ∀ p ∈ ps, p.1 ∈ ad ps' → p ∈ ps') (w : Wd ms ps cs H0 H) (e : Ret ps' H H') : Wd ms ps cs H0 H' where
  kp := fun a o n h => e.kp a o (fun z => n (ad_mem hs z)) (w.kp a o n h)
  grow := fun a h => e.grow a (w.grow a h)
  tr := fun m h => e.grow m (w.tr m h)
  pot := fun p h => by
    by_cases z : p ∈ ps'
    · exact e.pot p z
    · refine ent_stay (w.pot p h) (fun o ho => e.kp _ o (fun y => z (hu p h y)) ho) fun c q hc => e.kp _ _ (fun y => ?_) hc
      obtain ⟨p2, h2, e2⟩ := List.mem_map.mp y
      have := w.pot p2 (hs p2 h2)
      rw [← e2] at hc
      rcases ent_ne this hc with ⟨xs, hx⟩ | ⟨xs, hx⟩ <;> cases hx
  pm := w.pm
  cel := fun c h => by
    obtain ⟨h1, h2, h3, h4⟩ := w.cel c h
    exact ⟨e.kp _ _ (fun z => h3 (ad_mem hs z)) h1, h2, h3, h4⟩
theorem Wd.ret0 (w : Wd ms ps cs H0 H) (e : Ret [] H H') : Wd ms ps cs H0 H' := w.ret (fun _ h => absurd h List.not_mem_nil) (fun _ _ h => absurd h List.not_mem_nil) e
theorem Wd.retP (w : Wd ms ps cs H0 H) (e : Ret ps H H') : Wd ms ps cs H0 H' := w.ret (fun _ h => h) (fun _ h _ => h) e
theorem Wd.enter0 (w : Wd ms ps cs H0 H) : Wd ms [] [] H H := ⟨fun _ _ _ h => h, fun _ h => h, w.tr, fun _ h => absurd h List.not_mem_nil, fun _ h => absurd h List.not_mem_nil, fun _ h => absurd h List.not_mem_nil⟩
theorem Wd.enterP (w : Wd ms ps cs H0 H) : Wd ms ps [] H H := ⟨fun _ _ _ h => h, fun _ h => h, w.tr, w.pot, w.pm, fun _ h => absurd h List.not_mem_nil⟩
theorem Wd.out (w : Wd ms ps cs H0 H) : Ret ps H0 H := ⟨w.kp, w.pot, w.grow⟩
theorem rep_ret (w : Wd ms ps cs H0 H) (e : Ret ps H H') (h : rep ms H d u) : rep ms H' d u := rep_map (fun p o n hp => ⟨n, e.kp p o (fun z => n (w.pm p z)) hp⟩) d u h
theorem rep_ext (e : Ret [] H H') (h : rep ms H d u) : rep ms H' d u := rep_map (fun p o n hp => ⟨n, e.kp p o (by simp) hp⟩) d u h
theorem repL_ext {ds : List D} {us : List V} (e : Ret [] H H') (h : repL ms H ds us) : repL ms H' ds us := repL_map (fun p o n hp => ⟨n, e.kp p o (by simp) hp⟩) ds us h
theorem Wd.cell {l : Addr} {xs : List V} (w : Wd ms ps cs H0 H) (nl : H l = none) : Wd (l :: ms) ps ((l, xs) :: cs) H0 (upd H l (.lst xs)) := by
  have e : Ext H (upd H l (.lst xs)) := Ext.new nl
  have w1 := w.ret0 e
  refine ⟨w1.kp, w1.grow, fun m h => ?_, w1.pot, fun a h => List.mem_cons_of_mem _ (w.pm a h), fun c h => ?_⟩
  · rcases List.mem_cons.mp h with rfl | h
    · rw [upd_same]
      exact fun z => nomatch z
    · exact w1.tr m h
  · rcases List.mem_cons.mp h with rfl | h
    · refine ⟨upd_same, List.mem_cons_self, fun z => ?_, ?_⟩
      · obtain ⟨p, hp, e2⟩ := List.mem_map.mp z
        exact ent_some (w.pot p hp) (by rw [e2]; exact nl)
      · show H0 l = none
        cases q : H0 l with
        | none => rfl
        | some o => exact absurd nl (w.grow l (by rw [q]; exact fun z => nomatch z))
    · obtain ⟨h1, h2, h3, h4⟩ := w1.cel c h
      exact ⟨h1, List.mem_cons_of_mem _ h2, h3, h4⟩
theorem rep_cell {l : Addr} {o : HO} (nl : H l = none) (h : rep ms H d u) : rep (l :: ms) (upd H l o) d u := by
  refine rep_map (fun p o n hp => ?_) d u h
  have ne : p ≠ l := ne_of_none hp nl
  refine ⟨fun z => ?_, by rw [upd_ne ne]; exact hp⟩
  rcases List.mem_cons.mp z with z | z
  · exact ne z
  · exact n z
theorem Wd.put {l : Addr} {xs ys : List V} (w : Wd ms ps ((l, xs) :: cs) H0 H) (hn : ∀ c ∈ cs, c.1 ≠ l) : Wd ms ps ((l, ys) :: cs) H0 (upd H l (.lst ys)) := by
  obtain ⟨hl, lm, lp, l0⟩ := w.cel _ List.mem_cons_self
  refine ⟨fun a o n h => ?_, fun a h => ?_, fun m h => ?_, fun a h => ?_, w.pm, fun c h => ?_⟩
  · rw [upd_ne (ne_of_none h l0)]
    exact w.kp a o n h
  · by_cases e : a = l
    · rw [e, upd_same]
      exact fun z => nomatch z
    · rw [upd_ne e]
      exact w.grow a h
  · by_cases e : m = l
    · rw [e, upd_same]
      exact fun z => nomatch z
    · rw [upd_ne e]
      exact w.tr m h
  · refine ent_stay (w.pot a h) (fun o ho => by rw [upd_ne (fun z => lp (by rw [← z]; exact mem_ad h))]; exact ho) fun c q hc => ?_
    rw [upd_ne (fun z => by rw [z, hl] at hc; cases hc)]
    exact hc
  · rcases List.mem_cons.mp h with rfl | h
    · exact ⟨upd_same, lm, lp, l0⟩
    · obtain ⟨h1, h2, h3, h4⟩ := w.cel c (List.mem_cons_of_mem _ h)
      exact ⟨by rw [upd_ne (hn c h)]; exact h1, h2, h3, h4⟩
theorem rep_put {l : Addr} {o : HO} (lm : l ∈ ms) (h : rep ms H d u) : rep ms (upd H l o) d u :=
  rep_map (fun p o n hp => ⟨n, by rw [upd_ne (fun z => n (by rw [z]; exact lm))]; exact hp⟩) d u h
theorem repL_put {ds : List D} {us : List V} {l : Addr} {o : HO} (lm : l ∈ ms) (h : repL ms H ds us) : repL ms (upd H l o) ds us :=
  repL_map (fun p o n hp => ⟨n, by rw [upd_ne (fun z => n (by rw [z]; exact lm))]; exact hp⟩) ds us h
theorem Wd.froze {l : Addr} {xs : List V} (w : Wd (l :: ms) ps ((l, xs) :: cs) H0 H) (hp : ∀ a ∈ ad ps, a ∈ ms) (hc : ∀ c ∈ cs, c.1 ∈ ms) : Wd ms ps cs H0 H :=
  ⟨w.kp, w.grow, fun m h => w.tr m (List.mem_cons_of_mem _ h), w.pot, hp, fun c h => by
    obtain ⟨h1, _, h3, h4⟩ := w.cel c (List.mem_cons_of_mem _ h)
    exact ⟨h1, hc c h, h3, h4⟩⟩
theorem repL_weak {ds : List D} {us : List V} {l : Addr} (h : repL (l :: ms) H ds us) : repL ms H ds us := repL_map (fun p o n hp => ⟨fun z => n (List.mem_cons_of_mem _ z), hp⟩) ds us h
end

def upE (t : TE) : TE := fun σ H Q => ∃ Q' : VK, t σ H Q' ∧ ∀ v H', Q' v H' → Q v H'
section
variable {X : Cx}
theorem pe_up {e : Expr} {t : TE} (h : PE X e t) : PE X e (upE t) := ⟨fun pins s σ H Q I ⟨Q', hq, m⟩ => thn (h.run pins s σ H Q' I hq) fun u s' ⟨v, H', I', r, q⟩ => ⟨v, H', I', r, m v H' q⟩⟩
end

def mapC {α β : Type} (body : α → (β → Prop) → Prop) : List α → List β → (List β → Prop) → Prop
  | [], acc, k => k acc
  | x :: xs, acc, k => body x fun y => mapC body xs (acc ++ [y]) k
def filC {α β : Type} (body : α → (Option β → Prop) → Prop) : List α → List β → (List β → Prop) → Prop
  | [], acc, k => k acc
  | x :: xs, acc, k => body x fun o => match o with
    | some y => filC body xs (acc ++ [y]) k
    | none => filC body xs acc k
def forC {α S : Type} (body : α → S → (S → Prop) → Prop) : List α → S → (S → Prop) → Prop
  | [], s, k => k s
  | x :: xs, s, k => body x s fun s' => forC body xs s' k
def rangeI (lo hi : Int) : List Int := (List.range (hi - lo).toNat).map fun i => lo + ((i : Nat) : Int)
theorem rangeI_len {lo hi : Int} : (rangeI lo hi).length = (hi - lo).toNat := by simp [rangeI]
theorem rangeI_get {lo hi : Int} {i : Nat} (h : i < (hi - lo).toNat) : (rangeI lo hi)[i]? = some (lo + (i : Int)) := by
  simp [rangeI, List.getElem?_map, List.getElem?_range h]
theorem drop_cons' {α : Type} {xs : List α} {i : Nat} {x : α} (h : xs[i]? = some x) : xs.drop i = x :: xs.drop (i + 1) := by
  obtain ⟨h1, h2⟩ := List.getElem?_eq_some_iff.mp h
  rw [List.drop_eq_getElem_cons h1, h2]

def Keep (ms : List Addr) (H H' : Hp) : Prop := ∀ a o, a ∉ ms → H a = some o → H' a = some o
section
variable {ms : List Addr} {ps : List PEn} {cs : List (Addr × List V)} {H0 H H1 H' : Hp} {d : D} {u : V}
theorem Keep.refl : Keep ms H H := fun _ _ _ h => h
theorem keep_ret (w : Wd ms ps cs H0 H) (e : Ret ps H H') (k : Keep ms H1 H) : Keep ms H1 H' := fun a o n h => e.kp a o (fun z => n (w.pm a z)) (k a o n h)
theorem keep_ext (e : Ret [] H H') (k : Keep ms H1 H) : Keep ms H1 H' := fun a o n h => e.kp a o (by simp) (k a o n h)
theorem keep_cell {l : Addr} {o : HO} (nl : H l = none) (k : Keep ms H1 H) : Keep (l :: ms) H1 (upd H l o) := fun a u n h => by
  rw [upd_ne (fun z => n (by rw [z]; exact List.mem_cons_self))]
  exact k a u (fun z => n (List.mem_cons_of_mem _ z)) h
theorem keep_put {l : Addr} {o : HO} (lm : l ∈ ms) (k : Keep ms H1 H) : Keep ms H1 (upd H l o) := fun a u n h => by
  rw [upd_ne (fun z => n (by rw [z]; exact lm))]
  exact k a u n h
theorem rep_keep (k : Keep ms H H') (h : rep ms H d u) : rep ms H' d u := rep_map (fun p o n hp => ⟨n, k p o n hp⟩) d u h
theorem repL_keep {ds : List D} {us : List V} (k : Keep ms H H') (h : repL ms H ds us) : repL ms H' ds us := repL_map (fun p o n hp => ⟨n, k p o n hp⟩) ds us h
end

theorem ite3 {c : Prop} [Decidable c] {A B P R : Prop} (h : if c then A else B) (h1 : A → P) (h2 : B → R) : if c then P else R := by
  by_cases q : c
  · rw [if_pos q] at h ⊢
    exact h1 h
  · rw [if_neg q] at h ⊢
    exact h2 h

section
variable {K : PySem.W.Frag} {ms : List Addr} {ps : List PEn} {cs : List (Addr × List V)} {H0 H : Hp} {d : D} {u x : V}
theorem rep_fld {C : Addr} {ns : List Str} {ds : List D} {f : Str} {Q : VK} {j : Nat} (h : rep ms H (.ins C ns ds) x) (c : Cls K C) (n : NoAttr K C f) (nd : ns.Nodup) (hn : ns[j]? = some f) (hd : ds[j]? = some d) (k : ∀ v, rep ms H d v → Q v H) :
    ∃ a C dx fs v, x = .ref a ∧ H a = some (.ins C dx fs) ∧ Cls K C ∧ NoAttr K C f ∧ fs.lookup f = some v ∧ Q v H := by
  simp only [rep] at h
  obtain ⟨p, dx, vs, e, _, hp, hl, hr⟩ := h
  obtain ⟨v, hv, rv⟩ := repL_get hr hd
  refine ⟨p, C, dx, _, v, e, hp, c, n, ?_, k v rv⟩
  clear hr hd hp e k rv
  induction ns generalizing vs j with
  | nil => simp at hn
  | cons n0 ns ih =>
    cases vs with
    | nil => simp at hv
    | cons v0 vs =>
      cases j with
      | zero =>
        have e1 : n0 = f := Option.some.inj hn
        have e2 : v0 = v := Option.some.inj hv
        subst e1 e2
        simp [List.lookup]
      | succ j =>
        have hn' : ns[j]? = some f := by simpa using hn
        have hv' : vs[j]? = some v := by simpa using hv
        have ne : f ≠ n0 := fun z => by
          subst z
          exact (List.nodup_cons.mp nd).1 (List.mem_of_getElem? hn')
        show ((n0, v0) :: ns.zip vs).lookup f = some v
        rw [List.lookup_cons, show (f == n0) = false from beq_eq_false_iff_ne.mpr ne]
        exact ih (List.nodup_cons.mp nd).2 hn' vs (by simpa using hl) hv'
theorem lookup_zip_none {m : Str} : ∀ {ns : List Str} {vs : List V}, m ∉ ns → (ns.zip vs).lookup m = none
  | [], vs, _ => by simp
  | n :: ns, [], _ => by simp
  | n :: ns, v :: vs, h => by
    show ((n, v) :: ns.zip vs).lookup m = none
    rw [List.lookup_cons, show (m == n) = false from beq_eq_false_iff_ne.mpr fun z => h (by rw [z]; exact List.mem_cons_self)]
    exact lookup_zip_none fun z => h (List.mem_cons_of_mem _ z)
theorem rep_meth {C : Addr} {ns : List Str} {ds : List D} {m : Str} {P : Hp → Prop} (h : rep ms H (.ins C ns ds) x) (hm : m ∉ ns) (k : P H) : ∃ a dx fs, x = .ref a ∧ H a = some (.ins C dx fs) ∧ fs.lookup m = none ∧ P H := by
  simp only [rep] at h
  obtain ⟨p, dx, vs, e, _, hp, hl, hr⟩ := h
  exact ⟨p, dx, _, e, hp, lookup_zip_none hm, k⟩
theorem rep_prop {C : Addr} {ns : List Str} {ds : List D} {P : Addr → Prop} (h : rep ms H (.ins C ns ds) x) (k : ∀ a, rep ms H (.ins C ns ds) (.ref a) → P a) : ∃ a dx fs, x = .ref a ∧ H a = some (.ins C dx fs) ∧ P a := by
  have h' := h
  simp only [rep] at h
  obtain ⟨p, dx, vs, e, _, hp, hl, hr⟩ := h
  subst e
  exact ⟨p, dx, _, rfl, hp, k p h'⟩
theorem rep_ixT {ds : List D} {i : Int} (j : Nat) {σ : L2.St} {Q : VK} (h : rep ms H (.tup ds) x) (hi : i = (j : Int)) (hd : ds[j]? = some d) (k : ∀ v, rep ms H d v → Q v H) : tC (V.int i) σ H fun y H2 => rIxT K x y H2 Q := by
  subst hi
  simp only [rep] at h
  obtain ⟨p, vs, e, _, hp, hr⟩ := h
  obtain ⟨v, hv, rv⟩ := repL_get hr hd
  exact ⟨p, vs, _, v, e, rfl, .inl (.inl hp), atI_nat hv, k v rv⟩
theorem rep_ixL {α : Type} {e : α → D} {xs : List α} {i : Int} {Q : VK} (h : rep ms H (.lst (xs.map e)) x) (h0 : 0 ≤ i) (hi : i.toNat < xs.length) (k : ∀ v, rep ms H (e (xs[i.toNat]'hi)) v → Q v H) : rIxL K x (.int i) H Q := by
  simp only [rep] at h
  obtain ⟨p, vs, e', _, hp, hr⟩ := h
  obtain ⟨v, hv, rv⟩ := repL_get (d := e (xs[i.toNat]'hi)) hr (by rw [List.getElem?_map, List.getElem?_eq_getElem hi]; rfl)
  refine ⟨p, vs, i, v, e', rfl, .inl (.inl hp), at_of (j := i.toNat) (by omega) hv, k v rv⟩
theorem rep_lenL {α : Type} {e : α → D} {xs : List α} {P : Nat → Prop} (h : rep ms H (.lst (xs.map e)) x) (k : P xs.length) : ∃ y n, [x] = [y] ∧ LenV K y H n ∧ P n := by
  simp only [rep] at h
  obtain ⟨p, vs, e', _, hp, hr⟩ := h
  subst e'
  have hl := repL_len hr
  rw [List.length_map] at hl
  exact ⟨_, xs.length, rfl, .inl ⟨vs, .inl (.inl hp), hl⟩, k⟩
theorem rep_iter {ds : List D} {P : Addr → Prop} (h : rep ms H (.lst ds) x) (k : ∀ a xs, x = .ref a → a ∉ ms → H a = some (.lst xs) → repL ms H ds xs → P a) : ∃ a, x = .ref a ∧ (∃ xs, SqL K H a xs) ∧ P a := by
  simp only [rep] at h
  obtain ⟨p, vs, e, n, hp, hr⟩ := h
  exact ⟨p, e, ⟨vs, .inl (.inl hp)⟩, k p vs e n hp hr⟩
theorem rep_gtup {ds : List D} {n : Nat} {Q : L2.St → Hp → Prop} {t : TGs} {σ : L2.St} (h : rep ms H (.tup ds) x) (hn : ds.length = n) (k : ∀ vs, repL ms H ds vs → t vs σ H Q) : ∃ a xs, x = .ref a ∧ SqT K H a xs ∧ xs.length = n ∧ t xs σ H Q := by
  simp only [rep] at h
  obtain ⟨p, vs, e, _, hp, hr⟩ := h
  exact ⟨p, vs, e, .inl (.inl hp), by rw [← repL_len hr]; exact hn, k vs hr⟩
theorem rep_tup_mk {p : Addr} {ds : List D} {vs : List V} (w : Wd ms ps cs H0 H) (np : H p = none) (e : Ext H H') (hp : H' p = some (.tup vs)) (hr : repL ms H ds vs) : rep ms H' (.tup ds) (.ref p) := by
  simp only [rep]
  exact ⟨p, vs, rfl, fun z => w.tr p z np, hp, repL_ext e hr⟩
theorem rep_lst_mk {p : Addr} {ds : List D} {vs : List V} (w : Wd ms ps cs H0 H) (np : H p = none) (e : Ext H H') (hp : H' p = some (.lst vs)) (hr : repL ms H ds vs) : rep ms H' (.lst ds) (.ref p) := by
  simp only [rep]
  exact ⟨p, vs, rfl, fun z => w.tr p z np, hp, repL_ext e hr⟩
end

section
variable {α β : Type} {K : PySem.W.Frag} {ms : List Addr} {ps : List PEn} {cs : List (Addr × List V)} {H0 H1 : Hp} {g : TG} {tt : TT} {te : TE} {vl : List Nat} {σ : L2.St} {Qd : Hp → Prop}
structure Trn (ms : List Addr) (ps : List PEn) (cs : List (Addr × List V)) (H0 H1 : Hp) (L : Addr) (eb : β → D) (n : Nat) (ys : List β) (vs : List V) (H : Hp) : Prop where
  w : Wd (L :: ms) ps ((L, vs) :: cs) H0 H
  k : Keep (L :: ms) H1 H
  r : repL (L :: ms) H (ys.map eb) vs
  n : ys.length ≤ n
theorem Trn.add {L : Addr} {eb : β → D} {n : Nat} {ys : List β} {vs : List V} {H : Hp} {y : β} {u : V} (hc : ∀ c ∈ cs, c.1 ≠ L) (w : Wd (L :: ms) ps ((L, vs) :: cs) H0 H) (k : Keep (L :: ms) H1 H) (r : repL (L :: ms) H (ys.map eb) vs) (hn : ys.length ≤ n) (hr : rep (L :: ms) H (eb y) u) :
    Trn ms ps cs H0 H1 L eb (n + 1) (ys ++ [y]) (vs ++ [u]) (upd H L (.lst (vs ++ [u]))) := by
  refine ⟨w.put hc, keep_put List.mem_cons_self k, ?_, by rw [List.length_append]; exact Nat.add_le_add_right hn 1⟩
  rw [List.map_append]
  exact repL_put List.mem_cons_self (repL_app r (repL_one hr))
theorem Trn.start {L : Addr} {eb : β → D} (w : Wd ms ps cs H0 H1) (nl : H1 L = none) : Trn ms ps cs H0 H1 L eb 0 [] [] (upd H1 L (.lst [])) :=
  ⟨w.cell nl, fun a o n h => by rw [upd_ne (ne_of_none h nl)]; exact h, repL_nil, Nat.le_refl _⟩
theorem Trn.done {L : Addr} {eb : β → D} {n : Nat} {ys : List β} {vs : List V} {H : Hp} (w : Wd ms ps cs H0 H1) (nl : H1 L = none) (t : Trn ms ps cs H0 H1 L eb n ys vs H) : Wd ms ps cs H0 H ∧ Keep ms H1 H ∧ rep ms H (.lst (ys.map eb)) (.ref L) := by
  refine ⟨t.w.froze w.pm fun c h => (w.cel c h).2.1, fun a o n h => t.k a o (fun z => ?_) h, ?_⟩
  · rcases List.mem_cons.mp z with z | z
    · rw [z, nl] at h
      cases h
    · exact n z
  · simp only [rep]
    exact ⟨L, vs, rfl, fun z => w.tr L z nl, (t.w.cel _ List.mem_cons_self).1, repL_weak t.r⟩

end

section
variable {α β : Type} {K : PySem.W.Frag} {ms : List Addr} {ps : List PEn} {cs : List (Addr × List V)} {H0 H1 : Hp} {g : TG} {tt : TT} {te : TE} {vl : List Nat} {σ : L2.St} {Qd : Hp → Prop}
theorem Trn.skip {L : Addr} {eb : β → D} {n : Nat} {ys : List β} {vs : List V} {H : Hp} (t : Trn ms ps cs H0 H1 L eb n ys vs H) : Trn ms ps cs H0 H1 L eb (n + 1) ys vs H := ⟨t.w, t.k, t.r, Nat.le_succ_of_le t.n⟩
end

section
variable {α S : Type} {K : PySem.W.Frag} {ms : List Addr} {ps : List PEn} {H0 H1 : Hp} {g : TG} {tb : TS} {D' : Ends} {σ : L2.St} {cs : S → List (Addr × List V)}
end

section
variable {K : PySem.W.Frag} {ms : List Addr} {H : Hp} {d : D} {u x y : V}
theorem repL_uncons {ds : List D} {vs : List V} (h : repL ms H (d :: ds) vs) : ∃ u us, vs = u :: us ∧ rep ms H d u ∧ repL ms H ds us := by
  simp only [repL] at h
  exact h
theorem repL_empty {vs : List V} (h : repL ms H [] vs) : vs = [] := by
  simp only [repL] at h
  exact h
theorem repL_strs {ns : List Str} {vs : List V} (h : repL ms H (ns.map fun n => D.v (.str n)) vs) : vs = ns.map V.str := by
  have e : (ns.map fun n => D.v (.str n)) = (ns.map V.str).map D.v := by rw [List.map_map]; rfl
  rw [e] at h
  exact repL_flat.mp h
theorem repL_bls {ns : List Bool} {vs : List V} (h : repL ms H (ns.map fun n => D.v (.bl n)) vs) : vs = ns.map V.bl := by
  have e : (ns.map fun n => D.v (.bl n)) = (ns.map V.bl).map D.v := by rw [List.map_map]; rfl
  rw [e] at h
  exact repL_flat.mp h
theorem rep_join {a : Str} {ys : List Str} {P : Str → List Str → Prop} (h : rep ms H (.lst (ys.map fun n => D.v (.str n))) x) (hz : (ys.map (·.length)).sum + ys.length * a.length ≤ 16777216) (k : P a ys) :
    ∃ a' p, ∃ ys : List Str, V.str a = .str a' ∧ [x] = [.ref p] ∧ (SqL K H p (ys.map V.str) ∨ SqT K H p (ys.map V.str)) ∧ (ys.map (·.length)).sum + ys.length * a'.length ≤ 16777216 ∧ P a' ys := by
  simp only [rep] at h
  obtain ⟨p, vs, e, _, hp, hr⟩ := h
  have ev := repL_strs hr
  subst ev e
  exact ⟨a, p, ys, rfl, rfl, .inl (.inl (.inl hp)), hz, k⟩
theorem rep_all {ys : List Bool} {P : List Bool → Prop} (h : rep ms H (.lst (ys.map fun n => D.v (.bl n))) x) (k : P ys) : ∃ (a : Addr) (bs : List Bool), [x] = [V.ref a] ∧ SqL K H a (bs.map V.bl) ∧ P bs := by
  simp only [rep] at h
  obtain ⟨p, vs, e, _, hp, hr⟩ := h
  have ev := repL_bls hr
  subst ev e
  exact ⟨p, ys, rfl, .inl (.inl hp), k⟩
mutual
def pyOf : D → PyData
  | .v .non => .none
  | .v (.bl b) => .bool b
  | .v (.int i) => .int i
  | .v (.str z) => .str z
  | .v _ => .none
  | .lst ds => .list (pyL ds)
  | .tup ds => .tuple (pyL ds)
  | .ins _ _ _ => .none
  | .dct _ _ => .none
  | .dcT _ _ => .none
def pyL : List D → List PyData
  | [] => []
  | d :: ds => pyOf d :: pyL ds
def plainD : D → Bool
  | .v .non => true
  | .v (.bl _) => true
  | .v (.int _) => true
  | .v (.str _) => true
  | .v _ => false
  | .lst ds => plainL ds
  | .tup ds => plainL ds
  | .ins _ _ _ => false
  | .dct _ _ => false
  | .dcT _ _ => false
def plainL : List D → Bool
  | [] => true
  | d :: ds => plainD d && plainL ds
end
mutual
theorem dp_of : ∀ (d : D) (u : V), plainD d = true → rep ms H d u → Dp K H u (pyOf d)
  | .v x, u, p, h => by
    have e := of_v h
    subst e
    cases u <;> simp only [pyOf, plainD] at p ⊢ <;> first | exact .non | exact .bl _ | exact .int _ | exact .str _ | cases p
  | .lst ds, u, p, h => by
    simp only [rep] at h
    obtain ⟨a, vs, e, _, hp, hr⟩ := h
    subst e
    simp only [pyOf, plainD] at p ⊢
    exact .lst (.inl (.inl hp)) (dpL_of ds vs p hr)
  | .tup ds, u, p, h => by
    simp only [rep] at h
    obtain ⟨a, vs, e, _, hp, hr⟩ := h
    subst e
    simp only [pyOf, plainD] at p ⊢
    exact .tup (.inl (.inl hp)) (dpL_of ds vs p hr)
  | .ins _ _ _, u, p, h => by
    simp only [plainD] at p
    cases p
  | .dct _ _, u, p, h => by
    simp only [plainD] at p
    cases p
  | .dcT _ _, u, p, h => by
    simp only [plainD] at p
    cases p
theorem dpL_of : ∀ (ds : List D) (vs : List V), plainL ds = true → repL ms H ds vs → DpAll K H vs (pyL ds)
  | [], vs, p, h => by
    have e := repL_empty h
    subst e
    simp only [pyL]
    exact .nil
  | d :: ds, vs, p, h => by
    obtain ⟨u, us, e, h1, h2⟩ := repL_uncons h
    subst e
    simp only [plainL, Bool.and_eq_true] at p
    simp only [pyL]
    exact .cons (dp_of d u p.1 h1) (dpL_of ds us p.2 h2)
end
theorem rep_eqD {d e : D} {Q : VK} (h1 : rep ms H d x) (h2 : rep ms H e y) (p1 : plainD d = true) (p2 : plainD e = true) (s1 : SeqAt.shaped (pyOf d) = true) (s2 : SeqAt.shaped (pyOf e) = true) (k : Q (.bl (PyData.eqv (pyOf d) (pyOf e))) H) : rEqD K x y H Q :=
  ⟨_, _, dp_of d x p1 h1, dp_of e y p2 h2, s1, s2, k⟩
theorem rep_neD {d e : D} {Q : VK} (h1 : rep ms H d x) (h2 : rep ms H e y) (p1 : plainD d = true) (p2 : plainD e = true) (s1 : SeqAt.shaped (pyOf d) = true) (s2 : SeqAt.shaped (pyOf e) = true) (k : Q (.bl (!PyData.eqv (pyOf d) (pyOf e))) H) : rNeD K x y H Q :=
  ⟨_, _, dp_of d x p1 h1, dp_of e y p2 h2, s1, s2, k⟩
end

section
variable {ms : List Addr} {H H' H1 : Hp} {d : D} {u : V} {l : Addr}
theorem Keep.trans (a : Keep ms H1 H) (b : Keep ms H H') : Keep ms H1 H' := fun x o n h => b x o n (a x o n h)
theorem Keep.new (k : Keep ms H1 H) : Keep (l :: ms) H1 H := fun x o n h => k x o (fun z => n (List.mem_cons_of_mem _ z)) h
theorem rep_new (nl : H l = none) (h : rep ms H d u) : rep (l :: ms) H d u := rep_map (fun p o n hp => ⟨fun z => by
  rcases List.mem_cons.mp z with z | z
  · exact ne_of_none hp nl z
  · exact n z, hp⟩) d u h
theorem repL_new {ds : List D} {us : List V} (nl : H l = none) (h : repL ms H ds us) : repL (l :: ms) H ds us := repL_map (fun p o n hp => ⟨fun z => by
  rcases List.mem_cons.mp z with z | z
  · exact ne_of_none hp nl z
  · exact n z, hp⟩) ds us h
end

def tMethK (C : Addr) (m : Str) (n : Nat) (gV : List V → List V → List V) (sp : Sp) (E : XK) (ta : TE) (tk : TA) : TE := fun σ H Q => ta σ H fun x H1 => ∃ a dx fs, x = .ref a ∧ H1 a = some (.ins C dx fs) ∧ fs.lookup m = none ∧
  tk σ H1 fun zs H2 => zs.length = n ∧ sp (gV [x] zs) H2 Q E
section
variable {X : Cx} {CX : CXT} {k : Nat} {f C : Addr} {fd : FuncData} {ps ks : List Str} {sp : Sp} {E : XK} {m : Str} {apos pos : Pos} {o : Expr} {kws : List Keyword} {ta : TE} {tk : TA} {g : List Value → List Value → List Value} {gV : List V → List V → List V}
theorem pe_methK0 {pl : Sem Bool} (he : PE X o ta) (c : Cls X.K C) (hm : Meth X.K C m f) (F : FnOk X.prog X.w X.K X.mg X.base CX k f fd ps sp) (hr : Room k X.A) (hb : KBn X.K fd ps 1 ks g gV) (hx : Passes CX X E) (hkw : PK X kws tk)
    (hall : (backToKw pos (keywordEach kws X.env)).all (·.1.isSome) = true := by rfl) (hks : (backToKw pos (keywordEach kws X.env)).filterMap (·.1) = ks := by rfl)
    (hpl : ((backTo pos (starEach [] X.env)).any (·.1) || (backToKw pos (keywordEach kws X.env)).any (·.1.isNone)) = false := by rfl)
    (ht : eval (.Call (.Attribute o m apos) [] kws pos) X.env = (do
      let ov ← eval o X.env
      standAt apos.atName
      let (f, first) ← holding [ov] (getMethod ov m pl)
      callWith pos f first (backTo pos (starEach [] X.env)) (backToKw pos (keywordEach kws X.env))) := by rfl) :
    PE X (.Call (.Attribute o m apos) [] kws pos) (tMethK C m ks.length gV sp E ta tk) := by
  refine ⟨fun pins s σ H Q I h => ?_⟩
  refine PySem.W.methodCall_KW (pl := pl) (thn (he.run pins s σ H _ I h) fun u s1 ⟨x, H1, I1, rx, a, dx, fs, ex, ea, l, q⟩ => ?_) ht
  subst ex
  obtain rfl : u = Value.ref a := rx
  refine getmeth_ok I1 ea c hm l ?_
  refine PySem.W.callWith_KW0 (first := [.ref a]) (h₀ := X.base) I.ok.mod.kin hm.kp hall ?_ hpl
  refine thn (hkw.run pos pins s1 σ H1 _ I1 q) fun ws s2 ⟨zs, H2, I2, rz, l2, q2⟩ => ⟨I2.kIn, ?_⟩
  rw [hks]
  exact run_fnN (us := [.ref a]) (vs := [.ref a]) F hr hb hx I2 (.cons rfl .nil) rz rfl l2 q2
end
end Rx
namespace Rx
open PySem PySem.Spec PyProof.Rows L2
theorem vals_getD : ∀ {zs : List V} {ws : List Value}, Vals zs ws → ∀ j : Nat, RelV (zs.getD j .non) (ws.getD j .none)
  | _, _, .nil, _ => rfl
  | _, _, .cons r _, 0 => r
  | _, _, .cons _ t, j + 1 => vals_getD t j
theorem tyes_of {σ : L2.St} {H : Hp} {A B : Hp → Prop} (h : A H) : tYes σ H fun b H3 => if b = true then A H3 else B H3 := by
  show (if true = true then A H else B H)
  rw [if_pos rfl]
  exact h
theorem Ret.keep {H H' : Hp} (e : Ret [] H H') {a : Addr} {o : HO} (h : H a = some o) : H' a = some o := e.kp a o (by simp) h
end Rx
namespace Rx
open PySem PySem.Spec PyProof.Rows L2
section
variable {X : Cx}
end

def rOwnEq (C : Addr) (sp : Sp) (E : XK) : R2 := fun x y H Q => ∃ a b dx dy fs gs, x = .ref a ∧ y = .ref b ∧ H a = some (.ins C dx fs) ∧ H b = some (.ins C dy gs) ∧ sp [x, y] H (fun v H' => ∃ r : Bool, v = .bl r ∧ Q v H') E
structure OwnEq (K : PySem.W.Frag) (C f : Addr) : Prop where
  hs : PySem.W.findIn K (.ref C) "__eq__" = some (some (.ref f))
  hf : PySem.W.isFn K (.ref f) = true
theorem op_eqOwn {X : Cx} {n : Nat} {CX : CXT} {C f : Addr} {fd : FuncData} {ps : List Str} {sp : Sp} {E : XK} (F : FnOk X.prog X.w X.K X.mg X.base CX n f fd ps sp) (hr : Room n X.A)
    (o : OwnEq X.K C f) (hb : Binds X.K fd ps []) (hx : Passes CX X E) : OpR X (compareOp .Eq) (rOwnEq C sp E) := by
  intro pins s σ H x y v u Q I rx ry d
  show wpAny (model X.prog X.w) X.A (richCompare .Eq v u) (EP X pins σ Q) X.xe s
  obtain ⟨a, b, dx, dy, fs, gs, rfl, rfl, ha, hb', hsp⟩ := d
  cases rx
  cases ry
  obtain ⟨mA, J, _⟩ := ins_get I.hok ha
  obtain ⟨mB, J', _⟩ := ins_get I.hok hb'
  obtain ⟨od, J, _⟩ := J.look
  obtain ⟨od', J', _⟩ := J'.look
  obtain ⟨m, hF⟩ := I.fr
  refine PySem.W.cmp_K (op := .Eq) (tb := .ref C) hr.units0 hF I.ok.mod.kin J J'.type (by simp [PySem.W.notFirst]) o.hs o.hf ?_
  have hl := F.len _ _ _ _ hsp
  have r2 : Vals [V.ref a, V.ref b] [Value.ref a, Value.ref b] := .cons rfl (.cons rfl .nil)
  refine wpAny_call (codeAny_mono (F.run X.A X.stack s H ⟨[.ref a, .ref b], []⟩ [.ref a, .ref b] [.ref a, .ref b] _ E hr I.env0 (by
    have := hb s [.ref a, .ref b] I.kIn (by simpa using hl)
    simpa using this) r2 hsp) fun r s' hq => ?_)
  cases r with
  | error e => exact hx pins σ H s e s' I hq
  | ok fl =>
    cases fl with
    | ret w =>
      obtain ⟨z, H', I', rz, ⟨r, ez, q⟩⟩ := I.after hq
      subst ez
      cases (show w = Value.bool r from rz)
      exact ⟨.bl r, H', I', rfl, q⟩
    | next => exact False.elim hq
    | brk => exact False.elim hq
    | cont => exact False.elim hq
section
variable {K : PySem.W.Frag} {ms : List Addr} {ps : List PEn} {cs : List (Addr × List V)} {H H0 H1 : Hp} {d : D} {u x y : V}
theorem rep_ins {C : Addr} {ns : List Str} {ds : List D} (h : rep ms H (.ins C ns ds) u) : ∃ p dx fs, u = .ref p ∧ H p = some (.ins C dx fs) := by
  simp only [rep] at h
  obtain ⟨p, dx, vs, e, _, hp, _⟩ := h
  exact ⟨p, dx, _, e, hp⟩
theorem rep_eqOwn {C : Addr} {ns ns' : List Str} {ds ds' : List D} {sp : Sp} {E : XK} {Q : VK} (h1 : rep ms H (.ins C ns ds) x) (h2 : rep ms H (.ins C ns' ds') y) (k : sp [x, y] H (fun v H' => ∃ r : Bool, v = .bl r ∧ Q v H') E) : rOwnEq C sp E x y H Q := by
  obtain ⟨p, dx, fs, e, hp⟩ := rep_ins h1
  obtain ⟨q, dy, gs, e', hq⟩ := rep_ins h2
  subst e e'
  exact ⟨p, q, dx, dy, fs, gs, rfl, rfl, hp, hq, k⟩
theorem rep_cat {α : Type} {xs ys : List α} {e : α → D} {Q : VK} (w : Wd ms ps cs H0 H) (h1 : rep ms H (.lst (xs.map e)) x) (h2 : rep ms H (.lst (ys.map e)) y) (hz : xs.length + ys.length ≤ sizeLine)
    (k : ∀ p H', Ret [] H H' → rep ms H' (.lst ((xs ++ ys).map e)) (.ref p) → Q (.ref p) H') : rCat x y H Q := by
  simp only [rep] at h1 h2
  obtain ⟨p, vs, rfl, np, hp, r1⟩ := h1
  obtain ⟨q, us, rfl, nq, hq, r2⟩ := h2
  have l1 := repL_len r1
  have l2 := repL_len r2
  rw [List.length_map] at l1 l2
  refine ⟨p, q, vs, us, rfl, rfl, hp, hq, by rw [← l1, ← l2]; exact hz, fun a na => ?_⟩
  have ee : Ret [] H (upd H a (.lst (vs ++ us))) := Ext.new na
  refine k a _ ee ?_
  simp only [rep]
  refine ⟨a, vs ++ us, rfl, fun z => w.tr a z na, upd_same, ?_⟩
  rw [List.map_append]
  exact repL_app (repL_ext ee r1) (repL_ext ee r2)
structure IsC (K : PySem.W.Frag) (C : Addr) : Prop where
  cl : Cls K C
  ha : PySem.W.findIn K (.ref C) "__class__" = some (some (.builtin "object.__class__"))
  hn : PySem.W.specialIn K (.builtin "object.__class__") "__get__" = some (some (.builtin "getset_descriptor.__get__"))
  tk : PySem.W.takesIn K (.builtin "object.__class__") = some true
  hm : PySem.W.mroIn K C (.type "object") = some true
theorem rep_isi {C : Addr} {ns : List Str} {ds : List D} {P : Bool → Prop} (h : rep ms H (.ins C ns ds) x) (c : IsC K C) (k : P true) :
    ∃ (x' c : V) (t u : Value) (b : Bool), [x, .ref C] = [x', c] ∧ ClsV c u ∧ TyX K H x' t ∧ PySem.W.kitOne K t u = some b ∧ P b := by
  obtain ⟨p, dx, fs, e, hp⟩ := rep_ins h
  subst e
  refine ⟨_, _, _, _, true, rfl, .own C, .base (.ins hp c.cl c.ha c.hn c.tk c.hm), ?_, k⟩
  simp [PySem.W.kitOne]
end
section
variable {β : Type} {K : PySem.W.Frag} {ms : List Addr} {ps : List PEn} {cs : List (Addr × List V)} {H0 H1 : Hp} {g : TG} {tt : TT} {te : TE} {vl : List Nat} {σ : L2.St} {Qd : Hp → Prop}
end
section
variable {M : Model} {prog : Program} {w : World} {A : Around} {E : Value → Shared → Prop} {s : Shared} {K : PySem.W.Frag} {x y C : Addr} {ox : Obj} {od : Option Obj}
end
structure OwnNe (K : PySem.W.Frag) (C : Addr) : Prop where
  hne : PySem.W.findIn K (.ref C) "__ne__" = some (some (.builtin "object.__ne__"))
  hm : PySem.W.mroIn K C (.type "object") = some true
mutual
def noL : D → Bool
  | .v _ => true
  | .lst _ => false
  | .tup ds => noLs ds
  | .ins _ _ ds => noLs ds
  | .dct _ ds => noLs ds
  | .dcT _ ds => noLs ds
def noLs : List D → Bool
  | [] => true
  | d :: ds => noL d && noLs ds
end
section
variable {ms : List Addr} {ps : List PEn} {cs : List (Addr × List V)} {H0 H H' : Hp} {L : Addr} {vs : List V}
mutual
theorem rep_lift0 (hL : H L = some (.lst vs)) : ∀ (d : D) (u : V), noL d = true → rep ms H d u → rep (L :: ms) H d u
  | .v x, u, _, h => by
    simp only [rep] at h ⊢
    exact h
  | .lst ds, u, n, h => by
    simp only [noL] at n
    cases n
  | .tup ds, u, n, h => by
    simp only [noL] at n
    simp only [rep] at h ⊢
    obtain ⟨p, us, e, np, hp, hl⟩ := h
    refine ⟨p, us, e, fun z => ?_, hp, repL_lift0 hL ds us n hl⟩
    rcases List.mem_cons.mp z with z | z
    · rw [z, hL] at hp
      cases hp
    · exact np z
  | .ins C ns ds, u, n, h => by
    simp only [noL] at n
    simp only [rep] at h ⊢
    obtain ⟨p, dx, us, e, np, hp, hn, hl⟩ := h
    refine ⟨p, dx, us, e, fun z => ?_, hp, hn, repL_lift0 hL ds us n hl⟩
    rcases List.mem_cons.mp z with z | z
    · rw [z, hL] at hp
      cases hp
    · exact np z
  | .dct ks ds, u, n, h => by
    simp only [noL] at n
    simp only [rep] at h ⊢
    obtain ⟨p, us, e, np, hp, hn, hl⟩ := h
    refine ⟨p, us, e, fun z => ?_, hp, hn, repL_lift0 hL ds us n hl⟩
    rcases List.mem_cons.mp z with z | z
    · rw [z, hL] at hp
      cases hp
    · exact np z
  | .dcT ks ds, u, n, h => by
    simp only [noL] at n
    simp only [rep] at h ⊢
    obtain ⟨p, us, e, np, hp, hn, hl⟩ := h
    refine ⟨p, us, e, fun z => ?_, hp, hn, repL_lift0 hL ds us n hl⟩
    rcases List.mem_cons.mp z with z | z
    · rw [z, hL] at hp
      cases hp
    · exact np z
theorem repL_lift0 (hL : H L = some (.lst vs)) : ∀ (ds : List D) (us : List V), noLs ds = true → repL ms H ds us → repL (L :: ms) H ds us
  | [], us, _, h => by
    simp only [repL] at h ⊢
    exact h
  | d :: ds, us, n, h => by
    simp only [noLs, Bool.and_eq_true] at n
    simp only [repL] at h ⊢
    obtain ⟨u, ws, e, h1, h2⟩ := h
    exact ⟨u, ws, e, rep_lift0 hL d u n.1 h1, repL_lift0 hL ds ws n.2 h2⟩
end
structure Mut (ms : List Addr) (ps : List PEn) (cs : List (Addr × List V)) (H0 H : Hp) (L : Addr) (ds : List D) : Prop where
  hp : L ∉ ad ps
  h0 : H0 L = none
  hc : ∀ c ∈ cs, c.1 ≠ L
  nm : L ∉ ms
  val : ∃ vs, H L = some (.lst vs) ∧ repL (L :: ms) H ds vs
variable {ds : List D} {d : D} {u : V}
end
section
variable {ms : List Addr} {ps : List PEn} {cs : List (Addr × List V)} {H0 H H1 H' : Hp} {L : Addr} {K : PySem.W.Frag} {x : V}
theorem keep_none {w : Wd ms ps cs H0 H} (nl : H L = none) (k : Keep ms H1 H) : H1 L = none := by
  have nL : L ∉ ms := fun z => w.tr L z nl
  cases q : H1 L with
  | none => rfl
  | some o =>
    have := k L o nL q
    rw [nl] at this
    cases this
theorem rep_ixN {α : Type} {e : α → D} {xs : List α} {i : Int} {y : α} {Q : VK} (h : rep ms H (.lst (xs.map e)) x) (hi : atI xs i = some y) (k : ∀ v, rep ms H (e y) v → Q v H) : rIxL K x (.int i) H Q := by
  simp only [rep] at h
  obtain ⟨p, vs, e', _, hp, hr⟩ := h
  have hl := repL_len hr
  rw [List.length_map] at hl
  unfold atI at hi
  cases hx : ixN xs.length i with
  | none =>
    rw [hx] at hi
    cases hi
  | some j =>
    rw [hx] at hi
    have hj : xs[j]? = some y := hi
    obtain ⟨v, hv, rv⟩ := repL_get (d := e y) (j := j) hr (by rw [List.getElem?_map, hj]; rfl)
    refine ⟨p, vs, i, v, e', rfl, .inl (.inl hp), ?_, k v rv⟩
    unfold atI
    rw [← hl, hx]
    exact hv
theorem rep_rg_mk {p : Addr} {a b : Int} (w : Wd ms ps cs H0 H) (np : H p = none) (e : Ret [] H H') (hp : H' p = some (.lst (rgV a b))) : rep ms H' (.lst ((rangeI a b).map fun n => D.v (.int n))) (.ref p) := by
  simp only [rep]
  refine ⟨p, rgV a b, rfl, fun z => w.tr p z np, hp, ?_⟩
  have e1 : (rangeI a b).map (fun n => D.v (.int n)) = (rgV a b).map D.v := by
    unfold rangeI rgV
    rw [List.map_map, List.map_map]
    rfl
  rw [e1]
  exact repL_flat.mpr rfl
end
theorem turn_long {P : Program} {w : World} {K : PySem.W.Frag} {tg : Expr} (it : Addr) (lo : Int) (n : Nat) : Turn P w K tg (Itr lo n) [it] it (fun i h => IsLongIter h it (lo + (i : Nat) * 1) ((n : Int) - (i : Nat)) 1) where
  mem := by simp
  obj := fun i h st b hb => by
    have e : b = it := by simpa using hb
    subst e
    exact ⟨_, st, fun v z => by
      have z' : Data.fields _ = Data.cell v := z
      cases z'⟩
  keep := fun i h h' st k => k it (by simp) _ st
  item := by
    intro X hP hw hK hc i pins s σ H E I hf st hg
    subst hP hw hK
    obtain ⟨f0, f1, f2, f3, f4, f5⟩ := hf it (by simp)
    have W := Walks.longrange (prog := X.prog) (w := X.w) (I.ok.hd hc) it lo 1 n
    refine W.item i s _ _ hg st fun v h' tk hv st' kk => ?_
    obtain ⟨t, rfl⟩ := hv
    have I1 : Inv X pins σ H { s with heap := h', toks := tk } := I.turned (fun b o hb e => kk b o (by simpa using hb) e) f0 f1 f3 f4 f5
    refine ⟨_, rfl, go_of (s := { s with heap := h', toks := tk }) (n := "longrange_iterator") st' rfl rfl (by decide) ⟨.int (lo + i), H, I1, ⟨t, ?_⟩, ⟨rfl, rfl⟩, st', fun b hb => (hf b hb).1⟩⟩
    rw [Int.mul_one]
  done := by
    intro X hP hw hK hc i pins s σ H E I hf st hg
    subst hP hw hK
    obtain ⟨f0, f1, f2, f3, f4, f5⟩ := hf it (by simp)
    exact wpAny_pyNext_long_end (I.ok.hd hc) st (by have : n ≤ i := hg; omega) fun h' eb => ⟨rfl, I.turned (t' := s.toks) (fun b o hb e => eb b o hb e) f0 f1 f3 f4 f5⟩
  self := fun _ _ _ _ _ st h => wpAny_pyIter_longiter st h
section
variable {X : Cx} {tg : Expr}
theorem range_itW {pins : List (Addr × Obj)} {σ : L2.St} {H : Hp} {s : Shared} {R : It → Hp → Prop} {E : Value → Shared → Prop} {lo hi : Int} {t u v : Tok} {tk : Nat} (I : Inv X pins σ H s)
    (q : R (Itr lo (hi - lo).toNat) H) : wpAny (model X.prog X.w) X.A (pyIter (.ref s.heap.objs.size)) (PIE X pins σ tg R) E { s with heap := s.heap.push { cls := .type "range", data := .fields #[.int lo t, .int hi u, .int 1 v] }, toks := tk } := by
  have I1 : Inv X pins σ H { s with heap := s.heap.push { cls := .type "range", data := .fields #[.int lo t, .int hi u, .int 1 v] }, toks := tk } := I.kept fun b o e => Heap.get?_push_of_some _ e
  have e1 : lo + ((0 : Nat) : Int) * 1 = lo := by simp
  have e2 : (((hi - lo).toNat : Nat) : Int) - ((0 : Nat) : Int) = Builtin.Range.rangeSize lo hi 1 := by rw [rangeSize_one]; split <;> omega
  cases hs : Builtin.Range.small lo hi 1 with
  | true =>
    refine wpAny_pyIter_range (IsRange.new ..) hs ?_
    refine ⟨(s.heap.push { cls := .type "range", data := .fields #[.int lo t, .int hi u, .int 1 v] }).objs.size, [(s.heap.push { cls := .type "range", data := .fields #[.int lo t, .int hi u, .int 1 v] }).objs.size], _, _, H, rfl,
      I1.kept (t' := tk) fun b o e => Heap.get?_push_of_some _ e, turn_range _ lo (hi - lo).toNat, ?_, fun b hb => ?_, q⟩
    · show IsRangeIter _ _ (lo + ((0 : Nat) : Int) * 1) ((((hi - lo).toNat : Nat) : Int) - ((0 : Nat) : Int)) 1
      rw [e1, e2]
      exact Heap.get?_push_size _ rfl
    · have e : b = (s.heap.push { cls := .type "range", data := .fields #[.int lo t, .int hi u, .int 1 v] }).objs.size := by simpa using hb
      subst e
      exact I1.fpOk (Nat.le_refl _) (I1.hok.fresh (Nat.le_refl _))
  | false =>
    refine wpAny_pyIter_longrange (IsRange.new ..) hs ?_
    refine ⟨(s.heap.push { cls := .type "range", data := .fields #[.int lo t, .int hi u, .int 1 v] }).objs.size, [(s.heap.push { cls := .type "range", data := .fields #[.int lo t, .int hi u, .int 1 v] }).objs.size], _, _, H, rfl,
      I1.kept (t' := tk) fun b o e => Heap.get?_push_of_some _ e, turn_long _ lo (hi - lo).toNat, ?_, fun b hb => ?_, q⟩
    · show IsLongIter _ _ (lo + ((0 : Nat) : Int) * 1) ((((hi - lo).toNat : Nat) : Int) - ((0 : Nat) : Int)) 1
      rw [e1, e2]
      exact Heap.get?_push_size _ rfl
    · have e : b = (s.heap.push { cls := .type "range", data := .fields #[.int lo t, .int hi u, .int 1 v] }).objs.size := by simpa using hb
      subst e
      exact I1.fpOk (Nat.le_refl _) (I1.hok.fresh (Nat.le_refl _))
def iRngW1 (ta : TA) : TI := fun σ H R => ta σ H fun vs H1 => ∃ j : Int, vs = [.int j] ∧ R (Itr 0 j.toNat) H1
theorem pi_rangeW1 {a : Expr} {ta : TA} {p pos : Pos} (hg : Gl X "range") (hm : X.mg "range" = none) (ha : PA X [a] ta) (hs : starEach [a] X.env = [(false, eval a X.env)] := by rfl) : PI X tg (.Call (.Name "range" p) [a] [] pos) (iRngW1 ta) := by
  refine ⟨fun pins s σ H R I h => ?_⟩
  refine Call_ (ld_blt I hg hm boot_range (PyProof.Rows.callWith_type1 (thn (ha.run pos pins s σ H _ I h) fun us s1 ⟨vs, H1, I1, r1, q1⟩ => ?_) hs rfl))
  obtain ⟨j, e, q⟩ := q1
  subst e
  cases r1 with
  | cons r rr =>
    cases rr
    obtain ⟨t, rfl⟩ := r
    exact call_range_1 (range_itW I1 (by simpa using q))
end
end Rx
namespace Rx
open PySem PySem.Spec PyProof.Rows L2
structure FnG (P : Program) (w : World) (K : PySem.W.Frag) (mg : Str → Option Value) (base : Heap) (k : Nat) (f : Addr) (fd : FuncData) (ps : List Str) (sp : Sp) : Prop where
  len : ∀ vs H Q E, sp vs H Q E → vs.length = ps.length
  run : ∀ (A : Around), A.guards = some [] → Room k A → ∀ (outer : List Env) (s : Shared) (H : Hp) (args : Args) (us : List Value) (vs : List V) (Q : VK) (E : XK), Env0 P w K mg base A outer s H → BindsTo s fd args (ps.zip us) → Vals vs us → sp vs H Q E →
    codeAny (model P w) A (.call (.ref f) args) (CR CX0 outer P w H s Q E) s
theorem FnG.of {P : Program} {w : World} {K : PySem.W.Frag} {mg : Str → Option Value} {base : Heap} {k : Nat} {f : Addr} {fd : FuncData} {ps : List Str} {sp : Sp} (F : FnOk P w K mg base CX0 k f fd ps sp) : FnG P w K mg base k f fd ps sp :=
  ⟨F.len, fun A _ hr outer s H args us vs Q E => F.run A outer s H args us vs Q E hr⟩
section
variable {X : Cx} {k : Nat} {f : Addr} {fd : FuncData} {ps : List Str} {sp : Sp} {x : Str} {e : Expr} {es : List Expr} {p pos : Pos} {t : TA}
theorem runG {pins : List (Addr × Obj)} {σ : L2.St} {H : Hp} {s : Shared} {Q : VK} {us : List Value} {vs : List V} (F : FnG X.prog X.w X.K X.mg X.base k f fd ps sp) (hg : X.A.guards = some []) (hr : Room k X.A) (hb : Binds X.K fd ps [])
    (I : Inv X pins σ H s) (r : Vals vs us) (h : sp vs H Q E0) : wpAny (model X.prog X.w) X.A (call (.ref f) us) (EP X pins σ Q) X.xe s := by
  have hl : us.length = ps.length := r.length.symm.trans (F.len _ _ _ _ h)
  have bt := hb s us I.kIn (by rw [List.append_nil]; exact hl)
  rw [List.append_nil] at bt
  refine wpAny_call (codeAny_mono (F.run X.A hg hr X.stack s H ⟨us, []⟩ us vs Q E0 I.env0 bt r h) fun out s' hq => ?_)
  rcases out with err | fl
  · exact pass0 pins σ H s err s' I hq
  · rcases fl with _ | _ | _ | u
    all_goals first | exact I.after hq | exact hq.elim
theorem pe_callG (F : FnG X.prog X.w X.K X.mg X.base k f fd ps sp) (gu : X.A.guards = some []) (hr : Room k X.A) (hg : Gl X x) (hm : X.mg x = some (.ref f)) (hk : PySem.W.keepIn X.K (.ref f) = true) (hb : Binds X.K fd ps []) (ha : PA X (e :: es) t)
    (hdb : (x == ("__debug__" : Str)) = false := by decide) (he : starEach (e :: es) X.env = (false, eval e X.env) :: starEach es X.env := by rfl) (hpl : (backTo pos (starEach es X.env)).any (·.1) = false := by rfl) :
    PE X (.Call (.Name x p) (e :: es) [] pos) (tCall sp [] E0 t) :=
  ⟨fun pins s σ H Q I h => wpAny_Call_Name_kw (ld_glob I hg hm (PySem.W.callWith_K (h₀ := X.base) I.ok.mod.kin hk (thn (ha.run pos pins s σ H _ I h) fun us s1 ⟨vs, H1, I1, r, q⟩ => ⟨I1.kIn, runG F gu hr hb I1 r (by have q' : sp (vs ++ []) H1 Q E0 := q; rwa [List.append_nil] at q')⟩) he hpl) hdb)⟩
end
section
variable {P : Program} {w : World} {K : PySem.W.Frag} {mg : Str → Option Value} {base : Heap}
theorem okG {x qual : Str} {st : Stmt} {f : Addr} {fd : FuncData} {N ps : List Str} {k : Nat} {sp : Sp} (F : Fun K x qual st f fd) (S : FnScope N ps (defScope st)) (len : ∀ vs H Q E, sp vs H Q E → vs.length = ps.length)
    (hbody : ∀ (cdv : Value) (A : Around) (outer : List Env) (s : Shared) (H : Hp) (vs : List V) (Q : VK) (E : XK), A.guards = some [] → Room k (A.deeper (envOfC qual (defScope st) s.heap.objs.size f cdv)) → sp vs H Q E →
      ∃ t, PSs (cxOf CX0 P w K mg base N qual (defScope st) f cdv A outer s H E).nox (defBody st) t ∧ t { nx := fun _ H' => Q .non H', rt := Q } (start N vs) H) : FnG P w K mg base (k + 1) f fd ps sp := by
  obtain ⟨oc, od, kV, doc, pm, an, cdv, ct, osl, rfl, lk, hcd⟩ := F.ex
  refine ⟨len, fun A gu hr outer s H args us vs Q E en bt rv hs => ?_⟩
  have inK : K.In s.heap := en.mod.kin.keeps fun b o h => (en.bs b o h).1
  have names : ∀ y ∈ ps.zip us, (defScope st).names.lookup y.1 = some .local ∨ ((defScope st).names.lookup y.1 = some .cell ∧ ((cellsFrom (s.heap.objs.size + 1) (defScope st).names []).lookup y.1).isSome = true) := by
    rintro ⟨n, v⟩ hy
    exact (S.par n (List.of_mem_zip hy).1).imp id fun q => ⟨q, PySem.W.cellsFrom_some _ _ _ (.inl q)⟩
  refine codeAny_call_function hr.depth (inK _ _ lk) rfl S.co S.gen rfl (PySem.W.codeRec_of inK hcd) (bt _ _ _ _ (wpAny_newFunctionEnv_cells S.kind names fun env he s1 inner => ?_))
  subst he
  refine ⟨(en.mod.nolimit.keeps fun b o h => (en.bs b o h).1).keeps inner.toInCall.keep, codeAny_func ?_⟩
  obtain ⟨t, ht, hq⟩ := hbody cdv A outer s H vs Q E gu (hr.deeper _) hs
  have start0 : Inv (cxOf CX0 P w K mg base N qual (defScope st) f cdv A outer s H E) [] (start N vs) H s1 := inv_start S hr.hd en (len _ _ _ _ hs) rv inner
  have leave : ∀ {σ' : L2.St} {H' : Hp} {v : V} {u : Value} {s' : Shared}, Inv (cxOf CX0 P w K mg base N qual (defScope st) f cdv A outer s H E) [] σ' H' s' → RelV v u → Q v H' → CE outer P w H s Q u s' :=
    fun {σ' H' v u s'} J r q => ⟨v, H', J.os, J.bare, J.base, J.hok, r, q⟩
  refine wpAny_mono (ht.nox.run [] s1 (start N vs) H _ start0 hq) (fun fl s' hs' => ?_) fun _ _ h => h
  rcases fl with _ | _ | _ | u
  · obtain ⟨σ', H', J, q⟩ := hs'
    exact leave (v := V.non) (u := Value.none) J rfl q
  · obtain ⟨_, _, _, q⟩ := hs'
    exact q.elim
  · obtain ⟨_, _, _, q⟩ := hs'
    exact q.elim
  · obtain ⟨v, σ', H', J, r, q⟩ := hs'
    exact leave J r q
end
section
variable {P : Program} {w : World} {K : PySem.W.Frag} {mg mb : Str → Option Value} {k : Nat} {fa a : Addr} {fd : FuncData} {x : Str} {sp : Sp} {s1 : Shared} {vs : List Value} {ns : List Int}
abbrev EndG (h : Heap) (os : OsState) (r : Result) (s' : Shared) : Prop := r = .ok (.ret (.bool true)) ∧ OldK h s'.heap ∧ s'.os = os ∧ AllBare s'.gens
theorem callG_at (inK : K.In s1.heap) (top : s1.heap.Ns mainGlobals mg) (bl : s1.heap.Ns builtinsNs mb) (blb : ∀ x : Str, x ≠ "__name__" → mb x = bootBuiltins x) (nl : s1.heap.NoLimit) (ng : s1.gens = #[])
    (obj : s1.heap.get? a = some { cls := .type "list", data := .seq vs.toArray }) (hr : Room k callerA) (F : ∀ base : Heap, K.In base → base.Ns mainGlobals mg → FnG P w K mg base k fa fd [x] sp) (bind : ∀ (s : Shared) (u : Value), BindsTo s fd ⟨[u], []⟩ [(x, u)])
    {H : Hp} (only : Only H) (ok : HOk P w H s1.heap) (at_a : ∀ b, H b ≠ none → b = a) (own : H a ≠ none → K.lookup a = none) (q : sp [.ref a] H (fun v _ => v = .bl true) E0) :
    codeAny (model P w) callerA (.call (.ref fa) ⟨[.ref a], []⟩) (EndG s1.heap s1.os) s1 := by
  have told : ∀ b, H b = none ∨ b = a := fun b => (Classical.em (H b = none)).imp id (at_a b)
  have keepN : ∀ {b : Addr} {m : Str → Option Value}, s1.heap.Ns b m → (hidT s1.heap H).Ns b m := fun {b m} ⟨o, es, ep, e, d, r⟩ => ⟨o, es, ep, hidT_get e ((told b).elim id fun z => by
    subst z
    rw [obj] at e
    cases e
    cases (show Data.seq vs.toArray _ = Data.dict es ep from d)), d, r⟩
  have keepK : K.In (hidT s1.heap H) := fun b o e => hidT_get (inK b o e) ((told b).elim id fun z => by
    subst z
    exact Classical.byContradiction fun n => by
      rw [own n] at e
      cases e)
  have md : Mod K mg (hidT s1.heap H) := ⟨keepK, keepN top, ⟨mb, keepN bl, blb⟩, nl.imp fun _ h => ⟨keepN h.1, h.2⟩⟩
  have en : Env0 P w K mg (hidT s1.heap H) callerA [] s1 H := ⟨rfl, md, fun b o e => of_hidT e, Nat.le_of_eq (hidT_size _ _), trivial, fun b hb => (List.not_mem_nil hb).elim, ok, .of_eq ng⟩
  refine codeAny_mono ((F _ keepK (keepN top)).run callerA rfl hr [] s1 H ⟨[.ref a], []⟩ [.ref a] [.ref a] _ _ en (bind s1 (.ref a)) (.cons rfl .nil) q) fun r s' h => ?_
  rcases r with e | fl
  · exact (show False from h).elim
  · rcases fl with _ | _ | _ | u
    · exact (show False from h).elim
    · exact (show False from h).elim
    · exact (show False from h).elim
    · obtain ⟨v, H', os, bare, un, ok', rv, qv⟩ := h
      cases (show v = .bl true from qv)
      cases (show u = Value.bool true from rv)
      refine ⟨rfl, OldK.of_keep fun b o e => ?_, os, bare⟩
      rcases only b with z | ⟨ob, xs, z⟩
      · exact un.keep b o e z (List.not_mem_nil) (List.not_mem_nil)
      · have e1 := (ok b _ z).1
        have e2 := (ok' b _ (un.frzs b ob _ z)).1
        exact (Option.some.inj (e.symm.trans e1)) ▸ e2
theorem callG (inK : K.In s1.heap) (top : s1.heap.Ns mainGlobals mg) (bl : s1.heap.Ns builtinsNs mb) (blb : ∀ x : Str, x ≠ "__name__" → mb x = bootBuiltins x) (nl : s1.heap.NoLimit) (ng : s1.gens = #[])
    (obj : s1.heap.get? a = some { cls := .type "list", data := .seq vs.toArray }) (its0 : IntsAre vs ns) (small : ns.length ≤ sizeLine) (hr : Room k callerA) (F : ∀ base : Heap, K.In base → base.Ns mainGlobals mg → FnG P w K mg base k fa fd [x] sp)
    (bind : ∀ (s : Shared) (u : Value), BindsTo s fd ⟨[u], []⟩ [(x, u)]) (q : ∀ H : Hp, Only H → SqL K H a (ns.map V.int) → sp [.ref a] H (fun v _ => v = .bl true) E0) :
    codeAny (model P w) callerA (.call (.ref fa) ⟨[.ref a], []⟩) (EndG s1.heap s1.os) s1 := by
  have rv := vals_ints its0
  have lv := its0.length
  cases hk : K.lookup a with
  | some o =>
    have e := inK a o hk
    rw [obj] at e
    cases e
    have sq : SqL K (fun _ => none) a (ns.map V.int) := .inr ⟨_, vs.toArray, _, hk, rfl, rfl, rfl, by rw [List.size_toArray, lv]; exact small, by simpa using rv⟩
    exact callG_at inK top bl blb nl ng obj hr F bind (H := fun _ => none) (fun _ => .inl rfl) (fun b u z => nomatch (show (none : Option HO) = some u from z)) (fun b z => absurd rfl z) (fun z => absurd rfl z) (q _ (fun _ => .inl rfl) sq)
  | none =>
    generalize hH : (fun b => if b = a then some (HO.frz { cls := .type "list", data := .seq vs.toArray } (.lst (ns.map V.int))) else none : Hp) = H
    have here : H a = some (.frz { cls := .type "list", data := .seq vs.toArray } (.lst (ns.map V.int))) := by rw [← hH]; exact if_pos rfl
    have else_ : ∀ b, b ≠ a → H b = none := fun b n => by rw [← hH]; exact if_neg n
    have only : Only H := fun b => (Classical.em (b = a)).elim (fun e => .inr ⟨{ cls := .type "list", data := .seq vs.toArray }, ns.map V.int, by rw [e]; exact here⟩) fun n => .inl (else_ b n)
    refine callG_at inK top bl blb nl ng obj hr F bind only (fun b u z => ?_) (fun b z => Classical.byContradiction fun n => z (else_ b n)) (fun _ => hk) (q _ only (.inl (.inr ⟨_, here⟩)))
    by_cases e : b = a
    · subst e
      rw [here] at z
      cases z
      exact ⟨obj, by rw [List.length_map]; exact small, vs, _, rv, obj⟩
    · rw [else_ b e] at z
      cases z
end
def rReprD (K : PySem.W.Frag) : List V → Hp → VK → Prop := fun xs H Q => ∃ (a : Addr) (d : PyData), xs = [.ref a] ∧ Dp K H (.ref a) d ∧ d.showable = true ∧ d.hasDict = false ∧ d.depth ≤ 60 ∧ d.shown.length ≤ sizeLine ∧ Q (.str d.shown) H
theorem call_reprD {X : Cx} {k : Nat} (gu : X.A.guards = some []) (hr : Room k X.A) : CallR X (.builtin "repr") (rReprD X.K) := by
  intro pins s σ H xs us Q I r h
  obtain ⟨a, d, rfl, dp, sh, nd, dep, len, q⟩ := h
  obtain ⟨u, rfl, ru⟩ := r.one
  cases ru
  obtain ⟨as, rd⟩ := Dp.reads I d _ _ dp rfl
  have un := hr.un
  refine repr_of_reads' (h₀ := s.heap) rd sh (fun z => by rw [nd] at z; cases z) gu (by omega) (fun _ _ h => h) (fun h' u tk keep => ?_) len
  exact ⟨.str d.shown, H, I.kept keep, ⟨u, rfl⟩, q⟩
def rReprA (K : PySem.W.Frag) : List V → Hp → VK → Prop := fun xs H Q => ∃ (x : V) (d : PyData), xs = [x] ∧ Dp K H x d ∧ d.showable = true ∧ d.hasDict = false ∧ d.depth ≤ 60 ∧ d.shown.length ≤ sizeLine ∧ Q (.str d.shown) H
theorem call_reprA {X : Cx} {k : Nat} (gu : X.A.guards = some []) (hr : Room k X.A) : CallR X (.builtin "repr") (rReprA X.K) := by
  intro pins s σ H xs us Q I r h
  obtain ⟨x, d, rfl, dp, sh, nd, dep, len, q⟩ := h
  have big : ∀ a, x = .ref a → wpAny (model X.prog X.w) X.A (call (.builtin "repr") us) (EP X pins σ Q) X.xe s := fun a e => by
    subst e
    exact call_reprD gu hr pins s σ H _ us Q I r ⟨a, d, rfl, dp, sh, nd, dep, len, q⟩
  cases dp with
  | non =>
    obtain ⟨u, rfl, ru⟩ := r.one
    cases (show u = Value.none from ru)
    exact P.repr_of_none ⟨.str PyData.none.shown, H, I.tok _, ⟨_, rfl⟩, q⟩
  | bl b =>
    obtain ⟨u, rfl, ru⟩ := r.one
    cases (show u = Value.bool b from ru)
    exact P.repr_of_bool ⟨.str (PyData.bool b).shown, H, I.tok _, ⟨_, rfl⟩, q⟩
  | int i =>
    obtain ⟨u, rfl, t, rfl⟩ := r.one
    exact P.repr_of_int (of_decide_eq_true sh) ⟨.str (PyData.int i).shown, H, I.tok _, ⟨_, rfl⟩, q⟩
  | str z =>
    obtain ⟨u, rfl, t, rfl⟩ := r.one
    exact P.repr_of_str ⟨.str (PyData.str z).shown, H, I.tok _, ⟨_, rfl⟩, q⟩ len
  | lst _ _ => exact big _ rfl
  | tup _ _ => exact big _ rfl
section
variable {K : PySem.W.Frag} {ms : List Addr} {H : Hp} {d : D} {x : V}
theorem rep_repr {P : PyData → Prop} (h : rep ms H d x) (p : plainD d = true) (sh : (pyOf d).showable = true) (nd : (pyOf d).hasDict = false) (dep : (pyOf d).depth ≤ 60) (len : (pyOf d).shown.length ≤ sizeLine) (q : P (pyOf d)) :
    ∃ (x' : V) (d : PyData), [x] = [x'] ∧ Dp K H x' d ∧ d.showable = true ∧ d.hasDict = false ∧ d.depth ≤ 60 ∧ d.shown.length ≤ sizeLine ∧ P d :=
  ⟨x, _, rfl, dp_of (K := K) d x p h, sh, nd, dep, len, q⟩
end
section
variable {β : Type} {K : PySem.W.Frag} {ms : List Addr} {ps : List PEn} {cs : List (Addr × List V)} {H0 H1 : Hp} {g : TG} {tt : TT} {te : TE} {vl : List Nat} {σ : L2.St} {Qd : Hp → Prop}
variable {x : V} {H : Hp}
end
def rOwnText (C : Addr) (sp : Sp) (E : XK) : List V → Hp → VK → Prop := fun xs H Q => ∃ (x : V) (a dx : Addr) (fs : List (Str × V)), xs = [x] ∧ x = .ref a ∧ H a = some (.ins C dx fs) ∧ sp [x] H (fun v H' => ∃ z : Str, v = .str z ∧ Q v H') E
structure OwnText (K : PySem.W.Frag) (C : Addr) (name : Str) (f : Addr) : Prop where
  hs : PySem.W.findIn K (.ref C) name = some (some (.ref f))
  hf : PySem.W.isFn K (.ref f) = true
section
variable {X : Cx} {n : Nat} {CX : CXT} {C f : Addr} {fd : FuncData} {ps : List Str} {sp : Sp} {E : XK}
end
theorem rep_ownText {ms : List Addr} {H : Hp} {C : Addr} {ns : List Str} {ds : List D} {u : V} {P : V → Prop} (h : rep ms H (.ins C ns ds) u) (k : P u) :
    ∃ (x : V) (a dx : Addr) (fs : List (Str × V)), [u] = [x] ∧ x = .ref a ∧ H a = some (.ins C dx fs) ∧ P x := by
  obtain ⟨p, dx, fs, e, hp⟩ := rep_ins h
  exact ⟨u, p, dx, fs, rfl, e, hp, k⟩
end Rx
namespace Rx
open PySem PySem.Spec PyProof.Rows L2
section
variable {K : PySem.W.Frag} {ms : List Addr} {ps : List PEn} {cs : List (Addr × List V)} {H0 H H1 H' : Hp} {x : V} {ds : List D}
theorem wd_none {p : Addr} (w : Wd ms ps cs H0 H) (np : H p = none) : H0 p = none := by
  cases q : H0 p with
  | none => rfl
  | some o => exact absurd np (w.grow p (by rw [q]; exact fun z => nomatch z))
theorem rep_listL {P : List V → Prop} (h : rep ms H (.lst ds) x) (k : ∀ ys, repL ms H ds ys → P ys) :
    ∃ p ys, [x] = [.ref p] ∧ (SqL K H p ys ∨ SqT K H p ys) ∧ P ys := by
  simp only [rep] at h
  obtain ⟨p, vs, rfl, _, hp, hr⟩ := h
  exact ⟨p, vs, rfl, .inl (.inl (.inl hp)), k vs hr⟩
mutual
theorem rep_noL {L : Addr} {vs vs' : List V} (hL : H L = some (.lst vs)) : ∀ (d : D) (u : V), noL d = true → rep ms H d u → rep ms (upd H L (.lst vs')) d u
  | .v x, u, _, h => by
    simp only [rep] at h ⊢
    exact h
  | .lst ds, u, n, h => by
    simp only [noL] at n
    cases n
  | .tup ds, u, n, h => by
    simp only [noL] at n
    simp only [rep] at h ⊢
    obtain ⟨p, us, e, np, hp, hl⟩ := h
    refine ⟨p, us, e, np, ?_, repL_noL hL ds us n hl⟩
    rw [upd_ne (fun z => by rw [z, hL] at hp; cases hp)]
    exact hp
  | .ins C ns ds, u, n, h => by
    simp only [noL] at n
    simp only [rep] at h ⊢
    obtain ⟨p, dx, us, e, np, hp, hn, hl⟩ := h
    refine ⟨p, dx, us, e, np, ?_, hn, repL_noL hL ds us n hl⟩
    rw [upd_ne (fun z => by rw [z, hL] at hp; cases hp)]
    exact hp
  | .dct ks ds, u, n, h => by
    simp only [noL] at n
    simp only [rep] at h ⊢
    obtain ⟨p, us, e, np, hp, hn, hl⟩ := h
    refine ⟨p, us, e, np, ?_, hn, repL_noL hL ds us n hl⟩
    rw [upd_ne (fun z => by rw [z, hL] at hp; cases hp)]
    exact hp
  | .dcT ks ds, u, n, h => by
    simp only [noL] at n
    simp only [rep] at h ⊢
    obtain ⟨p, us, e, np, hp, hn, hl⟩ := h
    refine ⟨p, us, e, np, ?_, hn, repL_noL hL ds us n hl⟩
    rw [upd_ne (fun z => by rw [z, hL] at hp; cases hp)]
    exact hp
theorem repL_noL {L : Addr} {vs vs' : List V} (hL : H L = some (.lst vs)) : ∀ (ds : List D) (us : List V), noLs ds = true → repL ms H ds us → repL ms (upd H L (.lst vs')) ds us
  | [], us, _, h => by
    simp only [repL] at h ⊢
    exact h
  | d :: ds, us, n, h => by
    simp only [noLs, Bool.and_eq_true] at n
    simp only [repL] at h ⊢
    obtain ⟨u, ws, e, h1, h2⟩ := h
    exact ⟨u, ws, e, rep_noL hL d u n.1 h1, repL_noL hL ds ws n.2 h2⟩
end
end

section
variable {X : Cx} {K : PySem.W.Frag}
theorem ix_listK (hK : X.K = K) : IxR X (rIxL K) := by
  subst hK
  exact ix_list
theorem ix_tupK (hK : X.K = K) : IxR X (rIxT K) := by
  subst hK
  exact ix_tup
end
end Rx
namespace Rx
open PySem PySem.Spec PyProof.Rows L2
section
variable {K : PySem.W.Frag} {ms ms' : List Addr} {ps : List PEn} {H0 H H' H1 : Hp} {L L' : Addr} {d d' : D} {ds : List D} {u x : V} {vs : List V}
def valO (ms : List Addr) (H : Hp) (L : Addr) : D → Prop
  | .lst ds => ∃ vs, H L = some (.lst vs) ∧ repL ms H ds vs
  | .dct ks ds => ∃ vs, H L = some (.dK (ks.zip vs)) ∧ ks.length = vs.length ∧ repL ms H ds vs
  | .dcT ks ds => ∃ vs, H L = some (.dT (ks.zip vs)) ∧ ks.length = vs.length ∧ repL ms H ds vs
  | _ => False
theorem valO_map (f : ∀ p o, p ∉ ms → H p = some o → p ∉ ms' ∧ H' p = some o) (g : ∀ o, H L = some o → H' L = some o) : ∀ d : D, valO ms H L d → valO ms' H' L d
  | .lst ds, ⟨vs, h1, h2⟩ => ⟨vs, g _ h1, repL_map f ds vs h2⟩
  | .dct ks ds, ⟨vs, h1, h2, h3⟩ => ⟨vs, g _ h1, h2, repL_map f ds vs h3⟩
  | .dcT ks ds, ⟨vs, h1, h2, h3⟩ => ⟨vs, g _ h1, h2, repL_map f ds vs h3⟩
  | .v _, h => h
  | .tup _, h => h
  | .ins _ _ _, h => h
structure MutO (ms : List Addr) (ps : List PEn) (H0 H : Hp) (L : Addr) (d : D) : Prop where
  im : L ∈ ms
  hp : L ∉ ad ps
  h0 : H0 L = none
  val : valO ms H L d
theorem MutO.some (m : MutO ms ps H0 H L d) : ∃ o, H L = some o := by
  have h := m.val
  cases d with
  | lst ds => exact ⟨_, h.choose_spec.1⟩
  | dct ks ds => exact ⟨_, h.choose_spec.1⟩
  | dcT ks ds => exact ⟨_, h.choose_spec.1⟩
  | v _ => exact h.elim
  | tup _ => exact h.elim
  | ins _ _ _ => exact h.elim
theorem mo_ret (w : Wd ms ps [] H0 H) (e : Ret ps H H') (m : MutO ms ps H0 H L d) : MutO ms ps H0 H' L d :=
  ⟨m.im, m.hp, m.h0, valO_map (fun p o n hp => ⟨n, e.kp p o (fun z => n (w.pm p z)) hp⟩) (fun o h => e.kp L o m.hp h) d m.val⟩
theorem mo_ext (e : Ret [] H H') (m : MutO ms ps H0 H L d) : MutO ms ps H0 H' L d :=
  ⟨m.im, m.hp, m.h0, valO_map (fun p o n hp => ⟨n, e.kp p o (by simp) hp⟩) (fun o h => e.kp L o (by simp) h) d m.val⟩
theorem mo_ne (nl : H L = none) (m : MutO ms ps H0 H L' d) : L' ≠ L := fun z => by
  obtain ⟨o, h⟩ := m.some
  rw [z, nl] at h
  cases h
theorem mo_cell {o : HO} (nl : H L = none) (m : MutO ms ps H0 H L' d) : MutO (L :: ms) ps H0 (upd H L o) L' d :=
  ⟨List.mem_cons_of_mem _ m.im, m.hp, m.h0, valO_map (fun p o n hp => ⟨fun z => by
    rcases List.mem_cons.mp z with z | z
    · exact ne_of_none hp nl z
    · exact n z, by rw [upd_ne (ne_of_none hp nl)]; exact hp⟩) (fun o h => by rw [upd_ne (mo_ne nl m)]; exact h) d m.val⟩
theorem mo_put {o : HO} (lm : L ∈ ms) (ne : L' ≠ L) (m : MutO ms ps H0 H L' d) : MutO ms ps H0 (upd H L o) L' d :=
  ⟨m.im, m.hp, m.h0, valO_map (fun p o n hp => ⟨n, by rw [upd_ne (fun z => n (by rw [z]; exact lm))]; exact hp⟩) (fun o h => by rw [upd_ne ne]; exact h) d m.val⟩
theorem mo_sub (s : ∀ a ∈ ms', a ∈ ms) (i : L ∈ ms') (m : MutO ms ps H0 H L d) : MutO ms' ps H0 H L d :=
  ⟨i, m.hp, m.h0, valO_map (fun p o n hp => ⟨fun z => n (s p z), hp⟩) (fun o h => h) d m.val⟩
theorem rep_sub (s : ∀ a ∈ ms', a ∈ ms) (h : rep ms H d u) : rep ms' H d u := rep_map (fun p o n hp => ⟨fun z => n (s p z), hp⟩) d u h
theorem wd_sub (s : ∀ a ∈ ms', a ∈ ms) (hp : ∀ a ∈ ad ps, a ∈ ms') (w : Wd ms ps [] H0 H) : Wd ms' ps [] H0 H :=
  ⟨w.kp, w.grow, fun m h => w.tr m (s m h), w.pot, hp, fun _ h => absurd h List.not_mem_nil⟩
theorem keep_sub (h : ∀ a ∈ ms, a ∈ ms' ∨ H1 a = none) (k : Keep ms H1 H) : Keep ms' H1 H := fun a o n e => k a o (fun z => by
  rcases h a z with z | z
  · exact n z
  · rw [z] at e
    cases e) e
theorem mo_rep (n : L ∉ ms') (s : ∀ a ∈ ms', a ∈ ms) (m : MutO ms ps H0 H L d) : rep ms' H d (.ref L) := by
  have h := m.val
  cases d with
  | lst ds =>
    obtain ⟨vs, h1, h2⟩ := h
    simp only [rep]
    exact ⟨L, vs, rfl, n, h1, repL_map (fun p o n hp => ⟨fun z => n (s p z), hp⟩) ds vs h2⟩
  | dct ks ds =>
    obtain ⟨vs, h1, h2, h3⟩ := h
    simp only [rep]
    exact ⟨L, vs, rfl, n, h1, h2, repL_map (fun p o n hp => ⟨fun z => n (s p z), hp⟩) ds vs h3⟩
  | dcT ks ds =>
    obtain ⟨vs, h1, h2, h3⟩ := h
    simp only [rep]
    exact ⟨L, vs, rfl, n, h1, h2, repL_map (fun p o n hp => ⟨fun z => n (s p z), hp⟩) ds vs h3⟩
  | v _ => exact h.elim
  | tup _ => exact h.elim
  | ins _ _ _ => exact h.elim
theorem wd_cell {o : HO} (w : Wd ms ps [] H0 H) (nl : H L = none) : Wd (L :: ms) ps [] H0 (upd H L o) := by
  have w1 := w.ret0 (Ext.new (o := o) nl)
  refine ⟨w1.kp, w1.grow, fun m h => ?_, w1.pot, fun a h => List.mem_cons_of_mem _ (w.pm a h), fun _ h => absurd h List.not_mem_nil⟩
  rcases List.mem_cons.mp h with rfl | h
  · rw [upd_same]
    exact fun z => nomatch z
  · exact w1.tr m h
theorem pot_new (w : Wd ms ps [] H0 H) (nl : H L = none) : L ∉ ad ps := fun z => by
  obtain ⟨p, hp, e2⟩ := List.mem_map.mp z
  exact ent_some (w.pot p hp) (by rw [e2]; exact nl)
theorem nm_new (w : Wd ms ps [] H0 H) (nl : H L = none) : L ∉ ms := fun z => w.tr L z nl
theorem mo_newL (w : Wd ms ps [] H0 H) (nl : H L = none) (r : repL ms H ds vs) : MutO (L :: ms) ps H0 (upd H L (.lst vs)) L (.lst ds) :=
  ⟨List.mem_cons_self, pot_new w nl, wd_none w nl, vs, upd_same, repL_map (fun p o n hp => ⟨fun z => by
    rcases List.mem_cons.mp z with z | z
    · exact ne_of_none hp nl z
    · exact n z, by rw [upd_ne (ne_of_none hp nl)]; exact hp⟩) _ _ r⟩
theorem mo_nc {c : Addr} {q : Str} (m : MutO ms ps H0 H L d) (h : H L = some (LamX.CodeO c q)) : False := by
  have v := m.val
  cases d with
  | lst ds =>
    obtain ⟨vs, e, _⟩ := v
    rw [h] at e
    cases e
  | dct ks ds =>
    obtain ⟨vs, e, _⟩ := v
    rw [h] at e
    cases e
  | dcT ks ds =>
    obtain ⟨vs, e, _⟩ := v
    rw [h] at e
    cases e
  | v _ => exact v
  | tup _ => exact v
  | ins _ _ _ => exact v
theorem wd_put {o : HO} (w : Wd ms ps [] H0 H) (m : MutO ms ps H0 H L d) : Wd ms ps [] H0 (upd H L o) := by
  refine ⟨fun a o' n h => ?_, fun a h => ?_, fun a h => ?_, fun a h => ?_, w.pm, fun _ h => absurd h List.not_mem_nil⟩
  · rw [upd_ne (ne_of_none h m.h0)]
    exact w.kp a o' n h
  · by_cases e : a = L
    · rw [e, upd_same]
      exact fun z => nomatch z
    · rw [upd_ne e]
      exact w.grow a h
  · by_cases e : a = L
    · rw [e, upd_same]
      exact fun z => nomatch z
    · rw [upd_ne e]
      exact w.tr a h
  · refine ent_stay (w.pot a h) (fun o ho => by rw [upd_ne (fun z => m.hp (by rw [← z]; exact mem_ad h))]; exact ho) fun c q hc => ?_
    rw [upd_ne (fun z => mo_nc m (by rw [← z]; exact hc))]
    exact hc
theorem mo_setL (m : MutO ms ps H0 H L d) (r : repL ms H ds vs) : MutO ms ps H0 (upd H L (.lst vs)) L (.lst ds) :=
  ⟨m.im, m.hp, m.h0, vs, upd_same, repL_put m.im r⟩
theorem mo_appU {P : Addr → List V → V → Prop} (m : MutO ms ps H0 H L (.lst ds)) (hl : ds.length < 16777216) (k : ∀ vs, repL ms H ds vs → P L vs u) :
    ∃ (l : Addr) (xs : List V) (y : V), V.ref L = .ref l ∧ [u] = [y] ∧ H l = some (.lst xs) ∧ xs.length < sizeLine ∧ P l xs y := by
  obtain ⟨vs, h1, h2⟩ := m.val
  refine ⟨L, vs, u, rfl, rfl, h1, ?_, k vs h2⟩
  rw [← repL_len h2, sizeLine_eq]
  exact hl
theorem mo_tyL (m : MutO ms ps H0 H L (.lst ds)) : tyV K "list" (.ref L) H := by
  obtain ⟨vs, h1, h2⟩ := m.val
  exact .inl ⟨rfl, vs, .inl (.inl h1)⟩
theorem mo_end {n : Nat} {Nx : Hp → Prop} (m : MutO ms ps H0 H L (.lst ds)) (hn : n < 100000) (hy : ds.length ≤ n) (h : ∀ vs, repL ms H ds vs → Nx (upd H L (.lst (vs ++ [u])))) :
    ∃ acc, H L = some (.lst acc) ∧ acc.length < sizeLine ∧ Nx (upd H L (.lst (acc ++ [u]))) := by
  obtain ⟨vs, h1, h2⟩ := m.val
  refine ⟨vs, h1, ?_, h vs h2⟩
  have q := repL_len h2
  have e : sizeLine = 16777216 := sizeLine_eq
  omega
theorem repL_snoc {α : Type} {e : α → D} {xs : List α} {y : α} (r : repL ms H (xs.map e) vs) (h : rep ms H (e y) u) : repL ms H ((xs ++ [y]).map e) (vs ++ [u]) := by
  rw [List.map_append]
  exact repL_app r (repL_one h)
end

section
variable {α S : Type} {K : PySem.W.Frag} {H1 : Hp} {g : TG} {tb : TS} {D' : Ends} {σ : L2.St}
theorem for_rangeG {lo hi : Int} {N : Nat} {body : Int → S → (S → Prop) → Prop} {KM : S → Prop} (SI : S → L2.St → Hp → Prop) (s0 : S) (hN : N = (hi - lo).toNat) (hM : forC body (rangeI lo hi) s0 KM) (h0 : SI s0 σ H1)
    (hs : ∀ (x : Int) (s : S) (k : S → Prop) (σ : L2.St) (H : Hp), SI s σ H → body x s k → ∀ Nx : L2.St → Hp → Prop, (∀ s' σ' H', k s' → SI s' σ' H' → Nx σ' H') →
      g (.int x) σ H fun σ2 H2 => tb { D' with nx := Nx, ct := Nx, bk := D'.nx } σ2 H2)
    (hd : ∀ s σ H, KM s → SI s σ H → D'.nx σ H) :
    ∃ W : Nat → Nat → L2.St → Hp → Prop, (∃ m, W 0 m σ H1) ∧ ∀ i m σ H, W i m σ H →
      ((Itr lo N).stop i H ∧ D'.nx σ H) ∨ ((Itr lo N).go i H ∧ ∃ Nx : L2.St → Hp → Prop, (∀ σ' H', Nx σ' H' → ∃ m', m' < m ∧ W (i + 1) m' σ' H') ∧ ∀ x H', (Itr lo N).yld i H x H' → g x σ H' fun σ2 H2 => tb { D' with nx := Nx, ct := Nx, bk := D'.nx } σ2 H2) := by
  subst hN
  refine for_range (lo := lo) (n := (hi - lo).toNat) (D := D') (fun i σ H => ∃ s, SI s σ H ∧ forC body ((rangeI lo hi).drop i) s KM) ⟨s0, h0, hM⟩ (fun i σ H hi' ⟨s, si, q⟩ => ?_) (fun σ H ⟨s, si, q⟩ => ?_)
  · rw [drop_cons' (rangeI_get hi')] at q
    exact hs _ s _ σ H si q _ fun s' σ' H' hk si2 => ⟨s', si2, hk⟩
  · rw [List.drop_of_length_le (by rw [rangeI_len]; exact Nat.le_refl _)] at q
    exact hd s σ H q si
theorem for_listG {items : List α} {e : α → D} {ms : List Addr} {a : Addr} {xs : List V} {body : α → S → (S → Prop) → Prop} {KM : S → Prop} (SI : S → L2.St → Hp → Prop) (s0 : S) (an : a ∉ ms) (ha : H1 a = some (.lst xs)) (hx : repL ms H1 (items.map e) xs)
    (kp : ∀ s σ H, SI s σ H → Keep ms H1 H) (hM : forC body items s0 KM) (h0 : SI s0 σ H1)
    (hs : ∀ (x : α) (u : V) (s : S) (k : S → Prop) (σ : L2.St) (H : Hp), SI s σ H → rep ms H (e x) u → body x s k → ∀ Nx : L2.St → Hp → Prop, (∀ s' σ' H', k s' → SI s' σ' H' → Nx σ' H') →
      g u σ H fun σ2 H2 => tb { D' with nx := Nx, ct := Nx, bk := D'.nx } σ2 H2)
    (hd : ∀ s σ H, KM s → SI s σ H → D'.nx σ H) :
    ∃ W : Nat → Nat → L2.St → Hp → Prop, (∃ m, W 0 m σ H1) ∧ ∀ i m σ H, W i m σ H →
      ((Itl K a).stop i H ∧ D'.nx σ H) ∨ ((Itl K a).go i H ∧ ∃ Nx : L2.St → Hp → Prop, (∀ σ' H', Nx σ' H' → ∃ m', m' < m ∧ W (i + 1) m' σ' H') ∧ ∀ x H', (Itl K a).yld i H x H' → g x σ H' fun σ2 H2 => tb { D' with nx := Nx, ct := Nx, bk := D'.nx } σ2 H2) := by
  have hl : items.length = xs.length := by
    have := repL_len hx
    rwa [List.length_map] at this
  refine for_list (xs := xs) (D := D') (fun i σ H => ∃ s, SI s σ H ∧ forC body (items.drop i) s KM) ⟨s0, h0, hM⟩ (fun i σ H _ ⟨s, si, _⟩ => .inl (.inl (kp s σ H si a _ an ha))) (fun i x σ H hx' ⟨s, si, q⟩ => ?_) (fun σ H ⟨s, si, q⟩ => ?_)
  · have hi : i < xs.length := (List.getElem?_eq_some_iff.mp hx').1
    have hit : items[i]? = some (items[i]'(by omega)) := List.getElem?_eq_getElem (by omega)
    rw [drop_cons' hit] at q
    obtain ⟨v, hv, rv⟩ := repL_get (repL_keep (kp s σ H si) hx) (j := i) (d := e (items[i]'(by omega))) (by rw [List.getElem?_map, hit]; rfl)
    rw [hx'] at hv
    have ev : x = v := Option.some.inj hv
    subst ev
    exact hs _ x s _ σ H si rv q _ fun s' σ' H' hk si2 => ⟨s', si2, hk⟩
  · rw [List.drop_of_length_le (by omega)] at q
    exact hd s σ H q si
end

section
variable {α β : Type} {K : PySem.W.Frag} {H1 H2 : Hp} {g : TG} {tt : TT} {te : TE} {vl : List Nat} {σ : L2.St} {Qd : Hp → Prop} {L : Addr}
abbrev Turn (g : TG) (tt : TT) (te : TE) (vl : List Nat) (σ : L2.St) (L : Addr) (u : V) (H : Hp) (Nx : Hp → Prop) : Prop :=
  g u (wipe σ vl) H fun σ2 H2 => wipe σ2 vl = wipe σ vl ∧ tt σ2 H2 fun b H3 => if b = true then te σ2 H3 fun y H4 => ∃ acc, H4 L = some (.lst acc) ∧ acc.length < sizeLine ∧ Nx (upd H4 L (.lst (acc ++ [y]))) else Nx H3
theorem lc_rangeG {lo hi : Int} {N : Nat} {body : Int → (β → Prop) → Prop} {KM : List β → Prop} (SI : Nat → List β → Hp → Prop) (hN : N = (hi - lo).toNat) (hM : (rangeI lo hi).length < 100000 ∧ mapC body (rangeI lo hi) [] KM) (h0 : SI 0 [] (upd H1 L (.lst [])))
    (hs : ∀ (x : Int) (n : Nat) (ys : List β) (k : β → Prop) (H : Hp), n < 100000 → SI n ys H → body x k → ∀ Nx : Hp → Prop, (∀ y H', k y → SI (n + 1) (ys ++ [y]) H' → Nx H') → Turn g tt te vl σ L (.int x) H Nx)
    (hd : ∀ n ys H, KM ys → SI n ys H → Qd H) :
    ∃ W : Nat → Nat → Hp → Prop, (∃ m, W 0 m (upd H1 L (.lst []))) ∧ ∀ i m H, W i m H →
      ((Itr lo N).stop i H ∧ Qd H) ∨ ((Itr lo N).go i H ∧ ∃ Nx : Hp → Prop, (∀ H', Nx H' → ∃ m', m' < m ∧ W (i + 1) m' H') ∧ ∀ x H', (Itr lo N).yld i H x H' → g x (wipe σ vl) H' fun σ2 H2 => wipe σ2 vl = wipe σ vl ∧ tt σ2 H2 fun b H3 =>
        if b = true then te σ2 H3 fun y H4 => ∃ acc, H4 L = some (.lst acc) ∧ acc.length < sizeLine ∧ Nx (upd H4 L (.lst (acc ++ [y]))) else Nx H3) := by
  obtain ⟨hn, hM⟩ := hM
  subst hN
  rw [rangeI_len] at hn
  refine ⟨fun i m H => m = (hi - lo).toNat - i ∧ i ≤ (hi - lo).toNat ∧ ∃ ys, SI i ys H ∧ mapC body ((rangeI lo hi).drop i) ys KM, ⟨_, rfl, Nat.zero_le _, [], h0, hM⟩, ?_⟩
  rintro i m H ⟨rfl, hi', ys, T, q⟩
  by_cases hlt : i < (hi - lo).toNat
  · refine .inr ⟨hlt, fun H' => i + 1 ≤ (hi - lo).toNat ∧ ∃ ys, SI (i + 1) ys H' ∧ mapC body ((rangeI lo hi).drop (i + 1)) ys KM, fun H' p' => ⟨_, by omega, rfl, p'⟩, fun x H' y => ?_⟩
    obtain ⟨e, y⟩ := y
    subst e y
    rw [drop_cons' (rangeI_get hlt)] at q
    exact hs _ i ys _ H' (by omega) T q _ fun y H' k T' => ⟨hlt, _, T', k⟩
  · have e : i = (hi - lo).toNat := by omega
    refine .inl ⟨by rw [e]; exact Nat.le_refl _, ?_⟩
    rw [List.drop_of_length_le (by rw [rangeI_len]; omega)] at q
    exact hd _ ys H q T
theorem lc_listG {items : List α} {e : α → D} {ms : List Addr} {a : Addr} {xs : List V} {body : α → (β → Prop) → Prop} {KM : List β → Prop} (SI : Nat → List β → Hp → Prop) (an : a ∉ ms) (ha : H1 a = some (.lst xs)) (hx : repL ms H1 (items.map e) xs) (nl : H1 L = none)
    (kp : ∀ n ys H, SI n ys H → Keep (L :: ms) H1 H) (hM : items.length < 100000 ∧ mapC body items [] KM) (h0 : SI 0 [] (upd H1 L (.lst [])))
    (hs : ∀ (x : α) (u : V) (n : Nat) (ys : List β) (k : β → Prop) (H : Hp), n < 100000 → SI n ys H → rep (L :: ms) H (e x) u → body x k → ∀ Nx : Hp → Prop, (∀ y H', k y → SI (n + 1) (ys ++ [y]) H' → Nx H') → Turn g tt te vl σ L u H Nx)
    (hd : ∀ n ys H, KM ys → SI n ys H → Qd H) :
    ∃ W : Nat → Nat → Hp → Prop, (∃ m, W 0 m (upd H1 L (.lst []))) ∧ ∀ i m H, W i m H →
      ((Itl K a).stop i H ∧ Qd H) ∨ ((Itl K a).go i H ∧ ∃ Nx : Hp → Prop, (∀ H', Nx H' → ∃ m', m' < m ∧ W (i + 1) m' H') ∧ ∀ x H', (Itl K a).yld i H x H' → g x (wipe σ vl) H' fun σ2 H2 => wipe σ2 vl = wipe σ vl ∧ tt σ2 H2 fun b H3 =>
        if b = true then te σ2 H3 fun y H4 => ∃ acc, H4 L = some (.lst acc) ∧ acc.length < sizeLine ∧ Nx (upd H4 L (.lst (acc ++ [y]))) else Nx H3) := by
  obtain ⟨hn, hM⟩ := hM
  have hl : items.length = xs.length := by
    have := repL_len hx
    rwa [List.length_map] at this
  have aM : a ∉ L :: ms := fun z => by
    rcases List.mem_cons.mp z with z | z
    · exact ne_of_none ha nl z
    · exact an z
  have hx1 : repL (L :: ms) H1 (items.map e) xs := repL_new nl hx
  refine ⟨fun i m H => m = xs.length - i ∧ i ≤ xs.length ∧ ∃ ys, SI i ys H ∧ mapC body (items.drop i) ys KM, ⟨_, rfl, Nat.zero_le _, [], h0, hM⟩, ?_⟩
  rintro i m H ⟨rfl, hi', ys, T, q⟩
  have hA : H a = some (.lst xs) := kp i ys H T a _ aM ha
  by_cases hlt : i < xs.length
  · refine .inr ⟨⟨xs, xs[i], .inl (.inl hA), by simp [hlt]⟩, fun H' => i + 1 ≤ xs.length ∧ ∃ ys, SI (i + 1) ys H' ∧ mapC body (items.drop (i + 1)) ys KM, fun H' p' => ⟨_, by omega, rfl, p'⟩, fun x H' y => ?_⟩
    obtain ⟨e1, y⟩ := y
    subst e1
    have hxi := y xs (.inl (.inl hA))
    have hit : items[i]? = some (items[i]'(by omega)) := List.getElem?_eq_getElem (by omega)
    rw [drop_cons' hit] at q
    obtain ⟨v, hv, rv⟩ := repL_get (repL_keep (kp i ys H' T) hx1) (j := i) (d := e (items[i]'(by omega))) (by rw [List.getElem?_map, hit]; rfl)
    rw [hxi] at hv
    have ev : x = v := Option.some.inj hv
    subst ev
    exact hs _ x i ys _ H' (by omega) T rv q _ fun y H'' k T' => ⟨hlt, _, T', k⟩
  · refine .inl ⟨⟨xs, .inl (.inl hA), by omega⟩, ?_⟩
    rw [List.drop_of_length_le (by omega)] at q
    exact hd _ ys H q T
theorem lf_listG {items : List α} {e : α → D} {ms : List Addr} {a : Addr} {xs : List V} {body : α → (Option β → Prop) → Prop} {KM : List β → Prop} (SI : Nat → List β → Hp → Prop) (an : a ∉ ms) (ha : H1 a = some (.lst xs)) (hx : repL ms H1 (items.map e) xs) (nl : H1 L = none)
    (kp : ∀ n ys H, SI n ys H → Keep (L :: ms) H1 H) (hM : items.length < 100000 ∧ filC body items [] KM) (h0 : SI 0 [] (upd H1 L (.lst [])))
    (hs : ∀ (x : α) (u : V) (n : Nat) (ys : List β) (k : Option β → Prop) (H : Hp), n < 100000 → SI n ys H → rep (L :: ms) H (e x) u → body x k → ∀ Nx : Hp → Prop, (∀ y H', k (some y) → SI (n + 1) (ys ++ [y]) H' → Nx H') → (∀ H', k none → SI (n + 1) ys H' → Nx H') → Turn g tt te vl σ L u H Nx)
    (hd : ∀ n ys H, KM ys → SI n ys H → Qd H) :
    ∃ W : Nat → Nat → Hp → Prop, (∃ m, W 0 m (upd H1 L (.lst []))) ∧ ∀ i m H, W i m H →
      ((Itl K a).stop i H ∧ Qd H) ∨ ((Itl K a).go i H ∧ ∃ Nx : Hp → Prop, (∀ H', Nx H' → ∃ m', m' < m ∧ W (i + 1) m' H') ∧ ∀ x H', (Itl K a).yld i H x H' → g x (wipe σ vl) H' fun σ2 H2 => wipe σ2 vl = wipe σ vl ∧ tt σ2 H2 fun b H3 =>
        if b = true then te σ2 H3 fun y H4 => ∃ acc, H4 L = some (.lst acc) ∧ acc.length < sizeLine ∧ Nx (upd H4 L (.lst (acc ++ [y]))) else Nx H3) := by
  obtain ⟨hn, hM⟩ := hM
  have hl : items.length = xs.length := by
    have := repL_len hx
    rwa [List.length_map] at this
  have aM : a ∉ L :: ms := fun z => by
    rcases List.mem_cons.mp z with z | z
    · exact ne_of_none ha nl z
    · exact an z
  have hx1 : repL (L :: ms) H1 (items.map e) xs := repL_new nl hx
  refine ⟨fun i m H => m = xs.length - i ∧ i ≤ xs.length ∧ ∃ ys, SI i ys H ∧ filC body (items.drop i) ys KM, ⟨_, rfl, Nat.zero_le _, [], h0, hM⟩, ?_⟩
  rintro i m H ⟨rfl, hi', ys, T, q⟩
  have hA : H a = some (.lst xs) := kp i ys H T a _ aM ha
  by_cases hlt : i < xs.length
  · refine .inr ⟨⟨xs, xs[i], .inl (.inl hA), by simp [hlt]⟩, fun H' => i + 1 ≤ xs.length ∧ ∃ ys, SI (i + 1) ys H' ∧ filC body (items.drop (i + 1)) ys KM, fun H' p' => ⟨_, by omega, rfl, p'⟩, fun x H' y => ?_⟩
    obtain ⟨e1, y⟩ := y
    subst e1
    have hxi := y xs (.inl (.inl hA))
    have hit : items[i]? = some (items[i]'(by omega)) := List.getElem?_eq_getElem (by omega)
    rw [drop_cons' hit] at q
    obtain ⟨v, hv, rv⟩ := repL_get (repL_keep (kp i ys H' T) hx1) (j := i) (d := e (items[i]'(by omega))) (by rw [List.getElem?_map, hit]; rfl)
    rw [hxi] at hv
    have ev : x = v := Option.some.inj hv
    subst ev
    exact hs _ x i ys _ H' (by omega) T rv q _ (fun y H'' k T' => ⟨hlt, _, T', k⟩) fun H'' k T' => ⟨hlt, _, T', k⟩
  · refine .inl ⟨⟨xs, .inl (.inl hA), by omega⟩, ?_⟩
    rw [List.drop_of_length_le (by omega)] at q
    exact hd _ ys H q T
end
end Rx
namespace Rx
open PySem PySem.Spec PyProof.Rows L2
structure Drop (ms : List Addr) (L : Addr) (ms' : List Addr) : Prop where
  sub : ∀ a ∈ ms', a ∈ ms
  ex : ∀ a ∈ ms, a ∈ ms' ∨ a = L
theorem dr_here {L : Addr} {ms : List Addr} : Drop (L :: ms) L ms := ⟨fun _ h => List.mem_cons_of_mem _ h, fun a h => (List.mem_cons.mp h).elim .inr .inl⟩
theorem dr_cons {L x : Addr} {ms ms' : List Addr} (d : Drop ms L ms') : Drop (x :: ms) L (x :: ms') :=
  ⟨fun a h => (List.mem_cons.mp h).elim (fun e => by rw [e]; exact List.mem_cons_self) fun h => List.mem_cons_of_mem _ (d.sub a h), fun a h => (List.mem_cons.mp h).elim (fun e => .inl (by rw [e]; exact List.mem_cons_self)) fun h => (d.ex a h).imp (List.mem_cons_of_mem _) id⟩
theorem nm_cons {L x : Addr} {ms : List Addr} (ne : L ≠ x) (n : L ∉ ms) : L ∉ x :: ms := fun z => (List.mem_cons.mp z).elim ne n
section
variable {K : PySem.W.Frag} {ms ms' : List Addr} {ps : List PEn} {H0 H H' H1 : Hp} {L L' : Addr} {d d' : D} {ds : List D} {u x : V} {vs : List V}
theorem nm_dr (dr : Drop ms L ms') (n : L' ∉ ms) : L' ∉ ms' := fun z => n (dr.sub _ z)
theorem keep_dr (dr : Drop ms L ms') (n : H1 L = none) (k : Keep ms H1 H) : Keep ms' H1 H := fun a o na e => k a o (fun z => by
  rcases dr.ex a z with z | z
  · exact na z
  · rw [z, n] at e
    cases e) e
theorem wd_dr (dr : Drop ms L ms') (hp : L ∉ ad ps) (w : Wd ms ps [] H0 H) : Wd ms' ps [] H0 H := wd_sub dr.sub (fun a h => (dr.ex a (w.pm a h)).elim id fun e => absurd (by rw [← e]; exact h) hp) w
theorem rep_dr (dr : Drop ms L ms') (h : rep ms H d u) : rep ms' H d u := rep_sub dr.sub h
theorem mo_dr (dr : Drop ms L ms') (ne : L' ≠ L) (m : MutO ms ps H0 H L' d) : MutO ms' ps H0 H L' d := mo_sub dr.sub ((dr.ex _ m.im).elim id fun e => absurd e ne) m
theorem mo_rep_dr (dr : Drop ms L ms') (n : L ∉ ms') (m : MutO ms ps H0 H L d) : rep ms' H d (.ref L) := mo_rep n dr.sub m
mutual
def noM : D → Bool
  | .v _ => true
  | .lst _ => false
  | .tup ds => noMs ds
  | .ins _ _ ds => noMs ds
  | .dct _ _ => false
  | .dcT _ _ => false
def noMs : List D → Bool
  | [] => true
  | d :: ds => noM d && noMs ds
end
def isMo : Option HO → Prop
  | some (.lst _) => True
  | some (.dK _) => True
  | some (.dT _) => True
  | _ => False
theorem MutO.isMo (m : MutO ms ps H0 H L d) : isMo (H L) := by
  have h := m.val
  cases d with
  | lst ds =>
    rw [h.choose_spec.1]
    trivial
  | dct ks ds =>
    rw [h.choose_spec.1]
    trivial
  | dcT ks ds =>
    rw [h.choose_spec.1]
    trivial
  | v _ => exact h.elim
  | tup _ => exact h.elim
  | ins _ _ _ => exact h.elim
mutual
theorem rep_liftO (dr : Drop ms L ms') (hL : Rx.isMo (H L)) : ∀ (d : D) (u : V), noM d = true → rep ms' H d u → rep ms H d u
  | .v x, u, _, h => by
    simp only [rep] at h ⊢
    exact h
  | .lst ds, u, n, h => by
    simp only [noM] at n
    cases n
  | .dct _ ds, u, n, h => by
    simp only [noM] at n
    cases n
  | .dcT _ ds, u, n, h => by
    simp only [noM] at n
    cases n
  | .tup ds, u, n, h => by
    simp only [noM] at n
    simp only [rep] at h ⊢
    obtain ⟨p, us, e, np, hp, hl⟩ := h
    refine ⟨p, us, e, fun z => ?_, hp, repL_liftO dr hL ds us n hl⟩
    rcases dr.ex p z with z | z
    · exact np z
    · rw [← z, hp] at hL
      exact hL
  | .ins C ns ds, u, n, h => by
    simp only [noM] at n
    simp only [rep] at h ⊢
    obtain ⟨p, dx, us, e, np, hp, hn, hl⟩ := h
    refine ⟨p, dx, us, e, fun z => ?_, hp, hn, repL_liftO dr hL ds us n hl⟩
    rcases dr.ex p z with z | z
    · exact np z
    · rw [← z, hp] at hL
      exact hL
theorem repL_liftO (dr : Drop ms L ms') (hL : Rx.isMo (H L)) : ∀ (ds : List D) (us : List V), noMs ds = true → repL ms' H ds us → repL ms H ds us
  | [], us, _, h => by
    simp only [repL] at h ⊢
    exact h
  | d :: ds, us, n, h => by
    simp only [noMs, Bool.and_eq_true] at n
    simp only [repL] at h ⊢
    obtain ⟨u, ws, e, h1, h2⟩ := h
    exact ⟨u, ws, e, rep_liftO dr hL d u n.1 h1, repL_liftO dr hL ds ws n.2 h2⟩
end
theorem mo_len {α : Type} {e : α → D} {xs : List α} {P : Nat → Prop} (m : MutO ms ps H0 H L (.lst (xs.map e))) (k : P xs.length) : ∃ y n, [V.ref L] = [y] ∧ LenV K y H n ∧ P n := by
  obtain ⟨vs, hp, hr⟩ := m.val
  have hl := repL_len hr
  rw [List.length_map] at hl
  exact ⟨_, xs.length, rfl, .inl ⟨vs, .inl (.inl hp), hl⟩, k⟩
end
end Rx
namespace Rx
open PySem PySem.Spec PyProof.Rows L2
section
variable {K : PySem.W.Frag} {ms ms' : List Addr} {ps : List PEn} {H0 H H' H1 : Hp} {L L' : Addr} {d d' : D} {ds : List D} {u x : V} {vs : List V}
theorem repL_erase {α : Type} {e : α → D} : ∀ {xs : List α} {vs : List V} (k : Nat), repL ms H (xs.map e) vs → repL ms H ((xs.eraseIdx k).map e) (vs.eraseIdx k)
  | [], vs, k, h => by
    have ev : vs = [] := by
      simp only [List.map_nil, repL] at h
      exact h
    subst ev
    simpa using h
  | x :: xs, vs, 0, h => by
    simp only [List.map_cons, repL] at h
    obtain ⟨u, us, rfl, _, h2⟩ := h
    exact h2
  | x :: xs, vs, k + 1, h => by
    simp only [List.map_cons, repL] at h
    obtain ⟨u, us, rfl, h1, h2⟩ := h
    exact repL_cons h1 (repL_erase k h2)
theorem mo_popU {α : Type} {e : α → D} {xs : List α} {i : Int} {y : α} {P : Addr → List V → Nat → V → Prop} (m : MutO ms ps H0 H L (.lst (xs.map e))) (h0 : 0 ≤ i) (hi : xs[i.toNat]? = some y) (hb : i < 2 ^ 63) (k : ∀ vs v, repL ms H (xs.map e) vs → rep ms H (e y) v → P L vs i.toNat v) :
    ∃ (l : Addr) (xs : List V) (i' : Int) (k : Nat) (y : V), V.ref L = .ref l ∧ [V.int i] = [.int i'] ∧ H l = some (.lst xs) ∧ -(2 ^ 63) ≤ i' ∧ i' < 2 ^ 63 ∧ seqIndex? i' xs.length = some k ∧ xs[k]? = some y ∧ P l xs k y := by
  obtain ⟨vs, h1, h2⟩ := m.val
  have hl := repL_len h2
  rw [List.length_map] at hl
  obtain ⟨v, hv, rv⟩ := repL_get (d := e y) h2 (by rw [List.getElem?_map, hi]; rfl)
  have lt := (List.getElem?_eq_some_iff.mp hi).1
  refine ⟨L, vs, i, i.toNat, v, rfl, rfl, h1, by omega, hb, ?_, hv, k vs v h2 rv⟩
  unfold seqIndex?
  first
    | (simp only []; split <;> first | rfl | (exfalso; omega))
    | (rw [if_neg (by omega), if_pos (by omega)])
    | (simp; omega)
end
section
variable {α β S : Type} {K : PySem.W.Frag} {H1 H2 : Hp} {g : TG} {tt : TT} {te : TE} {vl : List Nat} {σ : L2.St} {Qd : Hp → Prop} {L : Addr}
end
end Rx
namespace Rx
open PySem PySem.Spec PyProof.Rows L2
section
variable {ms : List Addr} {H : Hp} {x y : V}
end
end Rx
namespace Rx
open PySem PySem.Spec PyProof.Rows L2
section
variable {K : PySem.W.Frag} {ms : List Addr} {H : Hp} {x y : V} {ds : List D} {vs : List V}
theorem rep_lsU {P : List V → Prop} (h : rep ms H (.lst ds) x) (k : ∀ vs, repL ms H ds vs → P vs) : ∃ a xs, x = .ref a ∧ SqL K H a xs ∧ P xs := by
  simp only [rep] at h
  obtain ⟨p, vs, rfl, np, hp, hr⟩ := h
  exact ⟨p, vs, rfl, .inl (.inl hp), k vs hr⟩
theorem repL_rev : ∀ {ds : List D} {vs : List V}, repL ms H ds vs → repL ms H ds.reverse vs.reverse
  | [], vs, h => by
    have e := repL_empty h
    subst e
    exact repL_nil
  | d :: ds, vs, h => by
    obtain ⟨u, us, rfl, h1, h2⟩ := repL_uncons h
    rw [List.reverse_cons, List.reverse_cons]
    exact repL_app (repL_rev h2) (repL_one h1)
theorem repL_revM {α : Type} {e : α → D} {xs : List α} (h : repL ms H (xs.map e) vs) : repL ms H (xs.reverse.map e) vs.reverse := by
  rw [List.map_reverse]
  exact repL_rev h
theorem repL_take : ∀ (n : Nat) {ds : List D} {vs : List V}, repL ms H ds vs → repL ms H (ds.take n) (vs.take n)
  | 0, _, _, _ => by
    rw [List.take_zero, List.take_zero]
    exact repL_nil
  | n + 1, [], vs, h => by
    have e := repL_empty h
    subst e
    exact repL_nil
  | n + 1, d :: ds, vs, h => by
    obtain ⟨u, us, rfl, h1, h2⟩ := repL_uncons h
    exact repL_cons h1 (repL_take n h2)
theorem repL_drop : ∀ (n : Nat) {ds : List D} {vs : List V}, repL ms H ds vs → repL ms H (ds.drop n) (vs.drop n)
  | 0, _, _, h => h
  | n + 1, [], vs, h => by
    have e := repL_empty h
    subst e
    exact repL_nil
  | n + 1, d :: ds, vs, h => by
    obtain ⟨u, us, rfl, h1, h2⟩ := repL_uncons h
    exact repL_drop n h2
def cutM {α : Type} (xs : List α) (lo hi : Option Int) : List α := (xs.drop (HT.sIx xs.length 0 lo)).take (HT.sIx xs.length xs.length hi - HT.sIx xs.length 0 lo)
theorem repL_cut {α : Type} {e : α → D} {xs : List α} {lo hi : Option Int} (h : repL ms H (xs.map e) vs) : repL ms H ((cutM xs lo hi).map e) (cutV vs lo hi) := by
  have hl := repL_len h
  rw [List.length_map] at hl
  unfold cutM cutV
  rw [List.map_take, List.map_drop, hl]
  exact repL_take _ (repL_drop _ h)
end
section
variable {α β S : Type} {K : PySem.W.Frag} {H1 : Hp} {g : TG} {tt : TT} {te : TE} {vl : List Nat} {σ : L2.St} {Qd : Hp → Prop} {L : Addr}
end
end Rx
namespace Rx
open PySem PySem.Spec PyProof.Rows L2
section
variable {X : Cx} {K : PySem.W.Frag}
theorem call_lenK (hK : X.K = K) : CallR X (.builtin "len") (fun xs H Q => ∃ x n, xs = [x] ∧ LenV K x H n ∧ Q (.int n) H) := by
  subst hK
  exact call_len
theorem call_isiK (hK : X.K = K) : CallR X (.builtin "isinstance") (rIsi K) := by
  subst hK
  exact call_isi
theorem sl_listK (hK : X.K = K) : SlR X (rSlL K) := by
  subst hK
  exact sl_list
theorem call_list_ofK (hK : X.K = K) : CallR X (.type "list") (fun xs H Q => ∃ p ys, xs = [.ref p] ∧ (SqL K H p ys ∨ SqT K H p ys) ∧ ∀ l, H l = none → Q (.ref l) (upd H l (.lst ys))) := by
  subst hK
  exact call_list_of
theorem cr_allK (hK : X.K = K) (hc : X.calm = true) : CallR X (.builtin "all") (rAll K) := by
  subst hK
  exact cr_all hc
theorem op_eqDK (hK : X.K = K) (hu : X.A.units + 64 < cLine) : OpR X (compareOp .Eq) (rEqD K) := by
  subst hK
  exact op_eqD hu
theorem op_neDK (hK : X.K = K) (hu : X.A.units + 64 < cLine) : OpR X (compareOp .NotEq) (rNeD K) := by
  subst hK
  exact op_neD hu
theorem call_reprAK {k : Nat} (hK : X.K = K) (gu : X.A.guards = some []) (hr : Room k X.A) : CallR X (.builtin "repr") (rReprA K) := by
  subst hK
  exact call_reprA gu hr
end
end Rx
namespace Rx
open PySem PySem.Spec PyProof.Rows L2
section
variable {X : Cx} {K : PySem.W.Frag} {T name id : String} {o e : Expr} {es : List Expr} {r : V → List V → Hp → VK → Prop} {to : TE} {t : TA} {apos cpos : Pos}
theorem pe_bmK (hK : X.K = K) (pa : PlainAttrs T) (slot : Slot T name id) (hty : typeOf (.builtin id) = pure (.type "method_descriptor")) (hm : MtR X id r) (ho : PE X o to) (ha : PA X (e :: es) t)
    (hbase : attributeBase o name X.env (eval o X.env) = eval o X.env := by rfl)
    (hfew : ((backTo cpos (starEach (e :: es) X.env)).all (fun x => !x.1) && (backToKw cpos (keywordEach [] X.env)).all (fun x => x.1.isSome)
      && decide ((e :: es).length + ([] : List Keyword).length + (if ([] : List Keyword).isEmpty then 0 else 1) < 30)) = true := by rfl)
    (hline : (apos.endLine == cpos.line) = true := by rfl) (hs : starEach (e :: es) X.env = (false, eval e X.env) :: starEach es X.env := by rfl) (hplain : (backTo cpos (starEach es X.env)).any (·.1) = false := by rfl) :
    PE X (.Call (.Attribute o name apos) (e :: es) [] cpos) (tBM K T r to t) := by
  subst hK
  exact pe_bm pa slot hty hm ho ha hbase hfew hline hs hplain
end
end Rx
namespace Rx
open PySem PySem.Spec PyProof.Rows L2
section
variable {M : Model} {s : Shared} {K : PySem.W.Frag} {C : Addr}
theorem looksT {v : Value} {T : String} (h : s.TypeIs v T) : PySem.W.Looks M s.heap (typeOf v) (.type T) := fun A Q E s' k q => wpAny_typeOf (by
  cases v with
  | ref a =>
    obtain ⟨o, e, c⟩ := h
    exact ⟨o, k _ _ e, c⟩
  | _ => exact h) q
theorem sub_non : PySem.W.subIn K (.type "NoneType") (.ref C) = some false := by
  show ((fastBuiltinMro "NoneType").map _) = _
  rw [show fastBuiltinMro "NoneType" = some [.type "NoneType", .type "object"] by decide +kernel]
  simp
theorem sub_bool : PySem.W.subIn K (.type "bool") (.ref C) = some false := by
  show ((fastBuiltinMro "bool").map _) = _
  rw [show fastBuiltinMro "bool" = some [.type "bool", .type "int", .type "object"] by decide +kernel]
  simp
theorem sub_int : PySem.W.subIn K (.type "int") (.ref C) = some false := by
  show ((fastBuiltinMro "int").map _) = _
  rw [show fastBuiltinMro "int" = some [.type "int", .type "object"] by decide +kernel]
  simp
theorem sub_str : PySem.W.subIn K (.type "str") (.ref C) = some false := by
  show ((fastBuiltinMro "str").map _) = _
  rw [show fastBuiltinMro "str" = some [.type "str", .type "object"] by decide +kernel]
  simp
theorem sub_list : PySem.W.subIn K (.type "list") (.ref C) = some false := by
  show ((fastBuiltinMro "list").map _) = _
  rw [show fastBuiltinMro "list" = some [.type "list", .type "object"] by decide +kernel]
  simp
theorem sub_tuple : PySem.W.subIn K (.type "tuple") (.ref C) = some false := by
  show ((fastBuiltinMro "tuple").map _) = _
  rw [show fastBuiltinMro "tuple" = some [.type "tuple", .type "object"] by decide +kernel]
  simp
theorem sub_dict : PySem.W.subIn K (.type "dict") (.ref C) = some false := by
  show ((fastBuiltinMro "dict").map _) = _
  rw [show fastBuiltinMro "dict" = some [.type "dict", .type "object"] by decide +kernel]
  simp
theorem sub_ty {H : Hp} {x : V} {T : String} (t : TyB K H x T) (nb : ∀ b, x ≠ .byt b) : PySem.W.subIn K (.type T) (.ref C) = some false := by
  cases t with
  | non => exact sub_non
  | bl b => exact sub_bool
  | int i => exact sub_int
  | str z => exact sub_str
  | byt b => exact absurd rfl (nb b)
  | lst h => exact sub_list
  | tup h => exact sub_tuple
  | dK h => exact sub_dict
end
section
variable {M : Model} {prog : Program} {w : World} {A : Around} {E : Value → Shared → Prop} {s : Shared} {K : PySem.W.Frag} {x C : Addr} {uy : Value} {ox : Obj} {od : Option Obj}
end
def noI : D → Bool
  | .v .non => true
  | .v (.bl _) => true
  | .v (.int _) => true
  | .v (.str _) => true
  | .v _ => false
  | .ins _ _ _ => false
  | .dcT _ _ => false
  | _ => true
theorem rep_TyB {K : PySem.W.Frag} {ms : List Addr} {H : Hp} {d : D} {u : V} (h : rep ms H d u) (n : noI d = true) : ∃ T, TyB K H u T ∧ (∀ b, u ≠ .byt b) ∧ TyX K H u (.type T) := by
  cases d with
  | v x =>
    obtain rfl := of_v h
    cases u <;> simp only [noI] at n
    · exact ⟨_, .non, (fun _ z => nomatch z), .base .non⟩
    · exact ⟨_, .bl _, (fun _ z => nomatch z), .base (.bl _)⟩
    · exact ⟨_, .int _, (fun _ z => nomatch z), .base (.int _)⟩
    · exact ⟨_, .str _, (fun _ z => nomatch z), .base (.str _)⟩
    all_goals cases n
  | lst ds =>
    simp only [rep] at h
    obtain ⟨p, vs, rfl, _, hp, _⟩ := h
    exact ⟨_, .lst (.inl (.inl hp)), (fun _ z => nomatch z), .base (.lst hp)⟩
  | tup ds =>
    simp only [rep] at h
    obtain ⟨p, vs, rfl, _, hp, _⟩ := h
    exact ⟨_, .tup (.inl (.inl hp)), (fun _ z => nomatch z), .base (.tup hp)⟩
  | dct ks ds =>
    simp only [rep] at h
    obtain ⟨p, vs, rfl, _, hp, _⟩ := h
    exact ⟨_, .dK hp, (fun _ z => nomatch z), .base (.dK hp)⟩
  | dcT _ _ => cases n
  | ins _ _ _ => cases n
def rOwnEqA (K : PySem.W.Frag) (C : Addr) (sp : Sp) (E : XK) : R2 := fun x y H Q => ∃ a dx fs T, x = .ref a ∧ H a = some (.ins C dx fs) ∧ TyB K H y T ∧ (∀ b, y ≠ .byt b) ∧ sp [x, y] H (fun v H' => ∃ r : Bool, v = .bl r ∧ Q v H') E
theorem op_eqOwnA {X : Cx} {K : PySem.W.Frag} (hK : X.K = K) {n : Nat} {CX : CXT} {C f : Addr} {fd : FuncData} {ps : List Str} {sp : Sp} {E : XK} (F : FnOk X.prog X.w X.K X.mg X.base CX n f fd ps sp) (hr : Room n X.A)
    (o : OwnEq X.K C f) (hb : Binds X.K fd ps []) (hx : Passes CX X E) : OpR X (compareOp .Eq) (rOwnEqA K C sp E) := by
  subst hK
  intro pins s σ H x y v u Q I rx ry d
  show wpAny (model X.prog X.w) X.A (richCompare .Eq v u) (EP X pins σ Q) X.xe s
  obtain ⟨a, dx, fs, T, rfl, ha, ty, nb, hsp⟩ := d
  cases rx
  obtain ⟨mA, J, _⟩ := ins_get I.hok ha
  obtain ⟨od, J, _⟩ := J.look
  obtain ⟨m, hF⟩ := I.fr
  refine PySem.W.cmp_K (op := .Eq) (tb := .type T) hr.units0 hF I.ok.mod.kin J (looksT (ty.is I ry)) (by simp [PySem.W.notFirst, sub_ty ty nb]) o.hs o.hf ?_
  have hl := F.len _ _ _ _ hsp
  have r2 : Vals [V.ref a, y] [Value.ref a, u] := .cons rfl (.cons ry .nil)
  refine wpAny_call (codeAny_mono (F.run X.A X.stack s H ⟨[.ref a, u], []⟩ [.ref a, u] [.ref a, y] _ E hr I.env0 (by
    have := hb s [.ref a, u] I.kIn (by simpa using hl)
    simpa using this) r2 hsp) fun r s' hq => ?_)
  cases r with
  | error e => exact hx pins σ H s e s' I hq
  | ok fl =>
    cases fl with
    | ret w =>
      obtain ⟨z, H', I', rz, ⟨r, ez, q⟩⟩ := I.after hq
      subst ez
      cases (show w = Value.bool r from rz)
      exact ⟨.bl r, H', I', rfl, q⟩
    | next => exact False.elim hq
    | brk => exact False.elim hq
    | cont => exact False.elim hq
section
variable {K : PySem.W.Frag} {ms : List Addr} {H : Hp} {x y : V} {d : D}
theorem rep_eqOwnA {C : Addr} {ns : List Str} {ds : List D} {sp : Sp} {E : XK} {Q : VK} (h1 : rep ms H (.ins C ns ds) x) (h2 : rep ms H d y) (n : noI d = true) (k : sp [x, y] H (fun v H' => ∃ r : Bool, v = .bl r ∧ Q v H') E) : rOwnEqA K C sp E x y H Q := by
  obtain ⟨p, dx, fs, e, hp⟩ := rep_ins h1
  obtain ⟨T, ty, nb, _⟩ := rep_TyB (K := K) h2 n
  subst e
  exact ⟨p, dx, fs, T, rfl, hp, ty, nb, k⟩
structure IsN (K : PySem.W.Frag) (C : Addr) : Prop where
  ic : PySem.W.isClsIn K C = true
  ty : PySem.W.typeIn K (.ref C) = some (.type "type")
theorem rep_isN2 {C : Addr} {P : Bool → Prop} (h : rep ms H d x) (n : noI d = true) (c : IsN K C) (k : P false) :
    ∃ (x' c : V) (t u : Value) (b : Bool), [x, .ref C] = [x', c] ∧ ClsV c u ∧ TyX K H x' t ∧ PySem.W.kitOne K t u = some b ∧ P b := by
  obtain ⟨T, ty, nb, tx⟩ := rep_TyB (K := K) h n
  refine ⟨x, _, .type T, .ref C, false, rfl, .own C, tx, ?_, k⟩
  · unfold PySem.W.kitOne
    rw [if_neg (by simp)]
    show (if ((PySem.W.clsIn K C).isSome && PySem.W.typeIn K (.ref C) == some (.type "type")) = true then PySem.W.subIn K (.type T) (.ref C) else none) = some false
    rw [sub_ty ty nb]
    have h1 := c.ic
    unfold PySem.W.isClsIn at h1
    rw [h1, c.ty]
    simp
end
end Rx
namespace Rx
open PySem PySem.Spec PyProof.Rows L2
theorem pe_never {X : Cx} {e : Expr} : PE X e (fun _ _ _ => False) := ⟨fun _ _ _ _ _ _ h => h.elim⟩
section
variable {ms : List Addr} {ps : List PEn} {cs : List (Addr × List V)} {H0 H H' : Hp} {u : V}
end
end Rx
namespace Rx
open PySem PySem.Spec PyProof.Rows L2
section
variable {κ : Type} [DecidableEq κ]
end
section
variable {K : PySem.W.Frag} {ms : List Addr} {ps : List PEn} {H0 H H' H1 : Hp} {L : Addr} {d : D} {ds : List D} {u x y : V} {vs : List V} {ks : List Key} {k : Key}
end
end Rx
namespace Rx
open PySem PySem.Spec PyProof.Rows L2
section
variable {X : Cx} {K : PySem.W.Frag}
end
end Rx
namespace Rx
theorem nin_of {α : Type} {ks : List α} {k : α} (h : (ks ++ [k]).Nodup) : k ∉ ks := fun z => by
  rw [List.nodup_append] at h
  exact h.2.2 k z k (by simp) rfl
end Rx
namespace Rx
open PySem PySem.Spec PyProof.Rows L2
section
variable {ms : List Addr} {ps : List PEn} {H0 H H' He : Hp} {p L C dx : Addr} {d : D} {u : V} {fs : List (Str × V)} {o : HO}
structure KpI (p : Addr) (He H : Hp) : Prop where
  kp : ∀ a o, a ≠ p → He a = some o → H a = some o
  gr : ∀ a, He a ≠ none → H a ≠ none
theorem ki_refl : KpI p H H := ⟨fun _ _ _ h => h, fun _ h => h⟩
theorem ki_wd (k : KpI p He H0) (w : Wd ms [] [] H0 H) : KpI p He H := ⟨fun a o n h => w.kp a o (by simp) (k.kp a o n h), fun a h => w.grow a (k.gr a h)⟩
theorem ki_put (k : KpI p He H0) (w : Wd ms [] [] H0 H) : KpI p He (upd H p o) := ⟨fun a o' n h => by
  rw [upd_ne n]
  exact (ki_wd k w).kp a o' n h, fun a h => by
  by_cases e : a = p
  · rw [e, upd_same]
    exact fun z => nomatch z
  · rw [upd_ne e]
    exact (ki_wd k w).gr a h⟩
theorem wd_at (w : Wd ms [] [] H0 H) : Wd ms [] [] (upd H p o) (upd H p o) := ⟨fun _ _ _ h => h, fun _ h => h, fun m h => by
  by_cases e : m = p
  · rw [e, upd_same]
    exact fun z => nomatch z
  · rw [upd_ne e]
    exact w.tr m h, fun _ h => absurd h List.not_mem_nil, fun _ h => absurd h List.not_mem_nil, fun _ h => absurd h List.not_mem_nil⟩
theorem at_put (hp : H p = some (.ins C dx fs)) (m : MutO ms ps H0 H L d) : upd H L o p = some (.ins C dx fs) := by
  rw [upd_ne (fun z => ?_)]
  · exact hp
  · have h := m.isMo
    rw [← z, hp] at h
    exact h
theorem putF_zip {f : Str} {v : V} : ∀ {ns : List Str} {us : List V}, ns.length = us.length → f ∉ ns → putF f v (ns.zip us) = (ns ++ [f]).zip (us ++ [v])
  | [], [], _, _ => by simp [putF]
  | [], _ :: _, h, _ => by simp at h
  | _ :: _, [], h, _ => by simp at h
  | n :: ns, u :: us, h, nn => by
    have e : ¬ n = f := fun z => nn (by rw [z]; exact List.mem_cons_self)
    have ih := putF_zip (f := f) (v := v) (ns := ns) (us := us) (by simpa using h) fun z => nn (List.mem_cons_of_mem _ z)
    simp only [List.zip_cons_cons, List.cons_append]
    unfold putF
    rw [if_neg e, ih]
theorem mem_new (nl : H p = none) (h : rep ms H d u) (ndx : H dx = none) {o1 o2 : HO} : rep (p :: ms) (upd (upd H dx o1) p o2) d u :=
  rep_map (fun a o n hp => ⟨fun z => by
    rcases List.mem_cons.mp z with z | z
    · exact ne_of_none hp nl z
    · exact n z, by rw [upd_ne (ne_of_none hp nl), upd_ne (ne_of_none hp ndx)]; exact hp⟩) d u h
theorem wd_new (w : Wd ms ps cs H0 H) (nl : H p = none) (ndx : H dx = none) {o1 o2 : HO} : Wd (p :: ms) [] [] (upd (upd H dx o1) p o2) (upd (upd H dx o1) p o2) := ⟨fun _ _ _ h => h, fun _ h => h, fun m h => by
  by_cases e : m = p
  · rw [e, upd_same]
    exact fun z => nomatch z
  · rw [upd_ne e]
    by_cases e2 : m = dx
    · rw [e2, upd_same]
      exact fun z => nomatch z
    · rw [upd_ne e2]
      exact w.tr m ((List.mem_cons.mp h).elim (fun z => absurd z e) id), fun _ h => absurd h List.not_mem_nil, fun _ h => absurd h List.not_mem_nil, fun _ h => absurd h List.not_mem_nil⟩
theorem ext_new (k : KpI p (upd (upd H dx o1) p o2) H') (nl : H p = none) (ndx : H dx = none) : Ret [] H H' := ⟨fun a o _ h => k.kp a o (ne_of_none h nl) (by rw [upd_ne (ne_of_none h nl), upd_ne (ne_of_none h ndx)]; exact h), fun _ z => absurd z List.not_mem_nil, fun a h => k.gr a (by
  by_cases e : a = p
  · rw [e, upd_same]
    exact fun z => nomatch z
  · rw [upd_ne e]
    by_cases e2 : a = dx
    · rw [e2, upd_same]
      exact fun z => nomatch z
    · rw [upd_ne e2]
      exact h)⟩
theorem rep_insW (w : Wd ms ps cs H0 H) (np : H p = none) {ns : List Str} {us : List V} {ds : List D} (hp : H' p = some (.ins C dx (ns.zip us))) (hl : ns.length = us.length) (hr : repL (p :: ms) H' ds us) : rep ms H' (.ins C ns ds) (.ref p) := by
  simp only [rep]
  exact ⟨p, dx, us, rfl, fun z => w.tr p z np, hp, hl, repL_weak hr⟩
end
end Rx
namespace Rx
open PySem PySem.Spec PyProof.Rows L2
section
variable {K : PySem.W.Frag} {x qual : Str} {params : Arguments} {body : List Stmt} {scope : Scope} {dvs : List V} {f : Addr} {fd : FuncData} {ps : List Str}
end
end Rx
namespace Rx
open PySem PySem.Spec PyProof.Rows L2
section
variable {X : Cx} {K : PySem.W.Frag} {w : World} {d : Addr}
end
end Rx
namespace Rx
open PySem PySem.Spec PyProof.Rows L2
section
variable {α β : Type} {K : PySem.W.Frag} {H1 H2 : Hp} {g : TG} {tt : TT} {te : TE} {vl : List Nat} {σ : L2.St} {Qd : Hp → Prop} {L : Addr}
end
section
variable {α S : Type} {K : PySem.W.Frag} {H1 : Hp} {g : TG} {tb : TS} {D' : Ends} {σ : L2.St}
end
section
variable {X : L2.Cx} {a b c e : PySem.Expr} {ta : TA}
end
section
variable {X : L2.Cx} {e : PySem.Expr} {te : TE}
end
theorem repL_intsM {ms : List Addr} {H : Hp} {xs : List Int} : repL ms H (xs.map fun y_ : Int => D.v (V.int y_)) (xs.map V.int) := by
  have e1 : xs.map (fun y_ : Int => D.v (V.int y_)) = (xs.map V.int).map D.v := by
    rw [List.map_map]
    rfl
  rw [e1]
  exact repL_flat.mpr rfl
section
variable {X : L2.Cx} {K : PySem.W.Frag} {ms : List Addr} {H : Hp} {u x : V}
theorem op_inSK (hK : X.K = K) : OpR X (compareOp .In) (rIn K false) := by
  subst hK
  exact op_in_seq
theorem inQ_all {α : Type} {f : α → V} {xs : List α} (fs : ∀ y, flatV (f y) = true) : (xs.map f).all flatV = true := by
  rw [List.all_map]
  exact List.all_eq_true.mpr fun y _ => fs y
theorem inQ_eq {α : Type} {f : α → V} {xs : List α} {vs : List V} (h : repL ms H (xs.map fun y_ : α => D.v (f y_)) vs) : vs = xs.map f := by
  have e1 : xs.map (fun y_ : α => D.v (f y_)) = (xs.map f).map D.v := by
    rw [List.map_map]
    rfl
  rw [e1] at h
  exact repL_flat.mp h
theorem rep_inL {α : Type} {f : α → V} {xs : List α} {Q : VK} (h : rep ms H (.lst (xs.map fun y_ : α => D.v (f y_))) u) (fx : flatV x = true) (fs : ∀ y, flatV (f y) = true) (k : Q (.bl (inV x (xs.map f))) H) : rIn K false x u H Q := by
  simp only [rep] at h
  obtain ⟨p, vs, e, _, hp, hr⟩ := h
  rw [inQ_eq hr] at hp
  exact ⟨p, _, e, .inl (.inl (.inl hp)), fx, inQ_all fs, k⟩
theorem inV_int {x : Int} {xs : List Int} : inV (.int x) (xs.map V.int) = true ↔ x ∈ xs := by
  unfold inV
  rw [List.any_map, List.any_eq_true]
  constructor
  · rintro ⟨y, hy, e⟩
    have e' : (y == x) = true := e
    rw [← eq_of_beq e']
    exact hy
  · intro h
    exact ⟨x, h, show (x == x) = true from beq_self_eq_true x⟩
end
section
variable {K : PySem.W.Frag} {ms : List Addr} {ps : List PEn} {H0 H H' H1 : Hp} {L : Addr} {d : D} {ds : List D} {u x y : V} {vs : List V} {ks : List Key} {k : Key}
end
end Rx
namespace Rx
open PySem PySem.Spec PyProof.Rows L2
section
variable {K : PySem.W.Frag} {ms : List Addr} {ps : List PEn} {H0 H : Hp} {x : V}
theorem rep_iterE {ds : List D} {P : Addr → Prop} (h : rep ms H (.lst ds) x) (k : ∀ a xs, x = .ref a → a ∉ ms → H a = some (.lst xs) → repL ms H ds xs → P a) : ∃ (a : Addr) (xs : List V), [x] = [.ref a] ∧ SqL K H a xs ∧ P a := by
  simp only [rep] at h
  obtain ⟨p, vs, e, n, hp, hr⟩ := h
  exact ⟨p, vs, by rw [e], .inl (.inl hp), k p vs e n hp hr⟩
end
section
variable {α S : Type} {K : PySem.W.Frag} {H1 : Hp} {g : TG} {tb : TS} {D' : Ends} {σ : L2.St}
theorem rep_pair {ms : List Addr} {H H2 : Hp} {T : Addr} {d1 d2 : D} {v1 v2 : V} (tr : ∀ m ∈ ms, H m ≠ none) (nT : H T = none) (e : H2 = upd H T (.tup [v1, v2])) (h1 : rep ms H d1 v1) (h2 : rep ms H d2 v2) : rep ms H2 (.tup [d1, d2]) (.ref T) := by
  subst e
  simp only [rep]
  refine ⟨T, [v1, v2], rfl, fun z => tr T z nT, upd_same, ?_⟩
  exact repL_ext (Ext.new nT) (repL_cons h1 (repL_cons h2 repL_nil))
theorem for_enumG {items : List α} {e : α → D} {ms : List Addr} {a : Addr} {xs : List V} {body : (Int × α) → S → (S → Prop) → Prop} {KM : S → Prop} (SI : S → L2.St → Hp → Prop) (s0 : S) (an : a ∉ ms) (ha : H1 a = some (.lst xs)) (hx : repL ms H1 (items.map e) xs)
    (kp : ∀ s σ H, SI s σ H → Keep ms H1 H) (tr : ∀ s σ H, SI s σ H → ∀ m ∈ ms, H m ≠ none) (hM : forC body ((rangeI 0 (items.length : Int)).zip items) s0 KM) (h0 : SI s0 σ H1)
    (hs : ∀ (x : Int × α) (u : V) (s : S) (k : S → Prop) (σ : L2.St) (H H2 : Hp), SI s σ H → Ext H H2 → rep ms H2 (.tup [.v (.int x.1), e x.2]) u → body x s k → ∀ Nx : L2.St → Hp → Prop, (∀ s' σ' H', k s' → SI s' σ' H' → Nx σ' H') →
      g u σ H2 fun σ2 H2 => tb { D' with nx := Nx, ct := Nx, bk := D'.nx } σ2 H2)
    (hd : ∀ s σ H, KM s → SI s σ H → D'.nx σ H) :
    ∃ W : Nat → Nat → L2.St → Hp → Prop, (∃ m, W 0 m σ H1) ∧ ∀ i m σ H, W i m σ H →
      ((Ite K a).stop i H ∧ D'.nx σ H) ∨ ((Ite K a).go i H ∧ ∃ Nx : L2.St → Hp → Prop, (∀ σ' H', Nx σ' H' → ∃ m', m' < m ∧ W (i + 1) m' σ' H') ∧ ∀ x H', (Ite K a).yld i H x H' → g x σ H' fun σ2 H2 => tb { D' with nx := Nx, ct := Nx, bk := D'.nx } σ2 H2) := by
  have hl : items.length = xs.length := by
    have := repL_len hx
    rwa [List.length_map] at this
  have rl : (rangeI 0 (items.length : Int)).length = items.length := by rw [rangeI_len]; omega
  have zl : ((rangeI 0 (items.length : Int)).zip items).length = xs.length := by rw [List.length_zip, rl, hl, Nat.min_self]
  refine for_it (walk_enum (K := K) (a := a) (xs := xs)) (D := D') (fun i σ H => ∃ s, SI s σ H ∧ forC body (((rangeI 0 (items.length : Int)).zip items).drop i) s KM) ⟨s0, h0, hM⟩ (fun i σ H _ ⟨s, si, _⟩ => .inl (.inl (kp s σ H si a _ an ha))) (fun i u σ H H' hi ⟨s, si, q⟩ y => ?_) (fun σ H ⟨s, si, q⟩ => ?_)
  · obtain ⟨T, x1, x2, rfl, nT, eH, e1, e2⟩ := y
    have hit : items[i]? = some (items[i]'(by omega)) := List.getElem?_eq_getElem (by omega)
    have hz : ((rangeI 0 (items.length : Int)).zip items)[i]? = some ((i : Int), items[i]'(by omega)) := by
      rw [List.getElem?_zip_eq_some]
      exact ⟨by rw [rangeI_get (by omega)]; congr 1; omega, hit⟩
    rw [drop_cons' hz] at q
    obtain ⟨v, hv, rv⟩ := repL_get (repL_keep (kp s σ H si) hx) (j := i) (d := e (items[i]'(by omega))) (by rw [List.getElem?_map, hit]; rfl)
    have e2 : xs[i]? = some x2 := e2
    rw [e2] at hv
    have ev : x2 = v := Option.some.inj hv
    subst ev
    have ev1 : V.int (i : Nat) = x1 := Option.some.inj e1
    subst ev1
    have ex : Ext H H' := by rw [eH]; exact Ext.new nT
    exact hs ((i : Int), items[i]'(by omega)) (.ref T) s _ σ H H' si ex (rep_pair (tr s σ H si) nT eH rep_v rv) q _ fun s' σ' H'' hk si2 => ⟨s', si2, hk⟩
  · rw [List.drop_of_length_le (by omega)] at q
    exact hd s σ H q si
end
end Rx
namespace Rx
open PySem PySem.Spec PyProof.Rows L2
section
variable {α κ : Type} [DecidableEq κ]
def getD (m : List (κ × α)) (k : κ) : Option α := (m.find? fun q => decide (q.1 = k)).map (·.2)
end
section
variable {α : Type} {K : PySem.W.Frag} {ms : List Addr} {ps : List PEn} {H0 H : Hp} {L : Addr} {x : V} {e : α → D}
end
section
variable {K : PySem.W.Frag} {ms : List Addr} {H : Hp} {x : V}
end
end Rx
namespace Rx
open PySem PySem.Spec PyProof.Rows L2
theorem units65 {k : Nat} {A : Around} (r : Room k A) : A.units + 65 < cLine := by
  have := r.un
  omega
def tyN : D → String
  | .v (.bl _) => "bool"
  | .v (.int _) => "int"
  | .v (.str _) => "str"
  | .v _ => "NoneType"
  | .lst _ => "list"
  | .tup _ => "tuple"
  | .dct _ _ => "dict"
  | .dcT _ _ => "dict"
  | .ins _ _ _ => "object"
def tyOk : D → Bool
  | .v .non => true
  | .v (.bl _) => true
  | .v (.int _) => true
  | .v (.str _) => true
  | .v _ => false
  | .ins _ _ _ => false
  | _ => true
section
variable {K : PySem.W.Frag} {ms : List Addr} {ps : List PEn} {H0 H : Hp} {d : D} {u x : V}
theorem rep_TyN (h : rep ms H d u) (n : tyOk d = true) {T : String} (e : tyN d = T) : TyX K H u (.type T) := by
  subst e
  cases d with
  | v x =>
    obtain rfl := of_v h
    cases u <;> simp only [tyOk] at n
    · exact .base .non
    · exact .base (.bl _)
    · exact .base (.int _)
    · exact .base (.str _)
    all_goals cases n
  | lst ds =>
    simp only [rep] at h
    obtain ⟨p, vs, rfl, _, hp, _⟩ := h
    exact .base (.lst hp)
  | tup ds =>
    simp only [rep] at h
    obtain ⟨p, vs, rfl, _, hp, _⟩ := h
    exact .base (.tup hp)
  | dct ks ds =>
    simp only [rep] at h
    obtain ⟨p, vs, rfl, _, hp, _⟩ := h
    exact .base (.dK hp)
  | dcT ks ds =>
    simp only [rep] at h
    obtain ⟨p, vs, rfl, _, hp, _⟩ := h
    exact .base (.dT hp)
  | ins _ _ _ => cases n
theorem call_isiTK {X : Cx} (hK : X.K = K) : CallR X (.builtin "isinstance") (rIsiT K) := by
  subst hK
  exact call_isiT
theorem rep_isi1 {a b : String} {r : Bool} {P : Bool → Prop} (h : rep ms H d u) (n : tyOk d = true) (e : tyN d = a) (k : kitB a b = some r) (q : P r) :
    ∃ (x' c : V) (t u' : Value) (b' : Bool), [u, .ty b] = [x', c] ∧ ClsV c u' ∧ TyX K H x' t ∧ PySem.W.kitOne K t u' = some b' ∧ P b' :=
  ⟨u, .ty b, .type a, .type b, r, rfl, .ty b, rep_TyN h n e, kit_ty k, q⟩
theorem rep_isi2 {a b c : String} {r1 r2 : Bool} {tp : Addr} {P : Bool → Prop} (h : rep ms H d u) (n : tyOk d = true) (e : tyN d = a) (ht : H tp = some (.tup [.ty b, .ty c])) (k1 : kitB a b = some r1) (k2 : kitB a c = some r2) (q : P (r1 || r2)) :
    ∃ (x : V) (tp' : Addr) (cs : List V) (t : Value) (us : List Value) (b' : Bool), [u, .ref tp] = [x, .ref tp'] ∧ H tp' = some (.tup cs) ∧ Paired ClsV cs us ∧ TyX K H x t ∧ PySem.W.kitAny K t us = some b' ∧ P b' := by
  refine ⟨u, tp, [.ty b, .ty c], .type a, [.type b, .type c], r1 || r2, rfl, ht, .cons (.ty b) (.cons (.ty c) .nil), rep_TyN h n e, ?_, q⟩
  refine kitAny_cons (kit_ty k1) (fun e1 => ?_) (fun e1 => by rw [e1]; rfl)
  refine kitAny_cons (kit_ty k2) (fun e2 => ?_) (fun e2 => by rw [e2, Bool.or_true])
  rw [e1, e2]
  rfl
theorem rep_lenT {ds : List D} {n : Nat} {P : Nat → Prop} (h : rep ms H (.tup ds) x) (hn : ds.length = n) (q : P n) : ∃ (y : V) (m : Nat), [x] = [y] ∧ LenV K y H m ∧ P m := by
  simp only [rep] at h
  obtain ⟨p, vs, rfl, _, hp, hr⟩ := h
  exact ⟨_, vs.length, rfl, .inr ⟨vs, .inl (.inl hp), rfl⟩, by rw [← repL_len hr, hn]; exact q⟩
theorem op_inDK {X : Cx} (hK : X.K = K) (hu : X.A.units + 65 < cLine) : OpR X (compareOp .In) (rInD K) := by
  subst hK
  exact op_inD hu
def inDv (d : D) (es : List D) : Bool := (pyL es).any fun z => PyData.eqv z (pyOf d)
theorem rep_inD {es : List D} {y : V} {Q : VK} (h1 : rep ms H d x) (h2 : rep ms H (.lst es) y) (p1 : plainD d = true) (p2 : plainD (.lst es) = true) (s1 : SeqAt.shaped (pyOf d) = true) (s2 : SeqAt.shaped (pyOf (.lst es)) = true) (q : Q (.bl (inDv d es)) H) : rInD K x y H Q :=
  ⟨pyOf d, pyL es, dp_of d x p1 h1, by have := dp_of (K := K) (.lst es) y p2 h2; simpa only [pyOf] using this, s1, by simpa only [pyOf] using s2, q⟩
end
section
variable {α : Type} {K : PySem.W.Frag} {ms : List Addr} {ps : List PEn} {H0 H : Hp} {L : Addr} {x kx : V} {e : α → D}
end
section
variable {K : PySem.W.Frag} {ms : List Addr} {ps : List PEn} {H0 H : Hp} {x : V}
theorem cr_sortedIK {X : Cx} (hK : X.K = K) : CallR X (.builtin "sorted") (rSortedI K) := by
  subst hK
  exact cr_sortedI
theorem rep_sortI {xs : List Int} {P : List Int → Addr → Prop} (h : rep ms H (.lst (xs.map fun y => .v (.int y))) x) (q : ∀ ys : List Int, ys.Perm xs → ys.Pairwise (· ≤ ·) → ∀ p, H p = none → P ys p) :
    ∃ (a : Addr) (ns : List Int), [x] = [V.ref a] ∧ SqL K H a (ns.map V.int) ∧ ∀ (ns' : List Int) (p : Addr), ns'.Perm ns → ns'.Pairwise (· ≤ ·) → H p = none → P ns' p := by
  simp only [rep] at h
  obtain ⟨p, vs, rfl, _, hp, hr⟩ := h
  have ev : vs = xs.map V.int := by
    have := repL_flat (xs := xs.map V.int) (vs := vs) (ms := ms) (H := H)
    rw [List.map_map] at this
    exact this.mp hr
  subst ev
  exact ⟨p, xs, rfl, .inl (.inl hp), fun ys q1 a b c => q ys a b q1 c⟩
theorem call_tuple_ofK {X : Cx} (hK : X.K = K) : CallR X (.type "tuple") (fun xs H Q => ∃ p ys, xs = [.ref p] ∧ ((SqL K H p ys ∧ ∀ l, H l = none → Q (.ref l) (upd H l (.tup ys))) ∨ (SqT K H p ys ∧ Q (.ref p) H))) := by
  subst hK
  exact call_tuple_of
theorem rep_tupOf {ds : List D} {P : List V → Addr → Prop} {R : Addr → Prop} (h : rep ms H (.lst ds) x) (q : ∀ ys, repL ms H ds ys → ∀ l, H l = none → P ys l) : ∃ p ys, [x] = [V.ref p] ∧ ((SqL K H p ys ∧ ∀ l, H l = none → P ys l) ∨ (SqT K H p ys ∧ R p)) := by
  simp only [rep] at h
  obtain ⟨p, vs, rfl, _, hp, hr⟩ := h
  exact ⟨p, vs, rfl, .inl ⟨.inl (.inl hp), q vs hr⟩⟩
end
end Rx
namespace Rx
open PySem PySem.Spec PyProof.Rows L2
section
variable {prog : Program} {w : World} {A : Around} {E : Value → Shared → Prop} {s : Shared}
end
section
variable {prog : Program} {w : World} {A : Around} {E : Value → Shared → Prop} {s : Shared}
end
section
variable {K : PySem.W.Frag} {ms : List Addr} {H : Hp} {x : V}
end
section
variable {α β : Type} {K : PySem.W.Frag} {H1 : Hp} {g : TG} {tt : TT} {te : TE} {vl : List Nat} {σ : L2.St} {Qd : Hp → Prop} {L : Addr}
end
end Rx
namespace Rx
open PySem PySem.Spec PyProof.Rows L2
section
variable {K : PySem.W.Frag} {ms : List Addr} {ps : List PEn} {H0 H : Hp} {L : Addr} {u : V}
end
end Rx
namespace Rx
open PySem PySem.Spec PyProof.Rows L2
section
variable {X : Cx}
def tFmtD (K : PySem.W.Frag) (te : TE) : TE := fun σ H Q => te σ H fun x H1 => ∃ (a : Addr) (d : PyData), x = .ref a ∧ Dp K H1 (.ref a) d ∧ d.showable = true ∧ d.hasDict = false ∧ d.depth ≤ 60 ∧ d.shown.length ≤ sizeLine ∧ Q (.str d.shown) H1
theorem pe_fmtD {e : PySem.Expr} {te : TE} {pos : Pos} {k : Nat} {K : PySem.W.Frag} (hK : X.K = K) (gu : X.A.guards = some []) (hr : Room k X.A) (he : PE X e te) : PE X (.FormattedValue e (-1) none pos) (tFmtD K te) := by
  subst hK
  refine ⟨fun pins s σ H Q I h => ?_⟩
  refine wpAny_FormattedValue_plain (thn (he.run pins s σ H _ I h) fun v s1 hv => ?_)
  obtain ⟨x, H1, I1, r1, a, d, rfl, dp, sh, nd, dep, len, q⟩ := hv
  cases r1
  obtain ⟨as, rd⟩ := Dp.reads I1 d _ _ dp rfl
  have un := hr.un
  refine formatField_of_reads (h₀ := s1.heap) rd sh (fun z => by rw [nd] at z; cases z) gu (by omega) (fun _ _ h => h) (fun h' u tk keep => ?_) len
  exact ⟨.str d.shown, H1, I1.kept keep, ⟨u, rfl⟩, q⟩
theorem rep_fmtD {K : PySem.W.Frag} {ms : List Addr} {H : Hp} {d : D} {x : V} {P : PyData → Prop} (h : rep ms H d x) (hx : ∃ a, x = .ref a) (g : plainD d = true ∧ (pyOf d).showable = true ∧ (pyOf d).hasDict = false ∧ (pyOf d).depth ≤ 60 ∧ (pyOf d).shown.length ≤ sizeLine) (q : P (pyOf d)) :
    ∃ (a : Addr) (d : PyData), x = .ref a ∧ Dp K H (.ref a) d ∧ d.showable = true ∧ d.hasDict = false ∧ d.depth ≤ 60 ∧ d.shown.length ≤ sizeLine ∧ P d := by
  obtain ⟨a, rfl⟩ := hx
  exact ⟨a, _, rfl, dp_of (K := K) d _ g.1 h, g.2.1, g.2.2.1, g.2.2.2.1, g.2.2.2.2, q⟩
theorem rep_refL {ms : List Addr} {H : Hp} {ds : List D} {x : V} (h : rep ms H (.lst ds) x) : ∃ a, x = .ref a := by
  simp only [rep] at h
  obtain ⟨p, vs, e, _⟩ := h
  exact ⟨p, e⟩
variable {n : Nat} {C f : Addr} {fd : FuncData} {ps : List Str} {sp : Sp}
theorem ownTextG_run (F : FnG X.prog X.w X.K X.mg X.base n f fd ps sp) {A : Around} (hg : A.guards = some []) (hr : Room n A) (hb : Binds X.K fd ps []) {pins : List (Addr × Obj)} {σ : L2.St} {H : Hp} {s : Shared} {a : Addr} {Q : VK} (I : Inv X pins σ H s)
    (en : Env0 X.prog X.w X.K X.mg X.base A X.stack s H) (h : sp [.ref a] H (fun v H' => ∃ z : Str, v = .str z ∧ Q v H') E0) : wpAny (model X.prog X.w) A (call (.ref f) [.ref a]) (PySem.W.StrBack (EP X pins σ Q)) X.xe s := by
  have hl := F.len _ _ _ _ h
  have bt := hb s [.ref a] I.kIn (by rw [List.append_nil]; exact hl)
  rw [List.append_nil] at bt
  refine wpAny_call (codeAny_mono (F.run A hg hr X.stack s H ⟨[.ref a], []⟩ [.ref a] [.ref a] _ E0 en bt (.cons rfl .nil) h) fun out s' hq => ?_)
  rcases out with err | fl
  · exact pass0 pins σ H s err s' I hq
  · rcases fl with _ | _ | _ | u
    · exact hq.elim
    · exact hq.elim
    · exact hq.elim
    · obtain ⟨v, H', I', rv, z, ez, q⟩ := I.after hq
      subst ez
      obtain ⟨t, rfl⟩ := rv
      exact ⟨.str z, H', I', ⟨t, rfl⟩, q⟩
theorem call_reprOwnG (F : FnG X.prog X.w X.K X.mg X.base n f fd ps sp) (gu : X.A.guards = some []) (hr : Room (n + 1) X.A) (o : OwnText X.K C "__repr__" f) (hb : Binds X.K fd ps []) : CallR X (.builtin "repr") (rOwnText C sp E0) := by
  intro pins s σ H xs us Q I r h
  obtain ⟨x, a, dx, fs, rfl, rfl, ha, hsp⟩ := h
  obtain ⟨u, rfl, ru⟩ := r.one
  cases ru
  obtain ⟨mA, J, _⟩ := ins_get I.hok ha
  obtain ⟨od, J, _⟩ := J.look
  obtain ⟨m, hF⟩ := I.fr
  exact PySem.W.repr_K hr.in1.units0 hF I.ok.mod.kin J o.hs o.hf (ownTextG_run (A := X.A.in1) F (show X.A.in1.guards = some [] from gu) hr.in1 hb I I.env0.in1 hsp)
end
end Rx
namespace PySem
open Sem (wp)
open AutoSeq1 (wpAny_loadPart')
theorem meets_enum_tup (t : Addr) (items : Array Value) :
    Meets (Builtin.«enumerate.__new__» ⟨[.type "enumerate", .ref t], []⟩) (fun _ R s => s.heap.IsTuple t items ∧
      R (.ok (.ret (.ref (s.heap.push { cls := .type "tuple_iterator", data := .fields #[.ref t, .int 0 0] }).objs.size)))
        { s with heap := (s.heap.push { cls := .type "tuple_iterator", data := .fields #[.ref t, .int 0 0] }).push { cls := .type "enumerate", data := .fields #[.none, .bool false, .ref s.heap.objs.size, rawInt 0, .none, .none] } }) :=
  .of_wp fun prog w A R s h => by
    obtain ⟨hp, g, d, tk, os⟩ := s; obtain ⟨h1, h⟩ := h
    have hsub := sub_enumerate
    have q1 : ∀ {A' : Around} {E : Value → Shared → Prop} {Q : Value → Shared → Prop}, Q (.ref hp.objs.size) ⟨hp.push { cls := .type "tuple_iterator", data := .fields #[.ref t, .int 0 0] }, g, d, tk, os⟩ → wpAny (model prog w) A' (pyIter (.ref t)) Q E ⟨hp, g, d, tk, os⟩ :=
      fun q => (begins_tuple t items).iter prog w _ _ ⟨hp, g, d, tk, os⟩ _ h1 q
    wp_walk using q1
    refine wpAny_stack_any fun st => wpAny_pure ?_
    split
    · rename_i c _ _ _ _ _
      cases (c == Value.type "enumerate")
      · wp_walk using q1
        exact ⟨_, rfl, h⟩
      · wp_walk using q1
        exact ⟨_, rfl, h⟩
    · wp_walk using q1
      exact ⟨_, rfl, h⟩
section
variable {prog : Program} {w : World} {A : Around} {E : Value → Shared → Prop} {s : Shared}
theorem call_enum_tup {t : Addr} {items : Array Value} {Q : Value → Shared → Prop} (hL : s.heap.IsTuple t items)
    (h : ∀ h', IsEnum h' (s.heap.objs.size + 1) s.heap.objs.size 0 .none → h'.IsTupleIter s.heap.objs.size t 0 → h'.objs.size = s.heap.objs.size + 2 →
      (∀ b o, s.heap.get? b = some o → h'.get? b = some o) → Q (.ref (s.heap.objs.size + 1)) { s with heap := h' }) :
    wpAny (model prog w) A (call (.type "enumerate") [.ref t]) Q E s := by
  refine callType_new F.called_enumerate (by decide) (F.typeCall_enumerate_1 _) (F.newCall_enumerate_1 _) (fun obj => F.args_object_init_2 obj _) F.entry_enumerate_new
    (meets_enum_tup t items) ⟨hL, ?_⟩
  have hz : (s.heap.push { cls := .type "tuple_iterator", data := .fields #[.ref t, .int 0 0] }).objs.size = s.heap.objs.size + 1 := Heap.size_push ..
  show _ ∧ _
  rw [hz]
  have he : IsEnum ((s.heap.push { cls := .type "tuple_iterator", data := .fields #[.ref t, .int 0 0] }).push
      { cls := .type "enumerate", data := .fields #[.none, .bool false, .ref s.heap.objs.size, rawInt 0, .none, .none] }) (s.heap.objs.size + 1) s.heap.objs.size 0 .none := by
    have := Heap.get?_push_size (s.heap.push { cls := .type "tuple_iterator", data := .fields #[.ref t, .int 0 0] })
      (o := { cls := .type "enumerate", data := .fields #[.none, .bool false, .ref s.heap.objs.size, rawInt 0, .none, .none] }) rfl
    rw [hz] at this; exact this
  refine ⟨⟨_, he, rfl⟩, h _ he ⟨_, Heap.get?_push_of_some _ (Heap.get?_push_size _ rfl), rfl, rfl⟩ (by rw [Heap.size_push, hz]) fun b o x => Heap.get?_push_of_some _ (Heap.get?_push_of_some _ x)⟩
end
end PySem
namespace Rx
open PySem PySem.Spec PyProof.Rows L2
def IteT (K : PySem.W.Frag) (a : Addr) : It :=
  ⟨fun i H => ∃ (xs : List V) (x : V), SqT K H a xs ∧ xs[i]? = some x, fun i H v H' => ∃ T x, v = .ref T ∧ H T = none ∧ H' = upd H T (.tup [.int (i : Nat), x]) ∧ ∀ xs, SqT K H a xs → xs[i]? = some x, fun i H => ∃ xs : List V, SqT K H a xs ∧ xs.length ≤ i⟩
theorem turn_enumT {P : Program} {w : World} {K : PySem.W.Frag} {elts : List Expr} {kk : Nat} {tpos : Pos} (a e it : Addr) (hei : e ≠ it) (hai : a ≠ it) :
    L2.Turn P w K (.Tuple elts kk tpos) (IteT K a) [e, it] e (fun i h => (∃ old, IsEnum h e it ((i : Nat) : Int) old) ∧ h.IsTupleIter it a i) where
  mem := by simp
  obj := fun i h st b hb => by
    obtain ⟨⟨old, he⟩, ⟨o, ho, hc, hd⟩⟩ := st
    have e' : b = e ∨ b = it := by simpa using hb
    rcases e' with z | z
    · rw [z]; exact ⟨_, he, fun v q => nomatch q⟩
    · rw [z]; exact ⟨o, ho, fun v q => by rw [hd] at q; cases q⟩
  keep := fun i h h' st k => let ⟨⟨old, he⟩, hi⟩ := st; ⟨⟨old, k e (by simp) _ he⟩, hi.at fun o q => k it (by simp) o q⟩
  item := by
    intro X hP hw hK hc i pins s σ H E I hf st hg
    subst hP hw hK
    obtain ⟨⟨old, he⟩, hit⟩ := st
    obtain ⟨xs, x, hq, hx⟩ := hg
    obtain ⟨its, rv, p, hz⟩ := I.tuple hq
    obtain ⟨u, hu, ru⟩ := rv.get hx
    have hel : e < s.heap.objs.size := Heap.lt_size he
    have hil : it < s.heap.objs.size := by obtain ⟨_, q, _⟩ := hit; exact Heap.lt_size q
    have hea : e ≠ a := fun z => by
      obtain ⟨o, ho, hc', _⟩ := p
      rw [← z, he] at ho
      cases ho
      simp at hc'
    refine wpAny_pyNext_enum_itemD (Draws.tuple (A := X.A.in1) (I.ok.hd hc) it a hai its.toArray) he ⟨hit, p⟩ (by
      have := rv.length
      have := (List.getElem?_eq_some_iff.mp hx).1
      rw [List.size_toArray]
      omega) hei (by simp [hei, hea]) fun y h' tk hP ho hit' hT hsz hk => ?_
    have ey : y = u := by
      have h1 : its[i]? = some y := by simpa using hP
      rw [hu] at h1
      exact (Option.some.inj h1).symm
    subst ey
    refine ⟨_, rfl, wpAny_letOwnedTupleGo_enum (s := { s with heap := h', toks := tk + 1 }) ho fun h'' he' sb => ?_⟩
    have hT2 : h''.get? s.heap.objs.size = some { cls := .type "tuple", data := .seq #[.int i tk, y] } := (sb.2 _ (Nat.ne_of_gt hel)).trans hT
    have new : ObjOk X.prog X.w (upd H s.heap.objs.size (.tup [.int (i : Nat), x])) h'' s.heap.objs.size (.tup [.int (i : Nat), x]) :=
      ⟨by show 2 ≤ sizeLine; decide, [.int i tk, y], .cons ⟨_, rfl⟩ (.cons ru .nil), ⟨_, hT2, rfl, _, rfl⟩⟩
    have I1 : Inv X pins σ (upd H s.heap.objs.size (.tup [.int (i : Nat), x])) { s with heap := h'', toks := tk + 1 } :=
      I.turnedNew (ch := [e, it]) (fun b ob hb q => (sb.2 b (fun z => hb (by simp [z]))).trans (hk b ob (fun z => hb (by simp [z])) (fun z => hb (by simp [z])) q)) hf (Nat.le_refl _) new
    refine ⟨.ref s.heap.objs.size, _, I1, rfl, ⟨_, x, rfl, I.hok.fresh (Nat.le_refl _), rfl, fun ys hy => by rw [I.tuple_inj hy hq]; exact hx⟩, ⟨⟨y, ?_⟩, hit'.1.at fun o q => (sb.2 it (Ne.symm hei)).trans q⟩, fun b hb => ?_⟩
    · have e1 : ((i + 1 : Nat) : Int) = (i : Int) + 1 := by omega
      rw [e1]; exact he'
    · have hb' : b < s.heap.objs.size := by
        have e' : b = e ∨ b = it := by simpa using hb
        rcases e' with z | z
        · rw [z]; exact hel
        · rw [z]; exact hil
      rw [upd_ne (Nat.ne_of_lt hb')]
      exact (hf b hb).1
  done := by
    intro X hP hw hK hc i pins s σ H E I hf st hg
    subst hP hw hK
    obtain ⟨⟨old, he⟩, hit⟩ := st
    obtain ⟨xs, hq, hx⟩ := hg
    obtain ⟨its, rv, p, hz⟩ := I.tuple hq
    obtain ⟨f0, f1, f2, f3, f4, f5⟩ := hf it (by simp)
    have hl := rv.length
    have D : Draws X.prog X.w X.A.in1 it [it, a] i (fun i v => its.toArray[i]? = some v) (fun j h => j = i ∧ h.IsTupleIter it a i ∧ h.IsTuple a its.toArray) := {
      live := fun _ _ st => let ⟨o, ho, _⟩ := st.2.1; ⟨o, ho⟩
      frame := fun _ _ _ st hk => ⟨st.1, st.2.1.at fun o e => hk it (by simp) o e, st.2.2.at fun o e => hk a (by simp) o e⟩
      item := fun j s Q E hj st hQ => absurd hj (by rw [st.1]; exact Nat.lt_irrefl _)
      done := fun s Q E st hE => wpAny_nextOf_tuple_end (I.ok.hd hc) st.2.1 st.2.2 (by simp; omega) hE }
    refine wpAny_pyNext_enum_endD D he ⟨rfl, hit, p⟩ fun h' eb => ?_
    exact ⟨rfl, I.turned (t' := s.toks) (fun b o hb q => eb b o hb q) f0 f1 f3 f4 f5⟩
  self := fun A i s Q E st h => let ⟨⟨_, he⟩, _⟩ := st; wpAny_pyIter_enum he h
section
variable {K : PySem.W.Frag} {a : Addr} {xs : List V}
theorem walk_enumT : L2.Walk (IteT K a) xs.length (fun H => SqT K H a xs) (YPair (fun i => some (.int (i : Nat))) (fun i => xs[i]?)) := by
  refine ⟨fun i _ hi q => ⟨xs, xs[i], q, by simp [hi]⟩, fun _ q => ⟨xs, q, Nat.le_refl _⟩, fun i H v H' _ q y => ?_⟩
  obtain ⟨T, x, h1, h2, h3, h4⟩ := y
  exact ⟨T, .int (i : Nat), x, h1, h2, h3, rfl, h4 xs q⟩
end
section
variable {α S : Type} {K : PySem.W.Frag} {H1 : Hp} {g : TG} {tb : TS} {D' : Ends} {σ : L2.St}
end
section
variable {K : PySem.W.Frag} {ms : List Addr} {ps : List PEn} {H0 H : Hp} {x : V}
end
theorem noMs_mapT {α : Type} {e : α → D} (h : ∀ y, noM (e y) = true) : ∀ xs : List α, noMs (xs.map e) = true
  | [] => rfl
  | x :: xs => by
    rw [List.map_cons]
    simp only [noMs, h x, noMs_mapT h xs, Bool.and_self]
def tFS (ts : List TE) : TE := fun σ H Q => tJs ts Str.empty σ H fun out H1 => Q (.str out) H1
theorem pe_joinedF {X : Cx} {v1 v2 : PySem.Expr} {rest : List PySem.Expr} {ts : List TE} {pos : Pos} (h : PJ X (v1 :: v2 :: rest) ts) : PE X (.JoinedStr (v1 :: v2 :: rest) pos) (tFS ts) := pe_joined h
end Rx
namespace Rx
open PySem PySem.Spec PyProof.Rows L2
section
variable {K : PySem.W.Frag} {ms ms' : List Addr} {ps : List PEn} {H0 H H' H1 : Hp} {L L' : Addr} {d d' : D} {ds : List D} {u x : V} {vs : List V}
theorem rep_lstAt (h : rep ms H (.lst ds) u) : ∃ (L : Addr) (vs : List V), u = .ref L ∧ L ∉ ms ∧ H L = some (.lst vs) ∧ repL ms H ds vs := by
  simp only [rep] at h
  obtain ⟨p, vs, e, np, hp, hl⟩ := h
  exact ⟨p, vs, e, np, hp, hl⟩
theorem wd_fresh {o : HO} (w : Wd ms ps [] H0 H) (h : H L = some o) : Wd (L :: ms) ps [] H0 H :=
  ⟨w.kp, w.grow, fun m hm => by
    rcases List.mem_cons.mp hm with z | z
    · rw [z, h]
      exact fun z => nomatch z
    · exact w.tr m z, w.pot, fun a ha => List.mem_cons_of_mem _ (w.pm a ha), fun _ h => absurd h List.not_mem_nil⟩
theorem mo_fresh (w : Wd ms ps [] H0 H) (nl : H L = none) (n : L ∉ ms) (hL : H' L = some (.lst vs)) (hr : repL ms H' ds vs) (hn : noMs ds = true) : MutO (L :: ms) ps H0 H' L (.lst ds) :=
  ⟨List.mem_cons_self, pot_new w nl, wd_none w nl, vs, hL, repL_liftO (dr_here (L := L) (ms := ms)) (by rw [hL]; trivial) ds vs hn hr⟩
theorem noMs_mapF {α : Type} {e : α → D} (h : ∀ y, noM (e y) = true) : ∀ xs : List α, noMs (xs.map e) = true := noMs_mapT h
end
section
variable {K : PySem.W.Frag} {X : Cx} {o : PySem.Expr} {to : TE} {name : Str} {apos cpos : Pos} {T id : String} {r : V → List V → Hp → VK → Prop}
theorem pe_bmN (hK : X.K = K) (pa : PlainAttrs T) (slot : Slot T name id) (hty : typeOf (.builtin id) = pure (.type "method_descriptor")) (hm : MtR X id r) (ho : PE X o to)
    (hbase : attributeBase o name X.env (eval o X.env) = eval o X.env := by rfl) (hline : (apos.endLine == cpos.line) = true := by rfl) : PE X (.Call (.Attribute o name apos) [] [] cpos) (tBM0 K T r to) := by
  subst hK
  exact pe_bm0 pa slot hty hm ho hbase hline
end
section
variable {K : PySem.W.Frag} {X : Cx} {C g : Addr} {CX : CXT} {k : Nat} {sp : Sp} {E : XK} {fe e : PySem.Expr} {es : List PySem.Expr} {tf : TE} {t : TA} {pos : Pos} {fd : FuncData} {ps : List Str}
end
end Rx
namespace PySem.W
open Lean Elab Tactic Meta PySem PySem.Calls PyProof.Rows
section
variable {prog : Program} {w : World} {A : Around} {E : Value → Shared → Prop} {s : Shared} {K : Frag} {x y C L f : Addr} {h₀ : Heap} {m : Str → Option Value} {ox oy : Obj} {od oe : Option Obj}
end
end PySem.W
namespace Rx
open PySem PySem.Spec PyProof.Rows L2
structure OwnBin (K : PySem.W.Frag) (C : Addr) (op : Operator) (f : Addr) : Prop where
  first : PySem.W.selfFirst K C = true
  hs : PySem.W.findIn K (.ref C) (PySem.dunder op.info.2) = some (some (.ref f))
  hf : PySem.W.isFn K (.ref f) = true
structure OwnBinT (K : PySem.W.Frag) (C : Addr) (op : Operator) (f : Addr) : Prop extends OwnBin K C op f where
  hr : ∃ rc : Option Value, PySem.W.findIn K (.ref C) (dunderR op.info.2) = some rc ∧ (rc = none ∨ ∃ g : Addr, rc = some (.ref g))
  i1 : ∃ fo : Option Value, PySem.W.findIn K (.type "int") (PySem.dunder op.info.2) = some fo
  i2 : ∃ ro : Option Value, PySem.W.findIn K (.type "int") (dunderR op.info.2) = some ro
section
variable {α γ β : Type} {K : PySem.W.Frag} {H1 : Hp} {g : TG} {tt : TT} {te : TE} {vl : List Nat} {σ : L2.St} {Qd : Hp → Prop} {L : Addr}
end
end Rx
namespace Rx
open PySem PySem.Spec PyProof.Rows L2
section
variable {K : PySem.W.Frag} {ms ms' : List Addr} {ps : List PEn} {H0 H H' H1 : Hp} {L L' : Addr} {d d' : D} {ds : List D} {u x : V} {vs : List V}
end
end Rx
namespace Rx
open PySem PySem.Spec PyProof.Rows L2
end Rx
namespace Rx
open PySem PySem.Spec PyProof.Rows L2
theorem wipe_get (σ : L2.St) : ∀ (vl : List Nat) (j : Nat), (L2.wipe σ vl)[j]? = if j ∈ vl then (if j < σ.length then some none else none) else σ[j]?
  | [], j => by simp [L2.wipe]
  | v :: vs, j => by
    show ((L2.wipe σ vs).set v none)[j]? = _
    rw [List.getElem?_set, L2.wipe_length, wipe_get σ vs j]
    by_cases h : v = j
    · subst h
      simp
    · have h' : ¬ j = v := fun z => h z.symm
      simp [h, h']
theorem wipe_set {σ : L2.St} {vl : List Nat} {i : Nat} {x : Option V} (h : i ∈ vl) : L2.wipe (List.set σ i x) vl = L2.wipe σ vl := by
  apply List.ext_getElem?
  intro j
  rw [wipe_get, wipe_get, List.length_set, List.getElem?_set]
  by_cases c : j ∈ vl
  · rw [if_pos c, if_pos c]
  · have n : ¬ i = j := fun z => c (by rw [← z]; exact h)
    simp [c, n]
theorem wipe_idem {σ : L2.St} {vl : List Nat} : L2.wipe (L2.wipe σ vl) vl = L2.wipe σ vl := by
  apply List.ext_getElem?
  intro j
  rw [wipe_get, L2.wipe_length, wipe_get]
  by_cases c : j ∈ vl <;> simp [c]
end Rx
namespace Rx
open PySem PySem.Spec PyProof.Rows L2
end Rx
namespace PySem.W
open Lean Elab Tactic Meta PySem PySem.Calls PyProof.Rows
section
variable {prog : Program} {w : World} {M : Model} {A : Around} {E : Value → Shared → Prop} {s : Shared} {K : Frag} {y C L f g : Addr} {h₀ : Heap} {m : Str → Option Value} {oy : Obj} {oe : Option Obj} {n : Int} {t : Tok}
end
end PySem.W
namespace Rx
open PySem PySem.Spec PyProof.Rows L2 RZ
structure OwnNeg (K : PySem.W.Frag) (C f : Addr) : Prop where
  hs : PySem.W.findIn K (.ref C) "__neg__" = some (some (.ref f))
  hf : PySem.W.isFn K (.ref f) = true
structure OwnBinR (K : PySem.W.Frag) (C : Addr) (op : Operator) (g : Addr) : Prop where
  first : PySem.W.selfFirst K C = true
  hs : ∃ f : Addr, PySem.W.findIn K (.ref C) (PySem.dunder op.info.2) = some (some (.ref f))
  hr : PySem.W.findIn K (.ref C) (dunderR op.info.2) = some (some (.ref g))
  hg : PySem.W.isFn K (.ref g) = true
  hsub : PySem.W.subIn K (.ref C) (.type "int") = some false
section
variable {α γ β S : Type}
def PairIt (ms : List Addr) (H1 : Hp) (J : It) (items : List (α × γ)) (e : α → D) (e2 : γ → D) : Prop :=
  ∃ (p q : Nat → Option V) (G : Hp → Prop), L2.Walk J items.length G (YPair p q) ∧ (∀ H, Keep ms H1 H → G H) ∧
    ∀ (i : Nat) (x1 x2 : V) (H : Hp) (h : i < items.length), Keep ms H1 H → p i = some x1 → q i = some x2 → rep ms H (e items[i].1) x1 ∧ rep ms H (e2 items[i].2) x2
theorem repL_at {ms : List Addr} {H : Hp} {items : List α} {e : α → D} {xs : List V} {i : Nat} {x : V} (hx : repL ms H (items.map e) xs) (h : i < items.length) (hi : xs[i]? = some x) : rep ms H (e items[i]) x := by
  obtain ⟨v, hv, rv⟩ := repL_get hx (j := i) (d := e items[i]) (by rw [List.getElem?_map, List.getElem?_eq_getElem h]; rfl)
  rw [hi] at hv
  cases hv
  exact rv
theorem enum_at {items : List γ} {i : Nat} (h : i < ((rangeI 0 (items.length : Int)).zip items).length) (h2 : i < items.length) : ((rangeI 0 (items.length : Int)).zip items)[i] = ((i : Int), items[i]) := by
  have hz : ((rangeI 0 (items.length : Int)).zip items)[i]? = some ((i : Int), items[i]) := by
    rw [List.getElem?_zip_eq_some]
    exact ⟨by rw [rangeI_get (by omega)]; congr 1; omega, List.getElem?_eq_getElem h2⟩
  rw [List.getElem?_eq_getElem h] at hz
  exact Option.some.inj hz
theorem enum_len (items : List γ) : ((rangeI 0 (items.length : Int)).zip items).length = items.length := by
  rw [List.length_zip, rangeI_len]
  omega
theorem pair_enum {K : PySem.W.Frag} {ms : List Addr} {H1 : Hp} {items : List γ} {e2 : γ → D} {a : Addr} {xs : List V} (an : a ∉ ms) (ha : H1 a = some (.lst xs)) (hx : repL ms H1 (items.map e2) xs) :
    PairIt ms H1 (Ite K a) ((rangeI 0 (items.length : Int)).zip items) (fun i => .v (.int i)) e2 := by
  have hl : items.length = xs.length := by
    have := repL_len hx
    rwa [List.length_map] at this
  have w := walk_enum (K := K) (a := a) (xs := xs)
  rw [← hl, ← enum_len items] at w
  refine ⟨_, _, _, w, fun H k => .inl (.inl (k a _ an ha)), fun i x1 x2 H h k h1 h2 => ?_⟩
  have l2 : i < items.length := by rwa [enum_len] at h
  rw [enum_at h l2]
  have e1 : V.int (i : Nat) = x1 := Option.some.inj h1
  subst e1
  exact ⟨rep_v, repL_at (repL_keep k hx) l2 h2⟩
theorem pair_enumT {K : PySem.W.Frag} {ms : List Addr} {H1 : Hp} {items : List γ} {e2 : γ → D} {a : Addr} {xs : List V} (an : a ∉ ms) (ha : H1 a = some (.tup xs)) (hx : repL ms H1 (items.map e2) xs) :
    PairIt ms H1 (IteT K a) ((rangeI 0 (items.length : Int)).zip items) (fun i => .v (.int i)) e2 := by
  have hl : items.length = xs.length := by
    have := repL_len hx
    rwa [List.length_map] at this
  have w := walk_enumT (K := K) (a := a) (xs := xs)
  rw [← hl, ← enum_len items] at w
  refine ⟨_, _, _, w, fun H k => .inl (.inl (k a _ an ha)), fun i x1 x2 H h k h1 h2 => ?_⟩
  have l2 : i < items.length := by rwa [enum_len] at h
  rw [enum_at h l2]
  have e1 : V.int (i : Nat) = x1 := Option.some.inj h1
  subst e1
  exact ⟨rep_v, repL_at (repL_keep k hx) l2 h2⟩
theorem nin_new {ms : List Addr} {H1 : Hp} {a L : Addr} {o : HO} (nl : H1 L = none) (an : a ∉ ms) (ha : H1 a = some o) : a ∉ L :: ms := fun z => by
  rcases List.mem_cons.mp z with z | z
  · exact ne_of_none ha nl z
  · exact an z
variable {H1 : Hp} {g : TG} {tt : TT} {te : TE} {vl : List Nat} {σ : L2.St} {Qd : Hp → Prop} {L : Addr} {J : It}
theorem lf_pairG {items : List (α × γ)} {e : α → D} {e2 : γ → D} {ms : List Addr} {body : (α × γ) → (Option β → Prop) → Prop} {KM : List β → Prop} (SI : Nat → List β → Hp → Prop) (P : PairIt (L :: ms) H1 J items e e2)
    (kp : ∀ n ys H, SI n ys H → Keep (L :: ms) H1 H) (tr : ∀ n ys H, SI n ys H → ∀ m ∈ L :: ms, H m ≠ none) (hM : items.length < 100000 ∧ filC body items [] KM) (h0 : SI 0 [] (upd H1 L (.lst [])))
    (hs : ∀ (x : α × γ) (u : V) (n : Nat) (ys : List β) (k : Option β → Prop) (H H2 : Hp), n < 100000 → SI n ys H → Ext H H2 → rep (L :: ms) H2 (.tup [e x.1, e2 x.2]) u → body x k → ∀ Nx : Hp → Prop, (∀ y H', k (some y) → SI (n + 1) (ys ++ [y]) H' → Nx H') → (∀ H', k none → SI (n + 1) ys H' → Nx H') → Turn g tt te vl σ L u H2 Nx)
    (hd : ∀ n ys H, KM ys → SI n ys H → Qd H) :
    ∃ W : Nat → Nat → Hp → Prop, (∃ m, W 0 m (upd H1 L (.lst []))) ∧ ∀ i m H, W i m H →
      (J.stop i H ∧ Qd H) ∨ (J.go i H ∧ ∃ Nx : Hp → Prop, (∀ H', Nx H' → ∃ m', m' < m ∧ W (i + 1) m' H') ∧ ∀ x H', J.yld i H x H' → g x (wipe σ vl) H' fun σ2 H2 => wipe σ2 vl = wipe σ vl ∧ tt σ2 H2 fun b H3 =>
        if b = true then te σ2 H3 fun y H4 => ∃ acc, H4 L = some (.lst acc) ∧ acc.length < sizeLine ∧ Nx (upd H4 L (.lst (acc ++ [y]))) else Nx H3) := by
  obtain ⟨hn, hM⟩ := hM
  obtain ⟨p, q', G, w, hG, hat⟩ := P
  refine ⟨fun i m H => m = items.length - i ∧ i ≤ items.length ∧ ∃ ys, SI i ys H ∧ filC body (items.drop i) ys KM, ⟨_, rfl, Nat.zero_le _, [], h0, hM⟩, ?_⟩
  rintro i m H ⟨rfl, hi', ys, T, q⟩
  have hk := kp i ys H T
  by_cases hlt : i < items.length
  · refine .inr ⟨w.goes i H hlt (hG H hk), fun H' => i + 1 ≤ items.length ∧ ∃ ys, SI (i + 1) ys H' ∧ filC body (items.drop (i + 1)) ys KM, fun H' p' => ⟨_, by omega, rfl, p'⟩, fun x H' y => ?_⟩
    obtain ⟨T', x1, x2, rfl, nT, eH, e1, e3⟩ := w.yields i H x H' hlt (hG H hk) y
    rw [drop_cons' (List.getElem?_eq_getElem hlt)] at q
    obtain ⟨r1, r2⟩ := hat i x1 x2 H hlt hk e1 e3
    exact hs _ _ i ys _ H H' (by omega) T (by rw [eH]; exact Ext.new nT) (rep_pair (tr i ys H T) nT eH r1 r2) q _ (fun y H'' k T' => ⟨hlt, _, T', k⟩) fun H'' k T' => ⟨hlt, _, T', k⟩
  · have ei : i = items.length := by omega
    refine .inl ⟨by rw [ei]; exact w.stops H (hG H hk), ?_⟩
    rw [List.drop_of_length_le (by omega)] at q
    exact hd _ ys H q T
variable {tb : TS} {D' : Ends}
theorem for_pairG {items : List (α × γ)} {e : α → D} {e2 : γ → D} {ms : List Addr} {body : (α × γ) → S → (S → Prop) → Prop} {KM : S → Prop} (SI : S → L2.St → Hp → Prop) (s0 : S) (P : PairIt ms H1 J items e e2)
    (kp : ∀ s σ H, SI s σ H → Keep ms H1 H) (tr : ∀ s σ H, SI s σ H → ∀ m ∈ ms, H m ≠ none) (hM : forC body items s0 KM) (h0 : SI s0 σ H1)
    (hs : ∀ (x : α × γ) (u : V) (s : S) (k : S → Prop) (σ : L2.St) (H H2 : Hp), SI s σ H → Ext H H2 → rep ms H2 (.tup [e x.1, e2 x.2]) u → body x s k → ∀ Nx : L2.St → Hp → Prop, (∀ s' σ' H', k s' → SI s' σ' H' → Nx σ' H') →
      g u σ H2 fun σ2 H2 => tb { D' with nx := Nx, ct := Nx, bk := D'.nx } σ2 H2)
    (hd : ∀ s σ H, KM s → SI s σ H → D'.nx σ H) :
    ∃ W : Nat → Nat → L2.St → Hp → Prop, (∃ m, W 0 m σ H1) ∧ ∀ i m σ H, W i m σ H →
      (J.stop i H ∧ D'.nx σ H) ∨ (J.go i H ∧ ∃ Nx : L2.St → Hp → Prop, (∀ σ' H', Nx σ' H' → ∃ m', m' < m ∧ W (i + 1) m' σ' H') ∧ ∀ x H', J.yld i H x H' → g x σ H' fun σ2 H2 => tb { D' with nx := Nx, ct := Nx, bk := D'.nx } σ2 H2) := by
  obtain ⟨p, q', G, w, hG, hat⟩ := P
  refine L2.for_it w (D := D') (fun i σ H => ∃ s, SI s σ H ∧ forC body (items.drop i) s KM) ⟨s0, h0, hM⟩ (fun i σ H _ ⟨s, si, _⟩ => hG H (kp s σ H si)) (fun i u σ H H' hi ⟨s, si, q⟩ y => ?_) (fun σ H ⟨s, si, q⟩ => ?_)
  · obtain ⟨T, x1, x2, rfl, nT, eH, e1, e3⟩ := y
    have hk := kp s σ H si
    rw [drop_cons' (List.getElem?_eq_getElem hi)] at q
    obtain ⟨r1, r2⟩ := hat i x1 x2 H hi hk e1 e3
    exact hs _ (.ref T) s _ σ H H' si (by rw [eH]; exact Ext.new nT) (rep_pair (tr s σ H si) nT eH r1 r2) q _ fun s' σ' H'' hk si2 => ⟨s', si2, hk⟩
  · rw [List.drop_of_length_le (by omega)] at q
    exact hd s σ H q si
end
end Rx
namespace PySem.W
open PySem PySem.Calls PyProof.Rows Builtin
section
variable {prog : Program} {w : World} {A : Around} {E : Value → Shared → Prop} {s : Shared} {K : Frag} {x C L f : Addr} {h₀ : Heap} {m : Str → Option Value} {ox : Obj} {od : Option Obj}
end
end PySem.W
namespace Rx
open PySem PySem.Spec PyProof.Rows L2
abbrev GL (a : Addr) (rest : List Value) : List Code := [.builtin "list.__repr__.loop" ⟨.ref a :: rest, []⟩]
structure FnQ (P : Program) (w : World) (K : PySem.W.Frag) (mg : Str → Option Value) (base : Heap) (k : Nat) (f : Addr) (fd : FuncData) (ps : List Str) (sp : Addr → Sp) : Prop where
  len : ∀ a vs H Q E, sp a vs H Q E → vs.length = ps.length
  run : ∀ (a : Addr) (rest : List Value) (A : Around), A.guards = some (GL a rest) → Room k A → ∀ (outer : List Env) (s : Shared) (H : Hp) (args : Args) (us : List Value) (vs : List V) (Q : VK) (E : XK), Env0 P w K mg base A outer s H → BindsTo s fd args (ps.zip us) → Vals vs us → sp a vs H Q E →
    codeAny (model P w) A (.call (.ref f) args) (CR CX0 outer P w H s Q E) s
theorem FnQ.mono {P : Program} {w : World} {K : PySem.W.Frag} {mg : Str → Option Value} {base : Heap} {j k : Nat} {f : Addr} {fd : FuncData} {ps : List Str} {sp : Addr → Sp} (F : FnQ P w K mg base j f fd ps sp) (h : j ≤ k) : FnQ P w K mg base k f fd ps sp :=
  ⟨F.len, fun a rest A gu hr => F.run a rest A gu (hr.mono h)⟩
section
variable {P : Program} {w : World} {K : PySem.W.Frag} {mg : Str → Option Value} {base : Heap}
end
def NoRd (H : Hp) (a : Addr) : Prop := ∃ vs b C dx fs, H a = some (.lst vs) ∧ V.ref b ∈ vs ∧ H b = some (.ins C dx fs)
theorem NoRd.ext {H H' : Hp} {a : Addr} (h : NoRd H a) (e : Ret [] H H') : NoRd H' a := by
  obtain ⟨vs, b, C, dx, fs, h1, h2, h3⟩ := h
  exact ⟨vs, b, C, dx, fs, e.keep h1, h2, e.keep h3⟩
section
variable {X : Cx} {pins : List (Addr × Obj)} {σ : L2.St} {H : Hp} {s : Shared}
end
section
variable {X : Cx}
end
section
variable {X : Cx} {n : Nat} {C f : Addr} {fd : FuncData} {ps : List Str} {sp : Addr → Sp}
end
section
variable {α : Type} {e : α → D} {C : Addr} {ns : List Str} {ms : List Addr} {H : Hp} {M : α → (Str → Prop) → Prop} {sp : Addr → Sp} {Q : VK} {KM : List Str → Prop}
end
end Rx
namespace PySem.W
open Lean Elab Tactic Meta PySem PySem.Calls PyProof.Rows
section
variable {prog : Program} {w : World} {A : Around} {E : Value → Shared → Prop} {s : Shared} {K : Frag} {x y C L f : Addr} {h₀ : Heap} {m : Str → Option Value} {ox oy : Obj} {od oe : Option Obj}
end
end PySem.W
namespace Rx
open PySem PySem.Spec PyProof.Rows L2
structure OwnIn (K : PySem.W.Frag) (C : Addr) (op : Operator) (f : Addr) : Prop extends OwnBin K C op f where
  mro : ∃ cd, PySem.W.clsIn K C = some cd ∧ cd.mro = [.ref C, .type "object"]
  hi : PySem.W.findIn K (.ref C) (dunderI op.info.2) = some none
structure SMet (K : PySem.W.Frag) (C : Addr) (m : Str) (g : Addr) : Prop where
  mc : ∃ mc, ClX.CRead K C mc ∧ ∃ p, PySem.W.findCls K (.ref C) mc m = some (.get (.builtin "staticmethod.__get__") (.ref p) .none (.ref C)) ∧ ∃ rest, PySem.W.recIn K p "staticmethod" = some (.ref g :: rest)
section
variable {X : Cx} {CX : CXT} {k : Nat} {C g : Addr} {fd : FuncData} {ps : List Str} {sp : Sp} {E : XK} {o e : Expr} {es : List Expr} {m : Str} {pos apos : Pos} {ta : TE} {t : TA}
end
end Rx
namespace Rx
open PySem PySem.Spec PyProof.Rows L2
def Apart (d e : D) : Prop := ∀ (ms ms' : List Addr) (H : Hp) (u : V), rep ms H d u → rep ms' H e u → False
def flatV : V → Bool
  | .ref _ => false
  | _ => true
section
variable {x : V} {ds es : List D} {C C' : Addr} {ns ns' : List Str}
theorem Apart.symm {d e : D} (h : Apart d e) : Apart e d := fun ms ms' H u a b => h ms' ms H u b a
theorem ap_tl : Apart (.tup ds) (.lst es) := fun ms ms' H u a b => by
  simp only [rep] at a b
  obtain ⟨p, _, rfl, _, h, _⟩ := a
  obtain ⟨p', _, e, _, h', _⟩ := b
  cases e
  rw [h] at h'
  cases h'
theorem ap_ll {α β : Type} {f : α → D} {g : β → D} {xs : List α} {ys : List β} (hy : 0 < ys.length) (h : ∀ x y, Apart (f x) (g y)) : Apart (.lst (xs.map f)) (.lst (ys.map g)) := fun ms ms' H u a b => by
  simp only [rep] at a b
  obtain ⟨p, vs, rfl, _, h1, r1⟩ := a
  obtain ⟨p', vs', e', _, h2, r2⟩ := b
  cases e'
  rw [h1] at h2
  cases h2
  cases ys with
  | nil => exact absurd hy (Nat.lt_irrefl _)
  | cons y ys =>
    obtain ⟨u, us, rfl, q2, _⟩ := repL_uncons r2
    cases xs with
    | nil =>
      have := repL_empty r1
      cases this
    | cons x xs =>
      obtain ⟨u', us', e, q1, _⟩ := repL_uncons r1
      cases e
      exact h x y _ _ _ _ q1 q2
end
mutual
/-- no list within d can be the one that tells e -/
def ApIn (e : D) : D → Prop
  | .v _ => True
  | .lst ds => Apart (.lst ds) e ∧ ApIns e ds
  | .tup ds => ApIns e ds
  | .ins _ _ ds => ApIns e ds
  | .dct _ _ => False
  | .dcT _ _ => False
def ApIns (e : D) : List D → Prop
  | [] => True
  | d :: ds => ApIn e d ∧ ApIns e ds
end
theorem apIns_map {α : Type} {e : D} {f : α → D} (h : ∀ x, ApIn e (f x)) : ∀ xs : List α, ApIns e (xs.map f)
  | [] => by simp only [List.map_nil, ApIns]
  | x :: xs => by
    simp only [List.map_cons, ApIns]
    exact ⟨h x, apIns_map h xs⟩
section
variable {ms ms' : List Addr} {ps : List PEn} {H0 H : Hp} {L : Addr} {es : List D}
theorem ne_dr {p : Addr} (dr : Drop ms L ms') (n : p ∉ ms') (q : p ≠ L) : p ∉ ms := fun z => (dr.ex p z).elim n q
mutual
theorem rep_liftA (dr : Drop ms L ms') (m : MutO ms ps H0 H L (.lst es)) : ∀ (d : D) (u : V), ApIn (.lst es) d → rep ms' H d u → rep ms H d u
  | .v x, u, _, h => by
    simp only [rep] at h ⊢
    exact h
  | .lst ds, u, n, h => by
    simp only [ApIn] at n
    have h0 := h
    simp only [rep] at h ⊢
    obtain ⟨p, vs, rfl, np, hp, hl⟩ := h
    refine ⟨p, vs, rfl, ne_dr dr np fun z => ?_, hp, repL_liftA dr m ds vs n.2 hl⟩
    rw [z] at h0
    exact n.1 _ _ _ _ h0 (mo_rep (ms' := []) (by simp) (fun a ha => absurd ha List.not_mem_nil) m)
  | .tup ds, u, n, h => by
    simp only [ApIn] at n
    simp only [rep] at h ⊢
    obtain ⟨p, vs, rfl, np, hp, hl⟩ := h
    refine ⟨p, vs, rfl, ne_dr dr np fun z => ?_, hp, repL_liftA dr m ds vs n hl⟩
    have := m.isMo
    rw [← z, hp] at this
    exact this
  | .ins C ns ds, u, n, h => by
    simp only [ApIn] at n
    simp only [rep] at h ⊢
    obtain ⟨p, dx, vs, rfl, np, hp, hn, hl⟩ := h
    refine ⟨p, dx, vs, rfl, ne_dr dr np fun z => ?_, hp, hn, repL_liftA dr m ds vs n hl⟩
    have := m.isMo
    rw [← z, hp] at this
    exact this
  | .dct _ ds, u, n, h => by
    simp only [ApIn] at n
  | .dcT _ ds, u, n, h => by
    simp only [ApIn] at n
theorem repL_liftA (dr : Drop ms L ms') (m : MutO ms ps H0 H L (.lst es)) : ∀ (ds : List D) (us : List V), ApIns (.lst es) ds → repL ms' H ds us → repL ms H ds us
  | [], us, _, h => by
    simp only [repL] at h ⊢
    exact h
  | d :: ds, us, n, h => by
    simp only [ApIns] at n
    simp only [repL] at h ⊢
    obtain ⟨u, ws, e, h1, h2⟩ := h
    exact ⟨u, ws, e, rep_liftA dr m d u n.1 h1, repL_liftA dr m ds ws n.2 h2⟩
end
end
end Rx
namespace Rx
open PySem PySem.Spec PyProof.Rows L2
end Rx
namespace Rx
open PySem PySem.Spec PyProof.Rows L2
section
variable {e : D} {x : V} {C : Addr} {ns : List Str} {ds : List D}
theorem apIn_v : ApIn e (.v x) := by simp only [ApIn]
theorem apIn_l {α : Type} {f : α → D} {xs : List α} (h1 : Apart (.lst (xs.map f)) e) (h2 : ∀ x, ApIn e (f x)) : ApIn e (.lst (xs.map f)) := by
  simp only [ApIn]
  exact ⟨h1, apIns_map h2 xs⟩
theorem apIn_t (h : ApIns e ds) : ApIn e (.tup ds) := by
  simp only [ApIn]
  exact h
theorem apIns_nil : ApIns e [] := by simp only [ApIns]
theorem apIns_cons {d : D} (h : ApIn e d) (h2 : ApIns e ds) : ApIns e (d :: ds) := by
  simp only [ApIns]
  exact ⟨h, h2⟩
end
end Rx
namespace Rx
open PySem PySem.Spec PyProof.Rows L2
section
variable {α γ β : Type} {K : PySem.W.Frag} {H1 : Hp} {g : TG} {tt : TT} {te : TE} {vl : List Nat} {σ : L2.St} {Qd : Hp → Prop} {L : Addr}
end
end Rx
namespace Rx
open PySem PySem.Spec PyProof.Rows L2
section
variable {α : Type} {K : PySem.W.Frag} {H1 : Hp} {ms : List Addr}
theorem lc2_flat {items : List α} {e : α → D} {f : α → List V} {xs : List V} {a : Addr} {i j : Nat} {σ : L2.St} {Qd : Addr → Hp → Prop}
    (he : ∀ y, e y = D.tup ((f y).map D.v)) (an : a ∉ ms) (ha : H1 a = some (.lst xs)) (hx : repL ms H1 (items.map e) xs) (hz : (items.flatMap f).length ≤ 16777216)
    (hi : i < σ.length) (hj : j < σ.length) (ij : i ≠ j) (q : ∀ L, H1 L = none → Qd L (upd H1 L (.lst (items.flatMap f)))) :
    ∀ D, H1 D = none → ∃ W : Nat → Nat → Hp → Prop, (∃ m, W 0 m (upd H1 D (.lst []))) ∧ ∀ i' m H, W i' m H →
      ((Itl K a).stop i' H ∧ Qd D H) ∨ ((Itl K a).go i' H ∧ ∃ Nx : Hp → Prop, (∀ H', Nx H' → ∃ m', m' < m ∧ W (i' + 1) m' H') ∧ ∀ x H', (Itl K a).yld i' H x H' → gName i x (wipe σ [i, j]) H' fun σ2 H2 => wipe σ2 [i, j] = wipe σ [i, j] ∧ tYes σ2 H2 fun b H3 =>
        if b = true then iTup K (tVar i) σ2 H3 fun J1 H4 => ∃ W1 : Nat → Nat → Hp → Prop, (∃ m, W1 0 m H4) ∧ ∀ j' k H, W1 j' k H →
          (J1.stop j' H ∧ Nx H) ∨ (J1.go j' H ∧ ∃ Nx1 : Hp → Prop, (∀ H', Nx1 H' → ∃ k', k' < k ∧ W1 (j' + 1) k' H') ∧ ∀ x H', J1.yld j' H x H' → gName j x (wipe σ2 [j]) H' fun σ3 H5 => wipe σ3 [j] = wipe σ2 [j] ∧ tYes σ3 H5 fun b H6 =>
            if b = true then tVar j σ3 H6 fun y H7 => ∃ acc, H7 D = some (.lst acc) ∧ acc.length < sizeLine ∧ Nx1 (upd H7 D (.lst (acc ++ [y]))) else Nx1 H6)
        else Nx H3) := by
  intro L nl
  have hl : items.length = xs.length := by
    have := repL_len hx
    rwa [List.length_map] at this
  have aL : a ≠ L := ne_of_none ha nl
  have hx1 : ∀ acc : List V, repL (L :: ms) (upd H1 L (.lst acc)) (items.map e) xs := fun acc => repL_map (fun p o n hp => ⟨fun z => by
    rcases List.mem_cons.mp z with z | z
    · exact ne_of_none hp nl z
    · exact n z, by rw [upd_ne (ne_of_none hp nl)]; exact hp⟩) _ _ hx
  refine ⟨fun i' m H => m = xs.length - i' ∧ i' ≤ xs.length ∧ H = upd H1 L (.lst ((items.take i').flatMap f)), ⟨_, rfl, Nat.zero_le _, rfl⟩, ?_⟩
  rintro i' m H ⟨rfl, hi', rfl⟩
  have hA : (upd H1 L (.lst ((items.take i').flatMap f))) a = some (.lst xs) := by rw [upd_ne aL]; exact ha
  by_cases hlt : i' < xs.length
  · refine .inr ⟨⟨xs, xs[i'], .inl (.inl hA), by simp [hlt]⟩, fun H' => H' = upd H1 L (.lst ((items.take (i' + 1)).flatMap f)), fun H' p' => ⟨_, by omega, rfl, hlt, p'⟩, fun x H' y => ?_⟩
    obtain ⟨e1, y⟩ := y
    subst e1
    have hxi := y xs (.inl (.inl hA))
    have hit : items[i']? = some (items[i']'(by omega)) := List.getElem?_eq_getElem (by omega)
    generalize items[i']'(by omega) = it at hit
    obtain ⟨v, hv, rv⟩ := repL_get (hx1 ((items.take i').flatMap f)) (j := i') (d := e it) (by rw [List.getElem?_map, hit]; rfl)
    rw [hxi] at hv
    obtain rfl : x = v := Option.some.inj hv
    rw [he] at rv
    simp only [rep] at rv
    obtain ⟨b, us, rfl, nb, hb, hr⟩ := rv
    obtain rfl : us = f it := repL_flat.mp hr
    have bL : b ≠ L := fun z => nb (by rw [z]; exact List.mem_cons_self)
    have hb1 : H1 b = some (.tup (f it)) := by rw [upd_ne bL] at hb; exact hb
    have tk : items.take (i' + 1) = items.take i' ++ [it] := by
      rw [List.take_add_one, hit]
      rfl
    have hz1 : ((items.take i').flatMap f).length + (f it).length ≤ 16777216 := by
      have : ((items.take (i' + 1)).flatMap f).length ≤ (items.flatMap f).length := by
        conv => rhs; rw [← List.take_append_drop (i' + 1) items, List.flatMap_append, List.length_append]
        exact Nat.le_add_right _ _
      rw [tk, List.flatMap_append, List.length_append] at this
      simp only [List.flatMap_cons, List.flatMap_nil, List.append_nil] at this
      omega
    have li : i < (wipe σ [i, j]).length := by rw [wipe_length]; exact hi
    show wipe ((wipe σ [i, j]).set i (some (.ref b))) [i, j] = wipe σ [i, j] ∧ _
    refine ⟨by rw [wipe_set (by simp), wipe_idem], ?_⟩
    unfold tYes
    simp only [if_true]
    refine ⟨.ref b, by rw [List.getElem?_set_self li], b, rfl, ⟨f it, .inl (.inl hb)⟩, ?_⟩
    refine ⟨fun j' k H => k = (f it).length - j' ∧ j' ≤ (f it).length ∧ H = upd H1 L (.lst ((items.take i').flatMap f ++ (f it).take j')), ⟨_, rfl, Nat.zero_le _, by simp⟩, ?_⟩
    rintro j' k H ⟨rfl, hj', rfl⟩
    have hB : (upd H1 L (.lst ((items.take i').flatMap f ++ (f it).take j'))) b = some (.tup (f it)) := by rw [upd_ne bL]; exact hb1
    by_cases hlt2 : j' < (f it).length
    · refine .inr ⟨⟨f it, (f it)[j'], .inl (.inl hB), by simp [hlt2]⟩, fun H' => H' = upd H1 L (.lst ((items.take i').flatMap f ++ (f it).take (j' + 1))), fun H' p' => ⟨_, by omega, rfl, hlt2, p'⟩, fun x H' y => ?_⟩
      obtain ⟨e1, y⟩ := y
      subst e1
      have hxj := y (f it) (.inl (.inl hB))
      have lj : j < (wipe ((wipe σ [i, j]).set i (some (.ref b))) [j]).length := by rw [wipe_length, List.length_set, wipe_length]; exact hj
      show wipe ((wipe ((wipe σ [i, j]).set i (some (.ref b))) [j]).set j (some x)) [j] = wipe ((wipe σ [i, j]).set i (some (.ref b))) [j] ∧ _
      refine ⟨by rw [wipe_set (by simp), wipe_idem], ?_⟩
      refine ⟨x, by rw [List.getElem?_set_self lj], _, upd_same, ?_, ?_⟩
      · rw [List.length_append, List.length_take, sizeLine_eq]
        omega
      · rw [upd_upd, List.append_assoc, List.take_add_one, hxj]
        rfl
    · refine .inl ⟨⟨f it, .inl (.inl hB), by omega⟩, ?_⟩
      show _ = _
      rw [tk, List.flatMap_append, List.take_of_length_le (l := f it) (by omega)]
      simp
  · refine .inl ⟨⟨xs, .inl (.inl hA), by omega⟩, ?_⟩
    rw [List.take_of_length_le (by omega)]
    exact q L nl
theorem lc2_flatC {β : Type} {items : List α} {e : α → D} {g : α → List β} {c : β → V} {xs : List V} {a : Addr} {i j : Nat} {σ : L2.St} {Qd : Addr → Hp → Prop}
    (he : ∀ y, e y = D.tup ((g y).map fun z => D.v (c z))) (an : a ∉ ms) (ha : H1 a = some (.lst xs)) (hx : repL ms H1 (items.map e) xs) (hz : (items.flatMap g).length ≤ 16777216)
    (hi : i < σ.length) (hj : j < σ.length) (ij : i ≠ j) (q : ∀ L, H1 L = none → Qd L (upd H1 L (.lst ((items.flatMap g).map c)))) :
    ∀ D, H1 D = none → ∃ W : Nat → Nat → Hp → Prop, (∃ m, W 0 m (upd H1 D (.lst []))) ∧ ∀ i' m H, W i' m H →
      ((Itl K a).stop i' H ∧ Qd D H) ∨ ((Itl K a).go i' H ∧ ∃ Nx : Hp → Prop, (∀ H', Nx H' → ∃ m', m' < m ∧ W (i' + 1) m' H') ∧ ∀ x H', (Itl K a).yld i' H x H' → gName i x (wipe σ [i, j]) H' fun σ2 H2 => wipe σ2 [i, j] = wipe σ [i, j] ∧ tYes σ2 H2 fun b H3 =>
        if b = true then iTup K (tVar i) σ2 H3 fun J1 H4 => ∃ W1 : Nat → Nat → Hp → Prop, (∃ m, W1 0 m H4) ∧ ∀ j' k H, W1 j' k H →
          (J1.stop j' H ∧ Nx H) ∨ (J1.go j' H ∧ ∃ Nx1 : Hp → Prop, (∀ H', Nx1 H' → ∃ k', k' < k ∧ W1 (j' + 1) k' H') ∧ ∀ x H', J1.yld j' H x H' → gName j x (wipe σ2 [j]) H' fun σ3 H5 => wipe σ3 [j] = wipe σ2 [j] ∧ tYes σ3 H5 fun b H6 =>
            if b = true then tVar j σ3 H6 fun y H7 => ∃ acc, H7 D = some (.lst acc) ∧ acc.length < sizeLine ∧ Nx1 (upd H7 D (.lst (acc ++ [y]))) else Nx1 H6)
        else Nx H3) := by
  have ef : items.flatMap (fun y => (g y).map c) = (items.flatMap g).map c := by rw [List.map_flatMap]
  refine lc2_flat (f := fun y => (g y).map c) (fun y => ?_) an ha hx ?_ hi hj ij ?_
  · rw [he, List.map_map]
    rfl
  · rw [ef, List.length_map]
    exact hz
  · rw [ef]
    exact q
end
section
end
section
def rClearO : V → List V → Hp → VK → Prop := fun x vs H Q => ∃ l xs, x = .ref l ∧ vs = [] ∧ H l = some (.lst xs) ∧ Q .non (upd H l (.lst []))
theorem mt_clearO {X : Cx} : MtM X "list.clear" rClearO := by
  intro pins s σ H x vs v us Q I rx rv h
  obtain ⟨l, xs, rfl, rfl, hH, q⟩ := h
  cases rx
  have hus := rv.zero
  subst hus
  obtain ⟨z, its, n, r, hl, e⟩ := I.lstM hH
  refine call_meets PySem.F.slot_list_clear ⟨_, e, rfl⟩ PySem.F.entry_list_clear (PySem.F.args_list_clear_1 _) (AutoSeq1.list_clear_list_0 l its.toArray n (by rw [List.size_toArray]; omega)) ⟨e, ?_⟩
  exact ⟨.non, _, I.lset (its' := []) hH e rfl .nil (Nat.zero_le _), rfl, q⟩
end
section
variable {K : PySem.W.Frag} {ms : List Addr} {ps : List PEn} {H0 H : Hp} {x : V} {L : Addr} {ds : List D}
theorem mo_clearU {Q : VK} (m : MutO ms ps H0 H L (.lst ds)) (q : Q .non (upd H L (.lst []))) : rClearO (.ref L) [] H Q := by
  obtain ⟨vs, h1, h2⟩ := m.val
  exact ⟨L, vs, rfl, rfl, h1, q⟩
theorem pi_tupK {X : Cx} {tg l : PySem.Expr} {tl : TE} (hK : X.K = K) (hl : PE X l tl) : PI X tg l (iTup K tl) := by
  subst hK
  exact pi_tup hl
theorem pi_listK {X : Cx} {tg l : PySem.Expr} {tl : TE} (hK : X.K = K) (hl : PE X l tl) : PI X tg l (iList K tl) := by
  subst hK
  exact pi_list hl
theorem cr_sortedPK {X : Cx} (hK : X.K = K) : CallR X (.builtin "sorted") (rSortedPO K) := by
  subst hK
  exact cr_sortedPO
abbrev encP2 (y : Int × Int) : D := D.tup [D.v (V.int y.1), D.v (V.int y.2)]
def keyP (H : Hp) : V → Int × Int
  | .ref t => match H t with
    | some (.tup [.int i, .int j]) => (i, j)
    | _ => (0, 0)
  | _ => (0, 0)
theorem rep_p2 {y : Int × Int} {v : V} (h : rep ms H (encP2 y) v) : keyP H v = y ∧ ∃ t, v = .ref t ∧ H t = some (.tup [.int y.1, .int y.2]) := by
  simp only [rep] at h
  obtain ⟨p, vs, rfl, _, hp, hr⟩ := h
  obtain ⟨u1, r1, rfl, h1, hr⟩ := repL_uncons hr
  obtain ⟨u2, r2, rfl, h2, hr⟩ := repL_uncons hr
  obtain rfl := repL_empty hr
  obtain rfl := of_v h1
  obtain rfl := of_v h2
  refine ⟨?_, p, rfl, hp⟩
  unfold keyP
  simp only [hp]
theorem repL_keysP : ∀ {xs : List (Int × Int)} {vs : List V}, repL ms H (xs.map encP2) vs → vs.map (keyP H) = xs ∧ ∀ v ∈ vs, rep ms H (encP2 (keyP H v)) v
  | [], vs, h => by
    obtain rfl := repL_empty h
    exact ⟨rfl, fun v hv => absurd hv List.not_mem_nil⟩
  | y :: xs, vs, h => by
    obtain ⟨u, us, rfl, h1, h2⟩ := repL_uncons h
    obtain ⟨e, f⟩ := repL_keysP h2
    have k1 := (rep_p2 h1).1
    refine ⟨by rw [List.map_cons, e, k1], fun v hv => ?_⟩
    rcases List.mem_cons.mp hv with rfl | hv
    · rw [k1]
      exact h1
    · exact f v hv
theorem repL_of_keysP : ∀ {vs : List V}, (∀ v ∈ vs, rep ms H (encP2 (keyP H v)) v) → repL ms H ((vs.map (keyP H)).map encP2) vs
  | [], _ => repL_nil
  | v :: vs, h => repL_cons (h v List.mem_cons_self) (repL_of_keysP fun u hu => h u (List.mem_cons_of_mem _ hu))
def lePI (a b : Int × Int) : Prop := a.1 < b.1 ∨ (a.1 = b.1 ∧ a.2 ≤ b.2)
theorem lexB_le {a b : Int × Int} (h : SrtO.lexB b a = false) : lePI a b := by
  have := SrtO.lexB_no.mp h
  unfold lePI
  omega
theorem rep_sortP {xs : List (Int × Int)} {P : List V → Addr → Prop} (h : rep ms H (.lst (xs.map encP2)) x)
    (q : ∀ (ys : List (Int × Int)) (zs : List V), ys.Perm xs → ys.Pairwise lePI → repL ms H (ys.map encP2) zs → ∀ p, H p = none → P zs p) :
    ∃ (a : Addr) (vs : List V) (k : V → Int × Int), [x] = [V.ref a] ∧ SqL K H a vs ∧ (∀ x ∈ vs, ∃ t, x = V.ref t ∧ H t = some (.tup [.int (k x).1, .int (k x).2])) ∧
      ∀ (zs : List V) (p : Addr), SrtO.Srtd (ltP k) zs → SrtO.Stb (ltP k) zs vs → H p = none → P zs p := by
  simp only [rep] at h
  obtain ⟨p, vs, rfl, _, hp, hr⟩ := h
  obtain ⟨e, f⟩ := repL_keysP hr
  refine ⟨p, vs, keyP H, rfl, .inl (.inl hp), fun v hv => (rep_p2 (f v hv)).2, fun zs l srt stb nl => ?_⟩
  refine q (zs.map (keyP H)) zs ?_ ?_ (repL_of_keysP fun v hv => f v (stb.perm.mem_iff.mp hv)) l nl
  · rw [← e]
    exact stb.perm.map _
  · refine List.pairwise_map.mpr (List.Pairwise.imp ?_ srt)
    intro a b hab
    exact lexB_le hab
end
section
section
variable {X : Cx} {pins : List (Addr × Obj)} {σ : L2.St} {H : Hp} {s : Shared} {ms : List Addr}
end
end
section
variable {ms : List Addr} {p : Addr} {He H0 H H1 : Hp}
end
end Rx
namespace Rx
open PySem PySem.Spec PyProof.Rows L2
end Rx
namespace Rx
open PySem PySem.Spec PyProof.Rows L2
section
variable {ms : List Addr} {ps ps' : List PEn} {cs : List (Addr × List V)} {H0 H H' : Hp}
end
end Rx
namespace Rx
open PySem PySem.Spec PyProof.Rows L2
end Rx
namespace Rx
open PySem PySem.Spec PyProof.Rows L2
section
variable {ms ms' : List Addr} {ps : List PEn} {cs : List (Addr × List V)} {H0 H H1 H' : Hp} {C : Addr} {ns : List Str} {ds : List D} {cls : Value} {d : Option Addr}
end
inductive ClsOk (X : Cx) (n : Str) : List ExceptHandler → List (Value × (Addr → Value → Option Addr → TS)) → Prop
  | nil : ClsOk X n [] []
  | cons {x : Str} {c : Value} {ts : Addr → Value → Option Addr → TS} {st1 : Stmt} {suite : List Stmt} {np pos' : Pos} {hds : List ExceptHandler} {l : List (Value × (Addr → Value → Option Addr → TS))} (names : Names X x c)
      (each : ∀ (a : Addr) (oe : Obj) (cls : Value) (d : Option Addr) (pn : List (Addr × Obj)), Zc cls d oe → (∃ vs, oe.data = .fields vs) → PSs (X.suite a ((a, oe) :: pn)) (st1 :: suite) (ts a cls d)) (r : ClsOk X n hds l) :
      ClsOk X n (.ExceptHandler (some (.Name x np)) (some n) (st1 :: suite) pos' :: hds) ((c, ts) :: l)
end Rx
namespace Rx
open PySem PySem.Spec PyProof.Rows L2
section
variable {X : Cx} {pins : List (Addr × Obj)} {σ : L2.St} {H : Hp} {s : Shared}
end
def pyKey : Key → PyData
  | .inl i => .int i
  | .inr z => .str z
mutual
def pyX : D → PyData
  | .v .non => .none
  | .v (.bl b) => .bool b
  | .v (.int i) => .int i
  | .v (.str z) => .str z
  | .v _ => .none
  | .lst ds => .list (pyXs ds)
  | .tup ds => .tuple (pyXs ds)
  | .ins _ _ _ => .none
  | .dct ks ds => .dict ((ks.map pyKey).zip (pyXs ds))
  | .dcT _ _ => .none
def pyXs : List D → List PyData
  | [] => []
  | d :: ds => pyX d :: pyXs ds
def plainX : D → Bool
  | .v .non => true
  | .v (.bl _) => true
  | .v (.int _) => true
  | .v (.str _) => true
  | .v _ => false
  | .lst ds => plainXs ds
  | .tup ds => plainXs ds
  | .ins _ _ _ => false
  | .dct ks ds => decide (ks.length = ds.length) && plainXs ds
  | .dcT _ _ => false
def plainXs : List D → Bool
  | [] => true
  | d :: ds => plainX d && plainXs ds
end
section
variable {X : Cx} {pins : List (Addr × Obj)} {σ : L2.St} {H : Hp} {s : Shared} {ms : List Addr}
abbrev ShX (X : Cx) (s : Shared) (v : Value) (d : PyData) : Prop := ∃ as bs, Reads s.heap v d as ∧ ReadAtMost s.heap d.depth bs ∧ ReprK X.prog X.w bs s.heap d.depth v d.shown
abbrev ShXs (X : Cx) (s : Shared) (vs : List Value) (ds : List PyData) : Prop := ∃ as bs, ReadsAll s.heap vs ds as ∧ ReadAtMost s.heap (PyData.depthAll ds) bs ∧ ReprAllK X.prog X.w bs s.heap (PyData.depthAll ds) vs (PyData.shownAll ds)
theorem pyXs_len : ∀ ds : List D, (pyXs ds).length = ds.length
  | [] => rfl
  | d :: ds => by
    simp only [pyXs, List.length_cons]
    rw [pyXs_len ds]
theorem entries_vals {P : Program} {w : World} : ∀ {ks : List Key} {vs : List V} {ws : List (Key × Value)} {es : List DictEntry}, ks.length = vs.length → KV (ks.zip vs) ws → Pairs (mixKind P w) es ws →
    Vals (ks.map kV) (es.map (·.key)) ∧ Vals vs (es.map (·.val))
  | [], [], _, _, _, kv, pr => by
    cases kv
    cases pr
    exact ⟨.nil, .nil⟩
  | k :: ks, v :: vs, _, _, hl, kv, pr => by
    cases kv with
    | cons h1 h2 =>
      cases pr with
      | cons e1 e2 e3 =>
        obtain ⟨i1, i2⟩ := entries_vals (by simpa using hl) h2 e3
        exact ⟨.cons (relV_key (by have z := e1; rw [← h1.1] at z; exact z)) i1, .cons (by have z := h1.2; rw [← e2] at z; exact z) i2⟩
  | [], _ :: _, _, _, hl, _, _ => by simp at hl
  | _ :: _, [], _, _, hl, _, _ => by simp at hl
theorem shKeys (X : Cx) (s : Shared) : ∀ (ks : List Key) (us : List Value), Vals (ks.map kV) us → PyData.showableAll (ks.map pyKey) = true → (∀ t ∈ PyData.shownAll (ks.map pyKey), t.length ≤ sizeLine) → ShXs X s us (ks.map pyKey)
  | [], us, r, _, _ => by
    cases r
    exact ⟨_, [], .nil, (fun _ z => nomatch z), by simp only [List.map_nil, PyData.shownAll]; exact .nil⟩
  | k :: ks, us, r, sh, sz => by
    cases r with
    | cons r1 r2 =>
      simp only [List.map_cons, PyData.showableAll, PyData.shownAll, Bool.and_eq_true] at sh sz ⊢
      obtain ⟨a2, b2, d2, m2, k2⟩ := shKeys X s ks _ r2 sh.2 (fun t ht => sz t (List.mem_cons_of_mem _ ht))
      have one : ∀ v', RelV (kV k) v' → ShX X s v' (pyKey k) := fun v' r1 => by
        cases k with
        | inl i =>
          obtain ⟨t, rfl⟩ := r1
          exact ⟨_, [], .int i t, (fun _ z => nomatch z), by simp only [pyKey, PyData.shown]; exact .of_is (ReprIs.int t (by simpa [pyKey, PyData.showable] using sh.1)) _ _ _⟩
        | inr z =>
          obtain ⟨t, rfl⟩ := r1
          exact ⟨_, [], .str z t, (fun _ z => nomatch z), by simp only [pyKey, PyData.shown]; exact .of_is (ReprIs.str z t (by simpa only [pyKey, PyData.shown] using sz _ List.mem_cons_self)) _ _ _⟩
      obtain ⟨a1, b1, d1, m1, k1⟩ := one _ r1
      refine ⟨_, b1 ++ b2, .cons d1 d2, ?_, ?_⟩
      · simp only [PyData.depthAll]
        exact ReadAtMost.append (m1.mono (Nat.le_max_left _ _)) (m2.mono (Nat.le_max_right _ _))
      · simp only [PyData.depthAll]
        exact .cons ((k1.more fun _ z => List.mem_append_left _ z).level_le (Nat.le_max_left _ _)) (k2.more_le (fun _ z => List.mem_append_right _ z) (Nat.le_max_right _ _))
theorem reads_nil {h : Heap} {xs : List PyData} {as : List Addr} (r : ReadsAll h [] xs as) : xs = [] := by
  cases r
  rfl
mutual
theorem shX (I : L2.Inv X pins σ H s) : ∀ (d : D) (u : V) (v : Value), plainX d = true → rep ms H d u → RelV u v → (pyX d).showable = true → (pyX d).shown.length ≤ sizeLine → ShX X s v (pyX d)
  | .v x, u, v, p, h, r, sh, sz => by
    obtain rfl := of_v h
    cases u <;> simp only [plainX, pyX] at p sh sz ⊢
    case non =>
      cases r
      exact ⟨_, [], .none, (fun _ z => nomatch z), by simp only [PyData.shown]; exact .of_is ReprIs.none _ _ _⟩
    case bl b =>
      cases r
      exact ⟨_, [], .bool b, (fun _ z => nomatch z), by simp only [PyData.shown]; exact .of_is (ReprIs.bool b) _ _ _⟩
    case int i =>
      obtain ⟨t, rfl⟩ := r
      exact ⟨_, [], .int i t, (fun _ z => nomatch z), by simp only [PyData.shown]; exact .of_is (ReprIs.int t (by simpa [PyData.showable] using sh)) _ _ _⟩
    case str z =>
      obtain ⟨t, rfl⟩ := r
      exact ⟨_, [], .str z t, (fun _ z => nomatch z), by simp only [PyData.shown]; exact .of_is (ReprIs.str z t (by simpa only [PyData.shown] using sz)) _ _ _⟩
    all_goals cases p
  | .lst ds, u, v, p, h, r, sh, sz => by
    simp only [rep] at h
    obtain ⟨a, vs, rfl, _, hp, hl⟩ := h
    cases r
    obtain ⟨its, rv, ⟨o, n, ho, hc, _, hd⟩, _⟩ := I.list (.inl (.inl hp))
    simp only [plainX] at p
    simp only [pyX, PyData.showable, PyData.shown] at sh sz ⊢
    obtain ⟨as, bs, rd, most, all⟩ := shXs I ds vs its p hl rv sh (fun t ht => Nat.le_trans (listText_mem_le ht) sz)
    have rl : Reads s.heap (.ref a) (.list (pyXs ds)) _ := Reads.list ho hc hd rd
    have na : a ∉ bs := not_mem_of_deeper rl (by simp only [PyData.depth]; omega) most
    refine ⟨_, a :: bs, rl, ReadAtMost.cons rl (by simp only [PyData.depth]; omega) most, ?_⟩
    simp only [PyData.depth, PyData.shown]
    cases its with
    | nil =>
      rw [reads_nil rd]
      simp only [PyData.shownAll, listText_nil]
      exact ReprK.listEmpty ho hc hd
    | cons y l => exact ReprK.list ho hc hd na (by simpa using all.length_eq) (fun j z e => all.item j z (by simpa using e))
  | .tup ds, u, v, p, h, r, sh, sz => by
    simp only [rep] at h
    obtain ⟨a, vs, rfl, _, hp, hl⟩ := h
    cases r
    obtain ⟨its, rv, ⟨o, ho, hc, n, hd⟩, _⟩ := I.tuple (.inl (.inl hp))
    simp only [plainX] at p
    simp only [pyX, PyData.showable, PyData.shown] at sh sz ⊢
    obtain ⟨as, bs, rd, most, all⟩ := shXs I ds vs its p hl rv sh (fun t ht => Nat.le_trans (tupleText_mem_le ht) sz)
    have rl : Reads s.heap (.ref a) (.tuple (pyXs ds)) _ := Reads.tuple ho hc hd rd
    have na : a ∉ bs := not_mem_of_deeper rl (by simp only [PyData.depth]; omega) most
    refine ⟨_, a :: bs, rl, ReadAtMost.cons rl (by simp only [PyData.depth]; omega) most, ?_⟩
    simp only [PyData.depth, PyData.shown]
    exact ReprK.tuple ho hc hd na all
  | .ins _ _ _, u, v, p, h, r, sh, sz => by simp only [plainX] at p; cases p
  | .dct ks ds, u, v, p, h, r, sh, sz => by
    simp only [rep] at h
    obtain ⟨a, vs, rfl, _, hp, hlk, hl⟩ := h
    cases r
    obtain ⟨_, low, ws, kv, o, es, ep, ho, hc, hd, _, pr, _⟩ := dk_of I.hok hp
    simp only [plainX, Bool.and_eq_true, decide_eq_true_eq] at p
    obtain ⟨vk, vv⟩ := entries_vals (ks := ks) hlk kv pr
    have lx : (ks.map pyKey).length = (pyXs ds).length := by rw [List.length_map, pyXs_len]; exact p.1
    simp only [pyX, PyData.showable, PyData.shown] at sh sz ⊢
    generalize hkv : (ks.map pyKey).zip (pyXs ds) = kvs at sh sz ⊢
    have f1 : kvs.map (·.1) = ks.map pyKey := by rw [← hkv]; exact List.map_fst_zip (by omega)
    have f2 : kvs.map (·.2) = pyXs ds := by rw [← hkv]; exact List.map_snd_zip (by omega)
    obtain ⟨s1, s2⟩ := PyData.showableKv_split kvs sh
    obtain ⟨as1, b1, d1, m1, k1⟩ := shKeys X s ks _ vk (by rw [← f1]; exact s1) (fun t ht => let ⟨q, hq, hql⟩ := PyData.shownKv_key_le kvs t (by rw [f1]; exact ht); Nat.le_trans hql (Nat.le_trans (dictText_mem_le hq) sz))
    obtain ⟨as2, b2, d2, m2, k2⟩ := shXs I ds vs _ p.2 hl vv (by rw [← f2]; exact s2) (fun t ht => let ⟨q, hq, hql⟩ := PyData.shownKv_val_le kvs t (by rw [f2]; exact ht); Nat.le_trans hql (Nat.le_trans (dictText_mem_le hq) sz))
    rw [← f1] at d1 m1 k1
    rw [← f2] at d2 m2 k2
    have rl : Reads s.heap (.ref a) (.dict kvs) _ := Reads.dict ho hc.1 hd d1 d2
    have hb : ReadAtMost s.heap (PyData.depthKv kvs) (b1 ++ b2) := (m1.mono (PyData.depthAll_keys_le kvs)).append (m2.mono (PyData.depthAll_vals_le kvs))
    have na : a ∉ b1 ++ b2 := not_mem_of_deeper rl (by simp only [PyData.depth]; omega) hb
    refine ⟨_, a :: (b1 ++ b2), rl, ReadAtMost.cons rl (by simp only [PyData.depth]; omega) hb, ?_⟩
    simp only [PyData.depth, PyData.shown, PyData.shownKv_eq]
    exact ReprK.dict ho hc.1 hd low na (ReprEntriesK.of_two es.toList _ _
      (k1.more_le (fun b hb => List.mem_append_left _ hb) (PyData.depthAll_keys_le kvs)) (k2.more_le (fun b hb => List.mem_append_right _ hb) (PyData.depthAll_vals_le kvs)))
  | .dcT _ _, u, v, p, h, r, sh, sz => by simp only [plainX] at p; cases p
theorem shXs (I : L2.Inv X pins σ H s) : ∀ (ds : List D) (us : List V) (vs : List Value), plainXs ds = true → repL ms H ds us → Vals us vs → PyData.showableAll (pyXs ds) = true → (∀ t ∈ PyData.shownAll (pyXs ds), t.length ≤ sizeLine) → ShXs X s vs (pyXs ds)
  | [], us, vs, p, h, r, sh, sz => by
    obtain rfl := repL_empty h
    cases r
    simp only [pyXs]
    exact ⟨_, [], .nil, (fun _ z => nomatch z), by simp only [PyData.shownAll]; exact .nil⟩
  | d :: ds, us, vs, p, h, r, sh, sz => by
    obtain ⟨u, ws, rfl, h1, h2⟩ := repL_uncons h
    cases r with
    | cons r1 r2 =>
      simp only [plainXs, Bool.and_eq_true] at p
      simp only [pyXs, PyData.showableAll, PyData.shownAll, Bool.and_eq_true] at sh sz ⊢
      obtain ⟨a1, b1, d1, m1, k1⟩ := shX I d u _ p.1 h1 r1 sh.1 (sz _ List.mem_cons_self)
      obtain ⟨a2, b2, d2, m2, k2⟩ := shXs I ds ws _ p.2 h2 r2 sh.2 (fun t ht => sz t (List.mem_cons_of_mem _ ht))
      refine ⟨_, b1 ++ b2, .cons d1 d2, ?_, ?_⟩
      · simp only [PyData.depthAll]
        exact ReadAtMost.append (m1.mono (Nat.le_max_left _ _)) (m2.mono (Nat.le_max_right _ _))
      · simp only [PyData.depthAll]
        exact .cons ((k1.more fun _ z => List.mem_append_left _ z).level_le (Nat.le_max_left _ _)) (k2.more_le (fun _ z => List.mem_append_right _ z) (Nat.le_max_right _ _))
end
end
def rReprX (ms : List Addr) : List V → Hp → VK → Prop := fun xs H Q => ∃ (x : V) (d : D), xs = [x] ∧ rep ms H d x ∧ plainX d = true ∧ (pyX d).showable = true ∧ (pyX d).depth ≤ 60 ∧ (pyX d).shown.length ≤ sizeLine ∧ Q (.str (pyX d).shown) H
theorem call_reprX {X : Cx} {ms : List Addr} (gu : X.A.guards = some []) (un : X.A.units + 65 < cLine) : CallR X (.builtin "repr") (rReprX ms) := by
  intro pins s σ H xs us Q I r h
  obtain ⟨x, d, rfl, rp, pl, sh, dep, sz, q⟩ := h
  obtain ⟨u, rfl, ru⟩ := r.one
  have fin : ∀ (h' : Heap) (t2 : Tok) (tk : Nat), (∀ b o, s.heap.get? b = some o → h'.get? b = some o) → EP X pins σ Q (.str (pyX d).shown t2) { s with heap := h', toks := tk } := fun h' t2 tk keep => ⟨.str (pyX d).shown, H, I.kept keep, ⟨t2, rfl⟩, q⟩
  cases d with
  | v y =>
    obtain rfl := of_v rp
    cases x <;> simp only [plainX, pyX] at pl sh sz q fin ⊢
    case non =>
      cases ru
      exact P.repr_of_none ⟨.str PyData.none.shown, H, I.tok _, ⟨_, rfl⟩, q⟩
    case bl b =>
      cases ru
      exact P.repr_of_bool ⟨.str (PyData.bool b).shown, H, I.tok _, ⟨_, rfl⟩, q⟩
    case int i =>
      obtain ⟨t, rfl⟩ := ru
      exact P.repr_of_int (of_decide_eq_true sh) ⟨.str (PyData.int i).shown, H, I.tok _, ⟨_, rfl⟩, q⟩
    case str z =>
      obtain ⟨t, rfl⟩ := ru
      exact P.repr_of_str ⟨.str (PyData.str z).shown, H, I.tok _, ⟨_, rfl⟩, q⟩ sz
    all_goals cases pl
  | lst ds =>
    simp only [rep] at rp
    obtain ⟨a, vs, rfl, _, hp, hl⟩ := rp
    cases ru
    obtain ⟨its, rv, ⟨o, n, ho, hc, _, hd⟩, _⟩ := I.list (.inl (.inl hp))
    simp only [plainX] at pl
    simp only [pyX, PyData.showable, PyData.shown, PyData.depth] at sh sz dep fin ⊢
    obtain ⟨as, bs, rd, most, all⟩ := shXs I ds vs its pl hl rv sh (fun t ht => Nat.le_trans (listText_mem_le ht) sz)
    have rl : Reads s.heap (.ref a) (.list (pyXs ds)) _ := Reads.list ho hc hd rd
    have na : a ∉ bs := not_mem_of_deeper rl (by simp only [PyData.depth]; omega) most
    refine call_repr_slot (by omega) ⟨o, ho, hc⟩ F.slot_list_repr.toG ?_
    cases its with
    | nil =>
      rw [reads_nil rd] at fin
      simp only [PyData.shownAll, listText_nil] at fin
      exact call_list_repr_empty ⟨o, ho, hc⟩ ho hd ⟨_, _, rfl, fin s.heap _ _ fun _ _ e => e⟩
    | cons y l => exact call_list_reprK ho hc hd na (by simpa using all.length_eq) (fun j z e => all.item j z (by simpa using e)) gu (fun b _ => Clear.nil b) (by show X.A.units + 1 + _ < cLine; omega) (fun _ _ z => z) (fun h' t2 tk keep => ⟨_, _, rfl, fin h' t2 tk keep⟩) sz
  | tup ds =>
    simp only [rep] at rp
    obtain ⟨a, vs, rfl, _, hp, hl⟩ := rp
    cases ru
    obtain ⟨its, rv, ⟨o, ho, hc, n, hd⟩, _⟩ := I.tuple (.inl (.inl hp))
    simp only [plainX] at pl
    simp only [pyX, PyData.showable, PyData.shown, PyData.depth] at sh sz dep fin ⊢
    obtain ⟨as, bs, rd, most, all⟩ := shXs I ds vs its pl hl rv sh (fun t ht => Nat.le_trans (tupleText_mem_le ht) sz)
    have rl : Reads s.heap (.ref a) (.tuple (pyXs ds)) _ := Reads.tuple ho hc hd rd
    have na : a ∉ bs := not_mem_of_deeper rl (by simp only [PyData.depth]; omega) most
    refine call_repr_slot (by omega) ⟨o, ho, hc⟩ F.slot_tuple_repr ?_
    exact call_tuple_reprK ho hc hd na all gu (fun b _ => Clear.nil b) (by show X.A.units + 1 + _ < cLine; omega) (fun _ _ z => z) (fun h' t2 tk keep => ⟨_, _, rfl, fin h' t2 tk keep⟩) sz
  | ins _ _ _ => simp only [plainX] at pl; cases pl
  | dct ks ds =>
    simp only [plainX, Bool.and_eq_true, decide_eq_true_eq] at pl
    simp only [rep] at rp
    obtain ⟨a, vs, rfl, _, hp, hlk, hl⟩ := rp
    cases ru
    obtain ⟨_, low, ws, kv, o, es, ep, ho, hc, hd, _, pr, _⟩ := dk_of I.hok hp
    obtain ⟨vk, vv⟩ := entries_vals (ks := ks) hlk kv pr
    have lx : (ks.map pyKey).length = (pyXs ds).length := by rw [List.length_map, pyXs_len]; exact pl.1
    simp only [pyX, PyData.showable, PyData.shown, PyData.depth] at sh sz dep fin ⊢
    generalize hkv : (ks.map pyKey).zip (pyXs ds) = kvs at sh sz dep fin ⊢
    have f1 : kvs.map (·.1) = ks.map pyKey := by rw [← hkv]; exact List.map_fst_zip (by omega)
    have f2 : kvs.map (·.2) = pyXs ds := by rw [← hkv]; exact List.map_snd_zip (by omega)
    obtain ⟨s1, s2⟩ := PyData.showableKv_split kvs sh
    obtain ⟨as1, b1, d1, m1, k1⟩ := shKeys X s ks _ vk (by rw [← f1]; exact s1) (fun t ht => let ⟨q, hq, hql⟩ := PyData.shownKv_key_le kvs t (by rw [f1]; exact ht); Nat.le_trans hql (Nat.le_trans (dictText_mem_le hq) sz))
    obtain ⟨as2, b2, d2, m2, k2⟩ := shXs I ds vs _ pl.2 hl vv (by rw [← f2]; exact s2) (fun t ht => let ⟨q, hq, hql⟩ := PyData.shownKv_val_le kvs t (by rw [f2]; exact ht); Nat.le_trans hql (Nat.le_trans (dictText_mem_le hq) sz))
    rw [← f1] at d1 m1 k1
    rw [← f2] at d2 m2 k2
    have rl : Reads s.heap (.ref a) (.dict kvs) _ := Reads.dict ho hc.1 hd d1 d2
    have hb : ReadAtMost s.heap (PyData.depthKv kvs) (b1 ++ b2) := (m1.mono (PyData.depthAll_keys_le kvs)).append (m2.mono (PyData.depthAll_vals_le kvs))
    have na : a ∉ b1 ++ b2 := not_mem_of_deeper rl (by simp only [PyData.depth]; omega) hb
    refine call_repr_slot (by omega) ⟨o, ho, hc.1⟩ F.slot_dict_repr ?_
    rw [PyData.shownKv_eq] at sz fin
    exact call_dict_reprK ho hc.1 hd low na (ReprEntriesK.of_two es.toList _ _
      (k1.more_le (fun b hb => List.mem_append_left _ hb) (PyData.depthAll_keys_le kvs)) (k2.more_le (fun b hb => List.mem_append_right _ hb) (PyData.depthAll_vals_le kvs))) gu (fun b _ => Clear.nil b) (by show X.A.units + 1 + _ < cLine; omega) (fun _ _ z => z) (fun h' t2 tk keep => ⟨_, _, rfl, fin h' t2 tk keep⟩) sz
  | dcT _ _ => simp only [plainX] at pl; cases pl
end Rx
namespace Rx
open PySem PySem.Spec PyProof.Rows L2
section
variable {P : Program} {w : World} {K : PySem.W.Frag} {mg mb : Str → Option Value} {k : Nat} {fa a : Addr} {fd : FuncData} {x : Str} {sp : Sp} {s1 : Shared} {vs : List Value} {ns : List Int} {cs : List (Addr × Addr)}
structure TabT (K : PySem.W.Frag) (h : Heap) (cs : List (Addr × Addr)) : Prop where
  at_ : ∀ p ∈ cs, h.get? p.2 = some { cls := .none, data := .fields #[] }
  un : ∀ p ∈ cs, K.lookup p.2 = none
  cd : ∀ p ∈ cs, PySem.W.CodeHd h p.1 p.2
end
end Rx
namespace Rx
open PySem PySem.Spec PyProof.Rows L2
section
variable {P : Program} {w : World} {K : PySem.W.Frag} {mg : Str → Option Value} {base : Heap}
end
section
variable {X : Cx}
end
theorem rep_reprX {ms : List Addr} {H : Hp} {x : V} {d : D} {Q : VK} (h : rep ms H d x) (p : plainX d = true ∧ (pyX d).showable = true ∧ (pyX d).depth ≤ 60 ∧ (pyX d).shown.length ≤ sizeLine) (q : Q (.str (pyX d).shown) H) : rReprX ms [x] H Q :=
  ⟨x, d, rfl, h, p.1, p.2.1, p.2.2.1, p.2.2.2, q⟩
end Rx
namespace Rx
open PySem PySem.Spec PyProof.Rows L2
def rReprY : List V → Hp → VK → Prop := fun xs H Q => ∃ ms, rReprX ms xs H Q
theorem call_reprY {X : Cx} (gu : X.A.guards = some []) (un : X.A.units + 65 < cLine) : CallR X (.builtin "repr") rReprY := fun pins s σ H xs us Q I r ⟨ms, h⟩ => call_reprX gu un pins s σ H xs us Q I r h
theorem rep_reprY {ms : List Addr} {H : Hp} {x : V} {d : D} {Q : VK} (h : rep ms H d x) (p : plainX d = true ∧ (pyX d).showable = true ∧ (pyX d).depth ≤ 60 ∧ (pyX d).shown.length ≤ sizeLine) (q : Q (.str (pyX d).shown) H) : rReprY [x] H Q :=
  ⟨ms, rep_reprX h p q⟩
end Rx
namespace Rx
open PySem PySem.Spec PyProof.Rows L2
section
variable {ms : List Addr} {ps : List PEn} {H0 H H1 H' : Hp} {d : D} {u : V} {L : Addr}
end
end Rx
namespace Rx
open PySem PySem.Spec PyProof.Rows L2
end Rx
namespace Rx
open PySem PySem.Spec PyProof.Rows L2
section
end
end Rx
namespace Rx
open PySem PySem.Spec PyProof.Rows L2
structure OexG (K : PySem.W.Frag) (C : Addr) : Prop where
  base : ∃ (B newId initId : String) (bmB : List Value), ExcBaseFacts B newId initId bmB ∧ StoreFacts B bmB "object.__setattr__" "object" ∧ PySem.W.excInitIn K C bmB newId = true ∧ PySem.W.excOver K C bmB = true
  cd : ∃ cd, PySem.W.clsIn K C = some cd ∧ cd.hasDict = true
  sa : PySem.W.findIn K (.ref C) "__setattr__" = some (some (.builtin "object.__setattr__"))
  exC : PySem.W.subIn K (.ref C) (.type "BaseException") = some true
  tyC : PySem.W.typeIn K (.ref C) = some (.type "type")
  kC : PySem.W.keepIn K (.ref C) = true
section
open PySem.W Builtin Builtin.ObjectAttr
variable {prog : Program} {w : World} {A : Around} {R : Result → Shared → Prop} {hp : Heap} {g : Array GenState} {d : Drawn} {t : Nat} {os : OsState} {K : PySem.W.Frag} {x C : Addr} {name : Str} {tk : Tok} {v : Value}
end
section
variable {X : Cx} {pins : List (Addr × Obj)} {σ : L2.St} {H : Hp} {s : Shared} {a C dx : Addr} {f : Str} {y : V} {u : Value} {fs : List (Str × V)} {Q : Unit → Shared → Prop} {E : Value → Shared → Prop}
end
section
variable {X : Cx} {o e : PySem.Expr} {es : List PySem.Expr} {to te : TE} {ta : TA} {f : Str} {p p' pos : Pos}
end
section
variable {ms ms' : List Addr} {ps : List PEn} {cs : List (Addr × List V)} {H0 H H1 H' : Hp} {C : Addr}
end
end Rx
namespace Rx
open PySem PySem.Spec PyProof.Rows L2
section
variable {α : Type}
end
section
end
section
variable {K : PySem.W.Frag} {ms : List Addr} {ps : List PEn} {H0 H : Hp} {x : V} {L : Addr} {ds : List D}
end
section
variable {X : L2.Cx}
end
section
variable {X : L2.Cx} {e : PySem.Expr} {te : TE}
end
section
variable {α β : Type} {K : PySem.W.Frag} {H1 : Hp} {σ : L2.St} {Qd : Hp → Prop} {L : Addr} {ms : List Addr} {tc : TE}
end
section
variable {K : PySem.W.Frag} {ms : List Addr} {H : Hp} {x : V} {a : Addr} {ds : List D}
end
theorem rep_ixTup {K : PySem.W.Frag} {ms : List Addr} {H : Hp} {x : V} {α : Type} {e : α → D} {xs : List α} {i : Int} {Q : VK} (h : rep ms H (.tup (xs.map e)) x) (h0 : 0 ≤ i) (hi : i.toNat < xs.length) (k : ∀ v, rep ms H (e (xs[i.toNat]'hi)) v → Q v H) : rIxT K x (.int i) H Q := by
  simp only [rep] at h
  obtain ⟨p, vs, e', _, hp, hr⟩ := h
  obtain ⟨v, hv, rv⟩ := repL_get (d := e (xs[i.toNat]'hi)) hr (by rw [List.getElem?_map, List.getElem?_eq_getElem hi]; rfl)
  exact ⟨p, vs, i, v, e', rfl, .inl (.inl hp), at_of (j := i.toNat) (by omega) hv, k v rv⟩
end Rx
namespace Rx
open PySem PySem.Spec PyProof.Rows L2
section
variable {M : Model} {A : Around} {E : Value → Shared → Prop} {s : Shared} {a : Addr} {pos : Pos} {Q : Value → Shared → Prop}
end
section
variable {K : PySem.W.Frag} {X : Cx} {C g0 : Addr} {CX : CXT} {k : Nat} {sp : Sp} {E : XK} {fe : PySem.Expr} {tf : TE} {tk : TA} {pos : Pos} {fd : FuncData} {ps ks : List Str} {kws : List Keyword} {g : List Value → List Value → List Value} {gV : List V → List V → List V}
end
section
variable {X : Cx} {CX : CXT} {k : Nat} {C g0 : Addr} {fd : FuncData} {ps ks : List Str} {sp : Sp} {E : XK} {o : PySem.Expr} {m : Str} {pos apos : Pos} {ta : TE} {tk : TA} {kws : List Keyword} {g : List Value → List Value → List Value} {gV : List V → List V → List V}
end
section
variable {X : Cx} {b : List Stmt} {t1 t2 : TS}
end
section
variable {ms ms' : List Addr} {ps : List PEn} {H0 H H1 : Hp} {L : Addr}
end
end Rx
namespace Rx
open PySem PySem.Spec PyProof.Rows L2
section
variable {X : Cx} {pins : List (Addr × Obj)} {σ : L2.St} {H : Hp} {s : Shared}
end
end Rx
namespace PySem.W
open Lean Elab Tactic Meta PySem PySem.Calls PyProof.Rows
section
variable {prog : Program} {w : World} {A : Around} {E : Value → Shared → Prop} {s : Shared} {K : Frag} {y C L f g : Addr} {h₀ : Heap} {m : Str → Option Value} {oy : Obj} {oe : Option Obj} {v : Value} {T : String} {b : Bool} {t : Tok}
end
end PySem.W
namespace Rx
open PySem PySem.Spec PyProof.Rows L2
structure OpN (op : Operator) : Prop where
  n : ∀ T ∈ (["NoneType", "str", "list", "tuple", "dict"] : List String), fillsNumberSlot (.type T) op.info.2 = pure false
  b : fillsNumberSlot (.type "bool") op.info.2 = pure true
  r : ∃ ro, typeLookup (.type "bool") (dunderR op.info.2) = pure ro
structure OpI (op : Operator) : Prop where
  b : fillsNumberSlot (.type "int") op.info.2 = pure true
  r : ∃ ro, typeLookup (.type "int") (dunderR op.info.2) = pure ro
end Rx
namespace Rx
open PySem PySem.Spec PyProof.Rows L2
theorem shR_ok {K : PySem.W.Frag} {a : Addr} {x q : Str} {ps : Arguments} {body : List Stmt} {sc : Scope} {dV cd : Value}
    (e : shR K a = some (x, q, ps, .stmts body, sc, mainGlobals, [], builtinsNs)) (d : dfR K a = some dV) (c : cdR K a = cd) :
    ∃ oc od sl kV dc pm an ct, K.lookup a = some ⟨oc, od, .func (PySem.W.fnOf x q ps body sc dV kV dc pm an cd ct), sl⟩ := by
  unfold shR at e
  unfold dfR at d
  unfold cdR at c
  cases z : fdR K a with
  | none =>
    rw [z] at e
    cases e
  | some fd =>
    rw [z] at e d c
    obtain ⟨n1, n2, n3, n4, n5, n6, n7, n8, n9, n10, n11, n12, n13, n14, n15⟩ := fd
    have e1 := Option.some.inj e
    have d1 := Option.some.inj d
    simp only [Prod.mk.injEq] at e1 d1 c
    obtain ⟨h1, h2, h3, h4, h5, h6, h7, h8⟩ := e1
    subst h1 h2 h3 h4 h5 h6 h7 h8 d1 c
    unfold fdR at z
    split at z
    · rename_i oc od fd sl hl
      cases z
      exact ⟨oc, od, sl, _, _, _, _, _, hl⟩
    · cases z
theorem rcB_ok {K : PySem.W.Frag} {p : Addr} {T : String} (e : rcB K p T = true) : ∃ R, PySem.W.recIn K p T = some (.ref (rcA K p T) :: R) := by
  unfold rcB at e
  unfold rcA
  split at e
  · rename_i a r h
    exact ⟨r, by rw [h]; rfl⟩
  · cases e
theorem frcK_eq {α : Type} : ∀ (K : PySem.W.Frag) (k : PySem.W.Frag → α), frcK K k = k K
  | [], _ => rfl
  | (a, o) :: r, k => by
    show frcK r (fun r => k ((a, o) :: r)) = _
    rw [frcK_eq r]
theorem obF_eq {n : Nat} {ea eb : PySem.W.Frag → Bool} {fn : List (PySem.W.Frag → Addr)} {vs : List He.FnW} {ts : List He.Tab} (s : PySem.W.SharedT) : obF n ea eb fn ts s = (hkR n (fun K => ea K && eb K) fn vs ts).obs s.abs := by
  have e : HandSHeadRun.getT s = s.abs.heap.get? := funext fun a => HandSHeadRun.getT_eq s a
  show (frcK (He.frT (HandSHeadRun.getT s) (List.range n)) ea && frcK (He.frT (HandSHeadRun.getT s) (List.range n)) eb, frcK (He.frT (HandSHeadRun.getT s) (List.range n)) fun K => (fn.map fun a => shR K (a K), ts.map fun t => He.dicW K (t.1 K))) = obK (fun K => ea K && eb K) fn ts (He.frT s.abs.heap.get? (List.range n))
  rw [frcK_eq, frcK_eq, frcK_eq, e]
  rfl
theorem fnAt {K : PySem.W.Frag} {fn : List (PySem.W.Frag → Addr)} {vs : List He.FnW} (c : (fn.map fun a => shR K (a K)) = vs) (i : Nat) {a : PySem.W.Frag → Addr} {v : He.FnW} (ha : fn[i]? = some a) (hv : vs[i]? = some v) : shR K (a K) = v := by
  rw [← c, List.getElem?_map, ha] at hv
  exact Option.some.inj hv
theorem walk_ofGE {l : PySem.W.OpenLaw} {n k : Nat} {q : Program} {loose : List Str} {XP : (Str → Option Value) → Heap → Prop} {YP : World → Heap → Prop} {d : DefRec} {x : Str}
    (most : l.most = some n) (small : n ≤ sizeLine) (plain : d.params.defaults = []) (hr : Room k callerA)
    (F : ∀ (w : World) (mg : Str → Option Value) (fa : Addr) (h : Heap), YP w h → h.Ns mainGlobals mg → mg d.name = some (.ref fa) →
      ∃ K : PySem.W.Frag, K.In h ∧ ∃ (fd : FuncData) (sp : Sp), (∀ (s : Shared) (u : Value), BindsTo s fd ⟨[u], []⟩ [(x, u)]) ∧
        (∀ (H : Hp) (a : Addr) (ns : List Int), ns.length ≤ n → Only H → SqL K H a (ns.map V.int) → sp [.ref a] H (fun v _ => v = .bl true) E0) ∧
        ∀ base : Heap, K.In base → base.Ns mainGlobals mg → FnG l.prog w K mg base k fa fd [x] sp) :
    PySem.W.WalkO q loose XP YP l.row.toRowW d [] (fun f vs => PySem.call f vs) := by
  refine Att.attach_call most plain fun w s₀ s₁ mg mb fa o pm cd doc a vs ns G Y ho hd hcd hmg obj its0 len ng => ?_
  obtain ⟨K, KX, fd, sp, bind, enter, hF⟩ := F w mg fa _ Y G.T.g hmg
  exact callG KX G.T.g G.T.b G.T.builtins G.T.nolimit ng obj its0 (Nat.le_trans len small) hr hF bind fun H only sq => enter H a ns len only sq
end Rx

namespace Rx
open PySem PySem.Spec PyProof.Rows L2
def Uniq {α : Type} (xs : List α) (n : Nat) : Prop := ∃ l : List α, l.Nodup ∧ (∀ x, x ∈ l ↔ x ∈ xs) ∧ l.length = n
theorem Uniq.nil {α : Type} : Uniq ([] : List α) 0 := ⟨[], List.nodup_nil, fun _ => Iff.rfl, rfl⟩
section
variable {P : Program} {w : World} {κ : Type} [DecidableEq κ] {knd : PySem.KeyKind P w κ}
end
section
variable {X : Cx}
end
section
variable {ms : List Addr} {H : Hp} {x : V} {K : PySem.W.Frag}
end
section
variable {X : Cx} {o e : Expr} {to te : TE}
def rJoinK (K : PySem.W.Frag) : V → List V → Hp → VK → Prop := fun x xs H Q => ∃ a p, ∃ ys : List Str, x = .str a ∧ xs = [.ref p] ∧ (SqL K H p (ys.map V.str) ∨ SqT K H p (ys.map V.str)) ∧ (ys.map (·.length)).sum + ys.length * a.length ≤ 16777216 ∧ Q (.str (Txt.join a ys)) H
theorem pe_joinK {K : PySem.W.Frag} (hK : X.K = K) {apos pos : Pos} (ho : PE X o to) (he : PE X e te) (hs : starEach [e] X.env = [(false, eval e X.env)] := by rfl) (hb : attributeBase o "join" X.env (eval o X.env) = eval o X.env := by rfl)
    (hl : (apos.endLine == pos.line) = true := by rfl) : PE X (.Call (.Attribute o "join" apos) [e] [] pos) (tM1 (rJoinK K) to te) := by
  subst hK
  exact pe_join ho he hs hb hl
end
theorem blkOk_rel {X : Cx} {scope : Scope} {N : List Str} {own : List (Str × Nat)} (hN : X.N = N) (h : blkC N X.env.scope scope own = true) : BlkOk X.N X.env.scope scope own := by
  subst hN
  exact blkOk_by h
end Rx
namespace Rx
open PySem PySem.Spec PyProof.Rows
abbrev ItT := Addr × Str × Tok
def StI (h : Heap) (t : ItT) (i : Nat) : Prop := h.IsStrIter t.1 (strIterType t.2.1) t.2.1 t.2.2 i
def Refs (its : List ItT) : List Value := its.map fun t => .ref t.1
def Chars (i : Nat) : List ItT → List Value → Prop
  | [], vs => vs = []
  | t :: ts, vs => ∃ c u us, t.2.1.cps[i]? = some c ∧ vs = .str ⟨#[c]⟩ u :: us ∧ Chars i ts us
theorem Chars.len {i : Nat} : ∀ {its : List ItT} {vs : List Value}, Chars i its vs → vs.length = its.length
  | [], _, h => by rw [show _ = _ from h]; rfl
  | t :: ts, _, ⟨c, u, us, _, e, h⟩ => by rw [e]; simp [Chars.len h]
theorem StI.keep {h h' : Heap} {t : ItT} {i : Nat} (st : StI h t i) (k : ∀ o, h.get? t.1 = some o → h'.get? t.1 = some o) : StI h' t i := by
  obtain ⟨o, ho, r⟩ := st
  exact ⟨o, k o ho, r⟩
def Tup (h : Heap) (a : Addr) (vs : List Value) : Prop := h.get? a = some { cls := .type "tuple", data := .seq vs.toArray }
structure ZS (h : Heap) (z TI TO T : Addr) (its : List ItT) (i : Nat) : Prop where
  hz : ∃ f, IsZipHeld h z TI TO T f
  hT : ∃ o, h.get? T = some o
  hTI : Tup h TI (Refs its)
  st : ∀ t ∈ its, StI h t i
structure ZAp (S z TI TO : Addr) (its : List ItT) : Prop where
  ne0 : its ≠ []
  nd : (its.map (·.1)).Nodup
  nz : ∀ t ∈ its, z ≠ t.1
  nto : ∀ t ∈ its, t.1 ≠ TO
  zto : z ≠ TO
  tiz : TI ≠ z
  tii : ∀ t ∈ its, TI ≠ t.1
  tito : TI ≠ TO
  sz : S ≠ z
  sti : S ≠ TI
  sto : S ≠ TO
  si : ∀ t ∈ its, S ≠ t.1
  hl : its.length ≤ sizeLine
section
open L2
def col (j : Nat) (xs : List Str) : List V := xs.map fun x => V.str ⟨#[x.cps.getD j 0]⟩
end
end Rx
namespace Rx
open PySem PySem.Spec PyProof.Rows L2
def lenZ (xs : List Str) : Nat := (xs.headD ⟨#[]⟩).cps.size
structure ZL (H H2 : Hp) (L : Addr) (as : List Addr) (xs : List Str) : Prop where
  nl : H L = none
  na : ∀ a ∈ as, H a = none
  len : as.length = lenZ xs
  hL : H2 L = some (.lst (as.map V.ref))
  hA : ∀ j a, as[j]? = some a → H2 a = some (.tup (col j xs))
section
variable {K : PySem.W.Frag} {ms : List Addr} {ps : List PEn} {cs : List (Addr × List V)} {H0 H H1 H2 : Hp} {x u y : V} {d : D}
end
section
variable {α S : Type} {K : PySem.W.Frag} {H1 : Hp} {g : TG} {tb : TS} {D' : Ends} {σ : L2.St}
end
section
variable {K : PySem.W.Frag} {H : Hp}
end
section
variable {K : PySem.W.Frag} {ms : List Addr} {ps : List PEn} {cs : List (Addr × List V)} {H0 H : Hp} {x : V}
end
end Rx
namespace Rx
open PySem PySem.Spec PyProof.Rows L2
section
variable {X : L2.Cx}
end
section
variable {α : Type} {K : PySem.W.Frag} {ms : List Addr} {H : Hp} {x : V} {vs : List V}
end
section
variable {ms : List Addr} {ps : List PEn} {H0 H : Hp} {L : Addr} {ds : List D} {ks : List Key}
end
end Rx
namespace Rx
open PySem PySem.Spec PyProof.Rows L2
def eSq {α : Type} (f : α → D) (m : Bool × List α) : D := if m.1 = true then D.tup (m.2.map f) else D.lst (m.2.map f)
structure SeqIt {α : Type} (ms : List Addr) (H1 : Hp) (J : It) (items : List α) (e : α → D) : Prop where
  ex : ∃ (G : Hp → Prop) (Y : Nat → Hp → V → Hp → Prop), L2.Walk J items.length G Y ∧ (∀ H, Keep ms H1 H → G H) ∧ ∀ (i : Nat) (x : V) (H H' : Hp) (h : i < items.length), Keep ms H1 H → Y i H x H' → H' = H ∧ rep ms H (e (items[i]'h)) x
section
variable {α : Type} {K : PySem.W.Frag} {ms : List Addr} {H1 : Hp} {items : List α} {e : α → D} {a : Addr} {xs : List V}
theorem seqIt_list (an : a ∉ ms) (ha : H1 a = some (.lst xs)) (hx : repL ms H1 (items.map e) xs) : SeqIt ms H1 (Itl K a) items e := by
  have hl : items.length = xs.length := by
    have := repL_len hx
    rwa [List.length_map] at this
  have w := L2.walk_list (K := K) (a := a) (xs := xs)
  rw [← hl] at w
  exact ⟨_, _, w, fun H k => .inl (.inl (k a _ an ha)), fun i x H H' h k y => ⟨y.1, repL_at (repL_keep k hx) h y.2⟩⟩
theorem seqIt_tup (an : a ∉ ms) (ha : H1 a = some (.tup xs)) (hx : repL ms H1 (items.map e) xs) : SeqIt ms H1 (Itt K a) items e := by
  have hl : items.length = xs.length := by
    have := repL_len hx
    rwa [List.length_map] at this
  have w := L2.walk_tup (K := K) (a := a) (xs := xs)
  rw [← hl] at w
  exact ⟨_, _, w, fun H k => .inl (.inl (k a _ an ha)), fun i x H H' h k y => ⟨y.1, repL_at (repL_keep k hx) h y.2⟩⟩
end
section
variable {α β S : Type} {K : PySem.W.Frag} {H1 : Hp} {g : TG} {tt : TT} {te : TE} {tb : TS} {D' : Ends} {vl : List Nat} {σ : L2.St} {Qd : Hp → Prop} {L : Addr} {J : It}
theorem lc_seqG {items : List α} {e : α → D} {ms : List Addr} {body : α → (β → Prop) → Prop} {KM : List β → Prop} (SI : Nat → List β → Hp → Prop) (P : SeqIt (L :: ms) H1 J items e)
    (kp : ∀ n ys H, SI n ys H → Keep (L :: ms) H1 H) (hM : items.length < 100000 ∧ mapC body items [] KM) (h0 : SI 0 [] (upd H1 L (.lst [])))
    (hs : ∀ (x : α) (u : V) (n : Nat) (ys : List β) (k : β → Prop) (H : Hp), n < 100000 → SI n ys H → rep (L :: ms) H (e x) u → body x k → ∀ Nx : Hp → Prop, (∀ y H', k y → SI (n + 1) (ys ++ [y]) H' → Nx H') → Turn g tt te vl σ L u H Nx)
    (hd : ∀ n ys H, KM ys → SI n ys H → Qd H) :
    ∃ W : Nat → Nat → Hp → Prop, (∃ m, W 0 m (upd H1 L (.lst []))) ∧ ∀ i m H, W i m H →
      (J.stop i H ∧ Qd H) ∨ (J.go i H ∧ ∃ Nx : Hp → Prop, (∀ H', Nx H' → ∃ m', m' < m ∧ W (i + 1) m' H') ∧ ∀ x H', J.yld i H x H' → g x (wipe σ vl) H' fun σ2 H2 => wipe σ2 vl = wipe σ vl ∧ tt σ2 H2 fun b H3 =>
        if b = true then te σ2 H3 fun y H4 => ∃ acc, H4 L = some (.lst acc) ∧ acc.length < sizeLine ∧ Nx (upd H4 L (.lst (acc ++ [y]))) else Nx H3) := by
  obtain ⟨hn, hM⟩ := hM
  obtain ⟨G, Y, w, hG, hat⟩ := P
  refine ⟨fun i m H => m = items.length - i ∧ i ≤ items.length ∧ ∃ ys, SI i ys H ∧ mapC body (items.drop i) ys KM, ⟨_, rfl, Nat.zero_le _, [], h0, hM⟩, ?_⟩
  rintro i m H ⟨rfl, hi', ys, T, q⟩
  have hk := kp i ys H T
  by_cases hlt : i < items.length
  · refine .inr ⟨w.goes i H hlt (hG H hk), fun H' => i + 1 ≤ items.length ∧ ∃ ys, SI (i + 1) ys H' ∧ mapC body (items.drop (i + 1)) ys KM, fun H' p' => ⟨_, by omega, rfl, p'⟩, fun x H' y => ?_⟩
    obtain ⟨e1, r1⟩ := hat i x H H' hlt hk (w.yields i H x H' hlt (hG H hk) y)
    subst e1
    rw [drop_cons' (List.getElem?_eq_getElem hlt)] at q
    exact hs _ x i ys _ H' (by omega) T r1 q _ fun y H'' k T' => ⟨hlt, _, T', k⟩
  · have ei : i = items.length := by omega
    refine .inl ⟨by rw [ei]; exact w.stops H (hG H hk), ?_⟩
    rw [List.drop_of_length_le (by omega)] at q
    exact hd _ ys H q T
theorem lc2_flatS {α : Type} {items : List α} {e : α → D} {f : α → List V} {ms : List Addr} {i j : Nat} {Qd : Addr → Hp → Prop}
    (he : ∀ y, e y = D.tup ((f y).map D.v)) (P : ∀ L, H1 L = none → SeqIt (L :: ms) H1 J items e) (hz : (items.flatMap f).length ≤ 16777216)
    (hi : i < σ.length) (hj : j < σ.length) (ij : i ≠ j) (q : ∀ L, H1 L = none → Qd L (upd H1 L (.lst (items.flatMap f)))) :
    ∀ D, H1 D = none → ∃ W : Nat → Nat → Hp → Prop, (∃ m, W 0 m (upd H1 D (.lst []))) ∧ ∀ i' m H, W i' m H →
      (J.stop i' H ∧ Qd D H) ∨ (J.go i' H ∧ ∃ Nx : Hp → Prop, (∀ H', Nx H' → ∃ m', m' < m ∧ W (i' + 1) m' H') ∧ ∀ x H', J.yld i' H x H' → gName i x (wipe σ [i, j]) H' fun σ2 H2 => wipe σ2 [i, j] = wipe σ [i, j] ∧ tYes σ2 H2 fun b H3 =>
        if b = true then iTup K (tVar i) σ2 H3 fun J1 H4 => ∃ W1 : Nat → Nat → Hp → Prop, (∃ m, W1 0 m H4) ∧ ∀ j' k H, W1 j' k H →
          (J1.stop j' H ∧ Nx H) ∨ (J1.go j' H ∧ ∃ Nx1 : Hp → Prop, (∀ H', Nx1 H' → ∃ k', k' < k ∧ W1 (j' + 1) k' H') ∧ ∀ x H', J1.yld j' H x H' → gName j x (wipe σ2 [j]) H' fun σ3 H5 => wipe σ3 [j] = wipe σ2 [j] ∧ tYes σ3 H5 fun b H6 =>
            if b = true then tVar j σ3 H6 fun y H7 => ∃ acc, H7 D = some (.lst acc) ∧ acc.length < sizeLine ∧ Nx1 (upd H7 D (.lst (acc ++ [y]))) else Nx1 H6)
        else Nx H3) := by
  intro L nl
  obtain ⟨G, Y, w, hG, hat⟩ := P L nl
  have kp : ∀ ws, Keep (L :: ms) H1 (upd H1 L (.lst ws)) := fun ws b o hb e => by
    rw [upd_ne (fun z => hb (by rw [z]; exact List.mem_cons_self))]
    exact e
  refine ⟨fun i' m H => m = items.length - i' ∧ i' ≤ items.length ∧ H = upd H1 L (.lst ((items.take i').flatMap f)), ⟨_, rfl, Nat.zero_le _, rfl⟩, ?_⟩
  rintro i' m H ⟨rfl, hi', rfl⟩
  by_cases hlt : i' < items.length
  · refine .inr ⟨w.goes i' _ hlt (hG _ (kp _)), fun H' => H' = upd H1 L (.lst ((items.take (i' + 1)).flatMap f)), fun H' p' => ⟨_, by omega, rfl, hlt, p'⟩, fun x H' y => ?_⟩
    obtain ⟨e1, rv⟩ := hat i' x _ H' hlt (kp _) (w.yields i' _ x H' hlt (hG _ (kp _)) y)
    subst e1
    have hit : items[i']? = some (items[i']'hlt) := List.getElem?_eq_getElem hlt
    generalize items[i']'hlt = it at hit rv
    rw [he] at rv
    simp only [rep] at rv
    obtain ⟨b, us, rfl, nb, hb, hr⟩ := rv
    obtain rfl : us = f it := repL_flat.mp hr
    have bL : b ≠ L := fun z => nb (by rw [z]; exact List.mem_cons_self)
    have hb1 : H1 b = some (.tup (f it)) := by rw [upd_ne bL] at hb; exact hb
    have tk : items.take (i' + 1) = items.take i' ++ [it] := by
      rw [List.take_add_one, hit]
      rfl
    have hz1 : ((items.take i').flatMap f).length + (f it).length ≤ 16777216 := by
      have : ((items.take (i' + 1)).flatMap f).length ≤ (items.flatMap f).length := by
        conv => rhs; rw [← List.take_append_drop (i' + 1) items, List.flatMap_append, List.length_append]
        exact Nat.le_add_right _ _
      rw [tk, List.flatMap_append, List.length_append] at this
      simp only [List.flatMap_cons, List.flatMap_nil, List.append_nil] at this
      omega
    have li : i < (wipe σ [i, j]).length := by rw [wipe_length]; exact hi
    show wipe ((wipe σ [i, j]).set i (some (.ref b))) [i, j] = wipe σ [i, j] ∧ _
    refine ⟨by rw [wipe_set (by simp), wipe_idem], ?_⟩
    unfold tYes
    simp only [if_true]
    refine ⟨.ref b, by rw [List.getElem?_set_self li], b, rfl, ⟨f it, .inl (.inl hb)⟩, ?_⟩
    refine ⟨fun j' k H => k = (f it).length - j' ∧ j' ≤ (f it).length ∧ H = upd H1 L (.lst ((items.take i').flatMap f ++ (f it).take j')), ⟨_, rfl, Nat.zero_le _, by simp⟩, ?_⟩
    rintro j' k H ⟨rfl, hj', rfl⟩
    have hB : (upd H1 L (.lst ((items.take i').flatMap f ++ (f it).take j'))) b = some (.tup (f it)) := by rw [upd_ne bL]; exact hb1
    by_cases hlt2 : j' < (f it).length
    · refine .inr ⟨⟨f it, (f it)[j'], .inl (.inl hB), by simp [hlt2]⟩, fun H' => H' = upd H1 L (.lst ((items.take i').flatMap f ++ (f it).take (j' + 1))), fun H' p' => ⟨_, by omega, rfl, hlt2, p'⟩, fun x H' y => ?_⟩
      obtain ⟨e1, y⟩ := y
      subst e1
      have hxj := y (f it) (.inl (.inl hB))
      have lj : j < (wipe ((wipe σ [i, j]).set i (some (.ref b))) [j]).length := by rw [wipe_length, List.length_set, wipe_length]; exact hj
      show wipe ((wipe ((wipe σ [i, j]).set i (some (.ref b))) [j]).set j (some x)) [j] = wipe ((wipe σ [i, j]).set i (some (.ref b))) [j] ∧ _
      refine ⟨by rw [wipe_set (by simp), wipe_idem], ?_⟩
      refine ⟨x, by rw [List.getElem?_set_self lj], _, upd_same, ?_, ?_⟩
      · rw [List.length_append, List.length_take, sizeLine_eq]
        omega
      · rw [upd_upd, List.append_assoc, List.take_add_one, hxj]
        rfl
    · refine .inl ⟨⟨f it, .inl (.inl hB), by omega⟩, ?_⟩
      show _ = _
      rw [tk, List.flatMap_append, List.take_of_length_le (l := f it) (by omega)]
      simp
  · have ei : i' = items.length := by omega
    refine .inl ⟨by rw [ei]; exact w.stops _ (hG _ (by rw [← ei]; exact kp _)), ?_⟩
    rw [List.take_of_length_le (by omega)]
    exact q L nl
theorem lc2_flatCS {α β : Type} {items : List α} {e : α → D} {g : α → List β} {c : β → V} {ms : List Addr} {i j : Nat} {Qd : Addr → Hp → Prop}
    (he : ∀ y, e y = D.tup ((g y).map fun z => D.v (c z))) (P : ∀ L, H1 L = none → SeqIt (L :: ms) H1 J items e) (hz : (items.flatMap g).length ≤ 16777216)
    (hi : i < σ.length) (hj : j < σ.length) (ij : i ≠ j) (q : ∀ L, H1 L = none → Qd L (upd H1 L (.lst ((items.flatMap g).map c)))) :
    ∀ D, H1 D = none → ∃ W : Nat → Nat → Hp → Prop, (∃ m, W 0 m (upd H1 D (.lst []))) ∧ ∀ i' m H, W i' m H →
      (J.stop i' H ∧ Qd D H) ∨ (J.go i' H ∧ ∃ Nx : Hp → Prop, (∀ H', Nx H' → ∃ m', m' < m ∧ W (i' + 1) m' H') ∧ ∀ x H', J.yld i' H x H' → gName i x (wipe σ [i, j]) H' fun σ2 H2 => wipe σ2 [i, j] = wipe σ [i, j] ∧ tYes σ2 H2 fun b H3 =>
        if b = true then iTup K (tVar i) σ2 H3 fun J1 H4 => ∃ W1 : Nat → Nat → Hp → Prop, (∃ m, W1 0 m H4) ∧ ∀ j' k H, W1 j' k H →
          (J1.stop j' H ∧ Nx H) ∨ (J1.go j' H ∧ ∃ Nx1 : Hp → Prop, (∀ H', Nx1 H' → ∃ k', k' < k ∧ W1 (j' + 1) k' H') ∧ ∀ x H', J1.yld j' H x H' → gName j x (wipe σ2 [j]) H' fun σ3 H5 => wipe σ3 [j] = wipe σ2 [j] ∧ tYes σ3 H5 fun b H6 =>
            if b = true then tVar j σ3 H6 fun y H7 => ∃ acc, H7 D = some (.lst acc) ∧ acc.length < sizeLine ∧ Nx1 (upd H7 D (.lst (acc ++ [y]))) else Nx1 H6)
        else Nx H3) := by
  have ef : items.flatMap (fun y => (g y).map c) = (items.flatMap g).map c := by rw [List.map_flatMap]
  refine lc2_flatS (f := fun y => (g y).map c) (fun y => ?_) P ?_ hi hj ij ?_
  · rw [he, List.map_map]
    rfl
  · rw [ef, List.length_map]
    exact hz
  · rw [ef]
    exact q
end
def SqJ (K : PySem.W.Frag) (H : Hp) (J : It) (a : Addr) : Prop := (J = Itl K a ∧ ∃ xs, SqL K H a xs) ∨ (J = Itt K a ∧ ∃ xs, SqT K H a xs)
def iSeq (K : PySem.W.Frag) (tl : TE) : TI := fun σ H R => tl σ H fun x H1 => ∃ a, x = .ref a ∧ ∃ J, SqJ K H1 J a ∧ R J H1
theorem pi_seq {X : Cx} {tg l : PySem.Expr} {tl : TE} (hl : PE X l tl) : PI X tg l (iSeq X.K tl) := by
  refine ⟨fun pins s σ H R I h => ?_⟩
  refine thn (hl.run pins s σ H _ I h) fun v s1 ⟨x, H1, I1, r1, q1⟩ => ?_
  obtain ⟨a, e, J, sq, q⟩ := q1
  subst e
  cases r1
  rcases sq with ⟨rfl, xs, hq⟩ | ⟨rfl, xs, hq⟩
  · obtain ⟨its, rv, p, hz⟩ := I1.list hq
    refine wpAny_pyIter_list p.isList ?_
    refine ⟨s1.heap.objs.size, [s1.heap.objs.size], _, _, H1, rfl, I1.kept (t' := s1.toks) fun b o e => Heap.get?_push_of_some _ e, turn_list a _, ⟨_, Heap.get?_push_size _ rfl, rfl, rfl⟩, fun b hb => ?_, q⟩
    have e : b = s1.heap.objs.size := by simpa using hb
    subst e
    exact I1.fpOk (Nat.le_refl _) (I1.hok.fresh (Nat.le_refl _))
  · obtain ⟨its, rv, p, hz⟩ := I1.tuple hq
    refine wpAny_pyIter_tuple (show s1.heap.IsTuple a its.toArray from p) ?_
    refine ⟨s1.heap.objs.size, [s1.heap.objs.size], _, _, H1, rfl, I1.kept (t' := s1.toks) fun b o e => Heap.get?_push_of_some _ e, turn_tuple a _, ⟨_, Heap.get?_push_size _ rfl, rfl, rfl⟩, fun b hb => ?_, q⟩
    have e : b = s1.heap.objs.size := by simpa using hb
    subst e
    exact I1.fpOk (Nat.le_refl _) (I1.hok.fresh (Nat.le_refl _))
theorem pi_seqK {X : Cx} {K : PySem.W.Frag} {tg l : PySem.Expr} {tl : TE} (hK : X.K = K) (hl : PE X l tl) : PI X tg l (iSeq K tl) := by
  subst hK
  exact pi_seq hl
def SqE (K : PySem.W.Frag) (H : Hp) (J : It) (a : Addr) : Prop := (J = Ite K a ∧ ∃ xs, SqL K H a xs) ∨ (J = IteT K a ∧ ∃ xs, SqT K H a xs)
def iEnumS (K : PySem.W.Frag) (ta : TA) : TI := fun σ H R => ta σ H fun vs H1 => ∃ a, vs = [.ref a] ∧ ∃ J, SqE K H1 J a ∧ R J H1
theorem pi_enumS {X : Cx} {K : PySem.W.Frag} {e : PySem.Expr} {ta : TA} {p pos tpos : Pos} {elts : List PySem.Expr} {kk : Nat} (hK : X.K = K) (hg : Gl X "enumerate") (hm : X.mg "enumerate" = none) (ha : PA X [e] ta) (hs : starEach [e] X.env = [(false, eval e X.env)] := by rfl) :
    PI X (.Tuple elts kk tpos) (.Call (.Name "enumerate" p) [e] [] pos) (iEnumS K ta) := by
  subst hK
  refine ⟨fun pins s σ H R I h => ?_⟩
  refine Call_ (ld_blt I hg hm boot_enumerate (PyProof.Rows.callWith_type1 (thn (ha.run pos pins s σ H _ I h) fun us s1 ⟨vs, H1, I1, r1, q1⟩ => ?_) hs rfl))
  obtain ⟨a, ex, J, sq, q⟩ := q1
  subst ex
  cases r1 with
  | cons r rr =>
    cases rr
    cases r
    have fin : ∀ b, b = s1.heap.objs.size + 1 ∨ b = s1.heap.objs.size → FpOk X pins H1 b := fun b e' => by
      have hle : s1.heap.objs.size ≤ b := by
        rcases e' with z | z
        · rw [z]; exact Nat.le_add_right _ _
        · rw [z]; exact Nat.le_refl _
      exact I1.fpOk hle (I1.hok.fresh hle)
    rcases sq with ⟨rfl, xs, hq⟩ | ⟨rfl, xs, hq⟩
    · obtain ⟨its, rv, p', hz⟩ := I1.list hq
      refine call_enumerate_list p'.isList fun h' he hit hsz hk => wpAny_pyIter_enum he ?_
      have I2 : Inv X pins σ H1 { s1 with heap := h' } := I1.kept (t' := s1.toks) hk
      exact ⟨s1.heap.objs.size + 1, [s1.heap.objs.size + 1, s1.heap.objs.size], _, _, H1, rfl, I2, turn_enum a (s1.heap.objs.size + 1) s1.heap.objs.size, ⟨⟨.none, he⟩, hit, Nat.succ_ne_self _⟩, fun b hb => fin b (by simpa using hb), q⟩
    · obtain ⟨its, rv, p', hz⟩ := I1.tuple hq
      have hal : a < s1.heap.objs.size := by
        obtain ⟨o, ho, _⟩ := p'
        exact Heap.lt_size ho
      refine call_enum_tup p' fun h' he hit hsz hk => wpAny_pyIter_enum he ?_
      have I2 : Inv X pins σ H1 { s1 with heap := h' } := I1.kept (t' := s1.toks) hk
      exact ⟨s1.heap.objs.size + 1, [s1.heap.objs.size + 1, s1.heap.objs.size], _, _, H1, rfl, I2, turn_enumT a (s1.heap.objs.size + 1) s1.heap.objs.size (Nat.succ_ne_self _) (Nat.ne_of_lt hal), ⟨⟨.none, he⟩, hit⟩, fun b hb => fin b (by simpa using hb), q⟩
section
variable {α : Type} {K : PySem.W.Frag} {ms : List Addr} {ps : List PEn} {H0 H : Hp} {x u : V} {f : α → D} {m : Bool × List α}
theorem rep_sq (h : rep ms H (eSq f m) u) : ∃ p vs, u = .ref p ∧ p ∉ ms ∧ (m.1 = false ∧ H p = some (.lst vs) ∨ m.1 = true ∧ H p = some (.tup vs)) ∧ repL ms H (m.2.map f) vs := by
  obtain ⟨b, xs⟩ := m
  cases b
  · have h' : rep ms H (.lst (xs.map f)) u := h
    simp only [rep] at h'
    obtain ⟨p, vs, e, n, hp, hr⟩ := h'
    exact ⟨p, vs, e, n, .inl ⟨rfl, hp⟩, hr⟩
  · have h' : rep ms H (.tup (xs.map f)) u := h
    simp only [rep] at h'
    obtain ⟨p, vs, e, n, hp, hr⟩ := h'
    exact ⟨p, vs, e, n, .inr ⟨rfl, hp⟩, hr⟩
theorem rep_sqL {xs : List α} (h : rep ms H (.lst (xs.map f)) u) : rep ms H (eSq f (false, xs)) u := h
theorem rep_sqT {xs : List α} (h : rep ms H (.tup (xs.map f)) u) : rep ms H (eSq f (true, xs)) u := h
theorem rep_lenSq {P : Nat → Prop} (h : rep ms H (eSq f m) x) (k : P m.2.length) : ∃ y n, [x] = [y] ∧ LenV K y H n ∧ P n := by
  obtain ⟨p, vs, rfl, _, hp, hr⟩ := rep_sq h
  have hl := repL_len hr
  rw [List.length_map] at hl
  rcases hp with ⟨_, hp⟩ | ⟨_, hp⟩
  · exact ⟨_, m.2.length, rfl, .inl ⟨vs, .inl (.inl hp), hl⟩, k⟩
  · exact ⟨_, m.2.length, rfl, .inr ⟨vs, .inl (.inl hp), hl⟩, k⟩
theorem ix_seqK {X : Cx} (hK : X.K = K) : IxR X (fun x y H Q => rIxL K x y H Q ∨ rIxT K x y H Q) := IxR.or (ix_listK hK) (ix_tupK hK)
theorem rep_ixSq {i : Int} {Q : VK} (h : rep ms H (eSq f m) x) (h0 : 0 ≤ i) (hi : i.toNat < m.2.length) (k : ∀ v, rep ms H (f (m.2[i.toNat]'hi)) v → Q v H) : rIxL K x (.int i) H Q ∨ rIxT K x (.int i) H Q := by
  obtain ⟨b, xs⟩ := m
  cases b
  · exact .inl (rep_ixL (e := f) (xs := xs) h h0 hi k)
  · exact .inr (rep_ixTup (e := f) (xs := xs) h h0 hi k)
theorem rep_isiSq {tp : Addr} {P : Bool → Prop} (h : rep ms H (eSq f m) u) (ht : H tp = some (.tup [.ty "list", .ty "tuple"])) (q : P true) :
    ∃ (x : V) (tp' : Addr) (cs : List V) (t : Value) (us : List Value) (b' : Bool), [u, .ref tp] = [x, .ref tp'] ∧ H tp' = some (.tup cs) ∧ Paired ClsV cs us ∧ TyX K H x t ∧ PySem.W.kitAny K t us = some b' ∧ P b' := by
  obtain ⟨b, xs⟩ := m
  cases b
  · exact rep_isi2 (d := .lst (xs.map f)) (a := "list") (b := "list") (c := "tuple") (r1 := true) (r2 := false) h (by rfl) (by rfl) ht (by decide +kernel) (by decide +kernel) q
  · exact rep_isi2 (d := .tup (xs.map f)) (a := "tuple") (b := "list") (c := "tuple") (r1 := false) (r2 := true) h (by rfl) (by rfl) ht (by decide +kernel) (by decide +kernel) q
theorem rep_iterSq {P : Addr → It → Prop} (h : rep ms H (eSq f m) x) (k : ∀ (a : Addr) (J : It), x = .ref a → SeqIt ms H J m.2 f → (∀ L, H L = none → SeqIt (L :: ms) H J m.2 f) → P a J) : ∃ a, x = .ref a ∧ ∃ J, SqJ K H J a ∧ P a J := by
  obtain ⟨p, vs, e, n, hp, hr⟩ := rep_sq h
  rcases hp with ⟨_, hp⟩ | ⟨_, hp⟩
  · exact ⟨p, e, Itl K p, .inl ⟨rfl, vs, .inl (.inl hp)⟩, k p _ e (seqIt_list n hp hr) fun L nl => seqIt_list (nin_new nl n hp) hp (repL_new nl hr)⟩
  · exact ⟨p, e, Itt K p, .inr ⟨rfl, vs, .inl (.inl hp)⟩, k p _ e (seqIt_tup n hp hr) fun L nl => seqIt_tup (nin_new nl n hp) hp (repL_new nl hr)⟩
theorem rep_iterES {P : Addr → It → Prop} (h : rep ms H (eSq f m) x) (k : ∀ (a : Addr) (J : It), x = .ref a → PairIt ms H J ((rangeI 0 (m.2.length : Int)).zip m.2) (fun i => .v (.int i)) f → (∀ L, H L = none → PairIt (L :: ms) H J ((rangeI 0 (m.2.length : Int)).zip m.2) (fun i => .v (.int i)) f) → P a J) : ∃ a, [x] = [.ref a] ∧ ∃ J, SqE K H J a ∧ P a J := by
  obtain ⟨p, vs, e, n, hp, hr⟩ := rep_sq h
  rcases hp with ⟨_, hp⟩ | ⟨_, hp⟩
  · exact ⟨p, by rw [e], Ite K p, .inl ⟨rfl, vs, .inl (.inl hp)⟩, k p _ e (pair_enum n hp hr) fun L nl => pair_enum (nin_new nl n hp) hp (repL_new nl hr)⟩
  · exact ⟨p, by rw [e], IteT K p, .inr ⟨rfl, vs, .inl (.inl hp)⟩, k p _ e (pair_enumT n hp hr) fun L nl => pair_enumT (nin_new nl n hp) hp (repL_new nl hr)⟩
end
end Rx
namespace Rx
open PySem PySem.Spec PyProof.Rows L2
section
variable {B : Cx}
end
section
variable {X : Cx}
end
end Rx
namespace Rx
open PySem PySem.Spec PyProof.Rows L2
section
variable {α : Type} {K : PySem.W.Frag} {H1 : Hp} {σ : L2.St} {J : It} {ms : List Addr}
end
section
variable {ms : List Addr} {ps : List PEn} {H0 H H' : Hp} {L : Addr}
end
end Rx
namespace Rx
open PySem PySem.Spec PyProof.Rows L2
section
variable {α : Type} {ms : List Addr} {H : Hp} {x kx : V} {e : α → D}
end
end Rx
namespace Rx
open PySem PySem.Spec PyProof.Rows L2
def rOwnLen (C : Addr) (sp : Sp) (E : XK) : List V → Hp → VK → Prop := fun xs H Q => ∃ (x : V) (a dx : Addr) (fs : List (Str × V)), xs = [x] ∧ x = .ref a ∧ H a = some (.ins C dx fs) ∧ sp [x] H (fun v H' => ∃ j : Int, v = .int j ∧ (0 ≤ j ∧ j < 4611686018427387904) ∧ Q v H') E
section
variable {X : Cx} {n : Nat} {CX : CXT} {C f : Addr} {fd : FuncData} {ps : List Str} {sp : Sp} {E : XK}
theorem ownLen_run (F : FnOk X.prog X.w X.K X.mg X.base CX n f fd ps sp) {A : Around} (hr : Room n A) (hb : Binds X.K fd ps []) (hx : Passes CX X E) {pins : List (Addr × Obj)} {σ : L2.St} {H : Hp} {s : Shared} {a : Addr} {Q : VK} (I : Inv X pins σ H s)
    (en : Env0 X.prog X.w X.K X.mg X.base A X.stack s H) (h : sp [.ref a] H (fun v H' => ∃ j : Int, v = .int j ∧ (0 ≤ j ∧ j < 4611686018427387904) ∧ Q v H') E) :
    wpAny (model X.prog X.w) A (call (.ref f) [.ref a]) (fun v s' => ∃ (j : Int) (t : Tok) (H' : Hp), v = .int j t ∧ (0 ≤ j ∧ j < 4611686018427387904) ∧ Inv X pins σ H' s' ∧ Q (.int j) H') X.xe s := by
  have hl := F.len _ _ _ _ h
  have bt := hb s [.ref a] I.kIn (by rw [List.append_nil]; exact hl)
  rw [List.append_nil] at bt
  refine wpAny_call (codeAny_mono (F.run A X.stack s H ⟨[.ref a], []⟩ [.ref a] [.ref a] _ E hr en bt (.cons rfl .nil) h) fun out s' hq => ?_)
  rcases out with err | fl
  · exact hx pins σ H s err s' I hq
  · rcases fl with _ | _ | _ | u
    · exact hq.elim
    · exact hq.elim
    · exact hq.elim
    · obtain ⟨v, H', I', rv, j, ej, hj, q⟩ := I.after hq
      subst ej
      obtain ⟨t, rfl⟩ := rv
      exact ⟨j, t, H', rfl, hj, I', q⟩
theorem call_lenOwn (F : FnOk X.prog X.w X.K X.mg X.base CX n f fd ps sp) (hr : Room (n + 1) X.A) (o : OwnText X.K C "__len__" f) (hb : Binds X.K fd ps []) (hx : Passes CX X E) : CallR X (.builtin "len") (rOwnLen C sp E) := by
  intro pins s σ H xs us Q I r h
  obtain ⟨x, a, dx, fs, rfl, rfl, ha, hsp⟩ := h
  obtain ⟨u, rfl, ru⟩ := r.one
  cases ru
  obtain ⟨mA, J, _⟩ := ins_get I.hok ha
  obtain ⟨od, J, _⟩ := J.look
  refine Calls.call_function_entry kind_len plain_len entry_len (args_len1 _) ?_
  unfold Builtin.«len»
  refine wpAny_bind (m := oneArg "len" _) (wpAny_pure ?_)
  refine wpAny_bind (m := callSpecial? (.ref a) (Str.ofString "__len__")) (PySem.W.special_fn I.kIn J o.hs (beq_iff_eq.mp o.hf) (wpAny_mono (ownLen_run (A := X.A.in1) F hr.in1 hb hx I I.env0.in1 hsp) (fun v s' hv => ?_) fun _ _ y => y))
  obtain ⟨j, t, H', rfl, hj, I', q⟩ := hv
  refine wpAny_bind (wpAny_holding (wpAny_pure ?_))
  refine wpAny_bind (wpAny_letGo ?_)
  show wpAny _ _ (if j < 0 then _ else _) _ _ _
  rw [if_neg (by omega)]
  show wpAny _ _ (if j ≥ 2 ^ 63 then _ else _) _ _ _
  rw [if_neg (by omega)]
  exact wpAny_bind (wpAny_mkInt (wpAny_pure ⟨_, rfl, .int j, H', I'.tok _, ⟨_, rfl⟩, q⟩))
end
end Rx
namespace Rx
open PySem PySem.Spec PyProof.Rows L2
theorem rep_ownLen {ms : List Addr} {H : Hp} {C : Addr} {ns : List Str} {ds : List D} {u : V} {P : V → Prop} (h : rep ms H (.ins C ns ds) u) (k : P u) :
    ∃ (x : V) (a dx : Addr) (fs : List (Str × V)), [u] = [x] ∧ x = .ref a ∧ H a = some (.ins C dx fs) ∧ P x := by
  obtain ⟨p, dx, fs, e, hp⟩ := rep_ins h
  exact ⟨u, p, dx, fs, rfl, e, hp, k⟩
end Rx
namespace Rx
open PySem PySem.Spec PyProof.Rows L2
end Rx
namespace Rx
open PySem PySem.Spec PyProof.Rows L2
section
variable {K : PySem.W.Frag} {ms ms2 : List Addr} {H : Hp} {x y : V} {d : D} {es : List D} {Q : VK}
end
end Rx
namespace Rx
open PySem PySem.Spec PyProof.Rows L2
end Rx
namespace Rx
open PySem PySem.Spec PyProof.Rows L2
def rInT (K : PySem.W.Frag) (neg : Bool) : R2 := fun x y H Q => ∃ d ds, Dp K H x d ∧ Dp K H y (.tuple ds) ∧ SeqAt.shaped d = true ∧ SeqAt.shaped (.tuple ds) = true ∧ Q (.bl (neg != ds.any fun z => PyData.eqv z d)) H
section
variable {X : Cx} {K : PySem.W.Frag}
theorem op_ninTK (hK : X.K = K) (hu : X.A.units + 65 < cLine) : OpR X (compareOp .NotIn) (rInT K true) := by
  subst hK
  rintro pins s σ H x y v u Q I rx ry ⟨d, ds, hd, he, sd, se, q⟩
  obtain ⟨as, r1⟩ := Dp.reads I d x v hd rx
  obtain ⟨bs, r2⟩ := Dp.reads I (.tuple ds) y u he ry
  have q' : Q (.bl (!ds.any fun z => PyData.eqv z d)) H := by simpa using q
  exact SeqAt.notIn_tuple_reads r2 r1 (SeqAt.canLay_of_shaped se) (SeqAt.canLay_of_shaped sd) (room_in_shaped sd hu) ⟨.bl _, H, I, rfl, q'⟩
end
section
variable {K : PySem.W.Frag} {ms : List Addr} {H : Hp} {x y : V} {d : D} {es : List D} {Q : VK}
theorem rep_ninTD (h1 : rep ms H d x) (h2 : rep ms H (.tup es) y) (p1 : plainD d = true) (p2 : plainD (.tup es) = true) (s1 : SeqAt.shaped (pyOf d) = true) (s2 : SeqAt.shaped (pyOf (.tup es)) = true) (q : Q (.bl (!inDv d es)) H) : rInT K true x y H Q := by
  have z := dp_of (K := K) (.tup es) y p2 h2
  simp only [pyOf] at z s2
  exact ⟨pyOf d, pyL es, dp_of d x p1 h1, z, s1, s2, by simpa [inDv] using q⟩
end
def Fr1 (H0 H : Hp) (p : Addr) (u : V) : Prop := ∃ b, u = .ref b ∧ b ≠ p ∧ ((H0 b = none ∧ ∃ ws, H b = some (.lst ws)) ∨ ∃ ws, H b = some (.tup ws))
def FrL (H0 H : Hp) (L : Addr) : Prop := ∃ us, H L = some (.lst us) ∧ ∀ u ∈ us, Fr1 H0 H L u
def Fr2 (H0 H : Hp) (v : V) : Prop := ∃ p us, v = .ref p ∧ ((H0 p = none ∧ H p = some (.lst us)) ∨ H p = some (.tup us)) ∧ ∀ u ∈ us, Fr1 H0 H p u
section
variable {ms ms' : List Addr} {ps : List PEn} {H00 H0 H H' : Hp} {L p b : Addr} {u v : V} {d : D}
theorem fr1_ext (e : Ret [] H H') (f : Fr1 H0 H p u) : Fr1 H0 H' p u := by
  obtain ⟨b, rfl, ne, h⟩ := f
  refine ⟨b, rfl, ne, ?_⟩
  rcases h with ⟨n, ws, h⟩ | ⟨ws, h⟩
  · exact .inl ⟨n, ws, e.kp _ _ (by simp) h⟩
  · exact .inr ⟨ws, e.kp _ _ (by simp) h⟩
theorem frl_ext (e : Ret [] H H') (f : FrL H0 H L) : FrL H0 H' L := by
  obtain ⟨us, h, q⟩ := f
  exact ⟨us, e.kp _ _ (by simp) h, fun u hu => fr1_ext e (q u hu)⟩
theorem pot_tup (w : Wd ms ps [] H00 H) {ws : List V} (h : H b = some (.tup ws)) : b ∉ ad ps := fun z => by
  obtain ⟨q, hq, rfl⟩ := List.mem_map.mp z
  rcases ent_ne (w.pot q hq) h with ⟨_, e⟩ | ⟨_, e⟩ <;> cases e
theorem fr1_ret (w : Wd ms ps [] H00 H) (h0 : ∀ a ∈ ad ps, H0 a ≠ none) (e : Ret ps H H') (f : Fr1 H0 H p u) : Fr1 H0 H' p u := by
  obtain ⟨b, rfl, ne, h⟩ := f
  refine ⟨b, rfl, ne, ?_⟩
  rcases h with ⟨n, ws, h⟩ | ⟨ws, h⟩
  · exact .inl ⟨n, ws, e.kp _ _ (fun z => h0 b z n) h⟩
  · exact .inr ⟨ws, e.kp _ _ (pot_tup w h) h⟩
theorem frl_ret (w : Wd ms ps [] H00 H) (h0 : ∀ a ∈ ad ps, H0 a ≠ none) (hL : L ∉ ad ps) (e : Ret ps H H') (f : FrL H0 H L) : FrL H0 H' L := by
  obtain ⟨us, h, q⟩ := f
  exact ⟨us, e.kp _ _ hL h, fun u hu => fr1_ret w h0 e (q u hu)⟩
theorem frl_nil : FrL H0 (upd H L (.lst [])) L := ⟨[], upd_same, fun _ h => absurd h List.not_mem_nil⟩
theorem frl_snoc {vs : List V} (h : H L = some (.lst vs)) (f : FrL H0 H L) (g : Fr1 H0 H L u) : FrL H0 (upd H L (.lst (vs ++ [u]))) L := by
  obtain ⟨us, h', q⟩ := f
  rw [h] at h'
  cases h'
  have up : ∀ {z}, Fr1 H0 H L z → Fr1 H0 (upd H L (.lst (vs ++ [u]))) L z := fun {z} k => by
    obtain ⟨b, rfl, ne, k⟩ := k
    refine ⟨b, rfl, ne, ?_⟩
    rw [upd_ne ne]
    exact k
  refine ⟨_, upd_same, fun z hz => ?_⟩
  rcases List.mem_append.mp hz with m | m
  · exact up (q z m)
  · rw [List.mem_singleton.mp m]
    exact up g
theorem frl_fr2 (n : H0 L = none) (f : FrL H0 H L) : Fr2 H0 H (.ref L) := by
  obtain ⟨us, h, q⟩ := f
  exact ⟨L, us, rfl, .inl ⟨n, h⟩, q⟩
theorem fr1_lst {ws : List V} (ne : b ≠ L) (n : H0 b = none) (h : H b = some (.lst ws)) : Fr1 H0 H L (.ref b) := ⟨b, rfl, ne, .inl ⟨n, ws, h⟩⟩
theorem fr1_tup {ws : List V} (ne : b ≠ L) (h : H b = some (.tup ws)) : Fr1 H0 H L (.ref b) := ⟨b, rfl, ne, .inr ⟨ws, h⟩⟩
theorem frl_tup {us : List V} (nb : H b = none) (hL : H L = some (.lst us)) (f : FrL H0 H L) : Fr2 H0 (upd H b (.tup us)) (.ref b) := by
  obtain ⟨us', h', q⟩ := f
  rw [hL] at h'
  cases h'
  refine ⟨b, us, rfl, .inr upd_same, fun u hu => ?_⟩
  obtain ⟨c, rfl, ne, k⟩ := q u hu
  have cb : c ≠ b := fun z => by
    rw [z, nb] at k
    rcases k with ⟨_, _, k⟩ | ⟨_, k⟩ <;> cases k
  refine ⟨c, rfl, cb, ?_⟩
  rw [upd_ne cb]
  exact k
theorem none0 (w : Wd ms ps [] H0 H) (n : H b = none) : H0 b = none := Classical.byContradiction fun z => w.grow b z n
structure Own2 (H : Hp) (v : V) (As : List Addr) : Prop where
  at_ : ∃ p us, v = .ref p ∧ ((p ∈ As ∧ H p = some (.lst us)) ∨ H p = some (.tup us)) ∧ ∀ u ∈ us, ∃ b, u = .ref b ∧ b ≠ p ∧ ((b ∈ As ∧ ∃ ws, H b = some (.lst ws)) ∨ ∃ ws, H b = some (.tup ws))
  lst : ∀ a ∈ As, ∃ xs, H a = some (.lst xs)
theorem own_items {p : Addr} : ∀ {us : List V}, (∀ u ∈ us, Fr1 H0 H p u) → ∃ As : List Addr, (∀ a ∈ As, H0 a = none ∧ ∃ xs, H a = some (.lst xs)) ∧ ∀ u ∈ us, ∃ b, u = .ref b ∧ b ≠ p ∧ ((b ∈ As ∧ ∃ ws, H b = some (.lst ws)) ∨ ∃ ws, H b = some (.tup ws))
  | [], _ => ⟨[], fun _ h => absurd h List.not_mem_nil, fun _ h => absurd h List.not_mem_nil⟩
  | u :: us, h => by
    obtain ⟨As, h1, h2⟩ := own_items (us := us) fun z hz => h z (List.mem_cons_of_mem _ hz)
    obtain ⟨b, rfl, ne, k⟩ := h u List.mem_cons_self
    rcases k with ⟨n, ws, k⟩ | ⟨ws, k⟩
    · refine ⟨b :: As, fun a ha => ?_, fun z hz => ?_⟩
      · rcases List.mem_cons.mp ha with e | e
        · rw [e]
          exact ⟨n, ws, k⟩
        · exact h1 a e
      · rcases List.mem_cons.mp hz with e | e
        · exact ⟨b, e, ne, .inl ⟨List.mem_cons_self, ws, k⟩⟩
        · obtain ⟨c, e1, e2, e3⟩ := h2 z e
          exact ⟨c, e1, e2, e3.imp (fun q => ⟨List.mem_cons_of_mem _ q.1, q.2⟩) id⟩
    · refine ⟨As, h1, fun z hz => ?_⟩
      rcases List.mem_cons.mp hz with e | e
      · exact ⟨b, e, ne, .inr ⟨ws, k⟩⟩
      · exact h2 z e
theorem fr2_own (f : Fr2 H0 H v) : ∃ As : List Addr, (∀ a ∈ As, H0 a = none) ∧ Own2 H v As := by
  obtain ⟨p, us, rfl, h, q⟩ := f
  obtain ⟨As, h1, h2⟩ := own_items q
  rcases h with ⟨n, h⟩ | h
  · refine ⟨p :: As, fun a ha => ?_, ⟨p, us, rfl, .inl ⟨List.mem_cons_self, h⟩, fun u hu => ?_⟩, fun a ha => ?_⟩
    · rcases List.mem_cons.mp ha with e | e
      · rw [e]
        exact n
      · exact (h1 a e).1
    · obtain ⟨c, e1, e2, e3⟩ := h2 u hu
      exact ⟨c, e1, e2, e3.imp (fun z => ⟨List.mem_cons_of_mem _ z.1, z.2⟩) id⟩
    · rcases List.mem_cons.mp ha with e | e
      · rw [e]
        exact ⟨us, h⟩
      · exact (h1 a e).2
  · exact ⟨As, fun a ha => (h1 a ha).1, ⟨p, us, rfl, .inr h, h2⟩, fun a ha => (h1 a ha).2⟩
theorem own_ret (w : Wd ms ps [] H00 H) {As : List Addr} (n : ∀ a ∈ As, a ∉ ad ps) (e : Ret ps H H') (o : Own2 H v As) : Own2 H' v As := by
  obtain ⟨⟨p, us, rfl, h, q⟩, l⟩ := o
  refine ⟨⟨p, us, rfl, ?_, fun u hu => ?_⟩, fun a ha => ?_⟩
  · rcases h with ⟨m, h⟩ | h
    · exact .inl ⟨m, e.kp _ _ (n p m) h⟩
    · exact .inr (e.kp _ _ (pot_tup w h) h)
  · obtain ⟨b, rfl, ne, k⟩ := q u hu
    refine ⟨b, rfl, ne, ?_⟩
    rcases k with ⟨m, ws, k⟩ | ⟨ws, k⟩
    · exact .inl ⟨m, ws, e.kp _ _ (n b m) k⟩
    · exact .inr ⟨ws, e.kp _ _ (pot_tup w k) k⟩
  · obtain ⟨xs, k⟩ := l a ha
    exact ⟨xs, e.kp _ _ (n a ha) k⟩
theorem own_ext {As : List Addr} (e : Ret [] H H') (o : Own2 H v As) : Own2 H' v As := by
  obtain ⟨⟨p, us, rfl, h, q⟩, l⟩ := o
  refine ⟨⟨p, us, rfl, h.imp (fun z => ⟨z.1, e.kp _ _ (by simp) z.2⟩) (e.kp _ _ (by simp)), fun u hu => ?_⟩, fun a ha => ?_⟩
  · obtain ⟨b, rfl, ne, k⟩ := q u hu
    exact ⟨b, rfl, ne, k.imp (fun z => ⟨z.1, z.2.imp fun ws => e.kp _ _ (by simp)⟩) (fun z => z.imp fun ws => e.kp _ _ (by simp))⟩
  · obtain ⟨xs, k⟩ := l a ha
    exact ⟨xs, e.kp _ _ (by simp) k⟩
theorem rep_news {As : List Addr} (n : ∀ a ∈ As, H a = none) (h : rep ms H d u) : rep (As ++ ms) H d u := rep_map (fun p o np hp => ⟨fun z => by
  rcases List.mem_append.mp z with m | m
  · rw [n p m] at hp
    cases hp
  · exact np m, hp⟩) d u h
theorem keep_news {As : List Addr} (k : Keep ms H H') : Keep (As ++ ms) H H' := fun a o n h => k a o (fun z => n (List.mem_append_right _ z)) h
theorem wd_news {As : List Addr} (w : Wd ms ps [] H0 H) (l : ∀ a ∈ As, ∃ xs, H a = some (.lst xs)) : Wd (As ++ ms) ps [] H0 H :=
  ⟨w.kp, w.grow, fun m h => (List.mem_append.mp h).elim (fun z => by
    obtain ⟨xs, e⟩ := l m z
    rw [e]
    exact fun q => nomatch q) (w.tr m), w.pot, fun a h => List.mem_append_right _ (w.pm a h), fun _ h => absurd h List.not_mem_nil⟩
structure Emp (As : List Addr) (H H' : Hp) : Prop where
  out : ∀ b, b ∉ As → H' b = H b
  lst : ∀ a ∈ As, ∃ xs, H' a = some (.lst xs)
theorem rep_emp {As : List Addr} (s : ∀ a ∈ As, a ∈ ms) (e : Emp As H H') (h : rep ms H d u) : rep ms H' d u := rep_map (fun p o n hp => ⟨n, by rw [e.out p fun z => n (s p z)]; exact hp⟩) d u h
theorem keep_emp {As : List Addr} (s : ∀ a ∈ As, a ∈ ms) (e : Emp As H H') (k : Keep ms H0 H) : Keep ms H0 H' := fun a o n h => by
  rw [e.out a fun z => n (s a z)]
  exact k a o n h
theorem mo_emp {As : List Addr} (s : ∀ a ∈ As, a ∈ ms) (nL : L ∉ As) (e : Emp As H H') (m : MutO ms ps H0 H L d) : MutO ms ps H0 H' L d :=
  ⟨m.im, m.hp, m.h0, valO_map (fun p o n hp => ⟨n, by rw [e.out p fun z => n (s p z)]; exact hp⟩) (fun o h => by rw [e.out L nL]; exact h) d m.val⟩
theorem rep_retA {As : List Addr} {cs : List (Addr × List V)} (w : Wd ms ps cs H0 H) (e : Ret ps H H') (h : rep (As ++ ms) H d u) : rep (As ++ ms) H' d u :=
  rep_map (fun p o n hp => ⟨n, e.kp p o (fun z => n (List.mem_append_right _ (w.pm p z))) hp⟩) d u h
theorem in_left {As : List Addr} : ∀ a ∈ As, a ∈ As ++ ms := fun _ h => List.mem_append_left _ h
theorem in_right {As : List Addr} : ∀ a ∈ ms, a ∈ As ++ ms := fun _ h => List.mem_append_right _ h
theorem in_cons {As : List Addr} : ∀ a ∈ As, a ∈ L :: (As ++ ms) := fun _ h => List.mem_cons_of_mem _ (List.mem_append_left _ h)
theorem wd_emp {As : List Addr} (e : Emp As H H') (l : ∀ a ∈ As, ∃ xs, H a = some (.lst xs)) (n : ∀ a ∈ As, H0 a = none) (h0 : ∀ a ∈ ad ps, H0 a ≠ none) (w : Wd ms ps [] H0 H) : Wd ms ps [] H0 H' := by
  have ex : ∀ a, H a ≠ none → H' a ≠ none := fun a h => by
    by_cases m : a ∈ As
    · obtain ⟨xs, q⟩ := e.lst a m
      rw [q]
      exact fun z => nomatch z
    · rw [e.out a m]
      exact h
  refine ⟨fun a o na h => ?_, fun a h => ex a (w.grow a h), fun m h => ex m (w.tr m h), fun q hq => ?_, w.pm, fun _ h => absurd h List.not_mem_nil⟩
  · rw [e.out a fun m => by rw [n a m] at h; cases h]
    exact w.kp a o na h
  · have z : q.1 ∉ As := fun m => h0 q.1 (List.mem_map.mpr ⟨q, hq, rfl⟩) (n q.1 m)
    refine ent_stay (w.pot q hq) (fun o h => by rw [e.out _ z]; exact h) fun c nm h => ?_
    rw [e.out c fun m => by
      obtain ⟨xs, k⟩ := l c m
      rw [k] at h
      exact nomatch (Option.some.inj h)]
    exact h
theorem mo_endE {n : Nat} {Nx : Hp → Prop} {ds : List D} (m : MutO ms ps H0 H L (.lst ds)) (hn : n < 100000) (hy : ds.length ≤ n) (h : ∀ vs, H L = some (.lst vs) → repL ms H ds vs → Nx (upd H L (.lst (vs ++ [u])))) :
    ∃ acc, H L = some (.lst acc) ∧ acc.length < sizeLine ∧ Nx (upd H L (.lst (acc ++ [u]))) := by
  obtain ⟨vs, h1, h2⟩ := m.val
  have q := repL_len h2
  refine ⟨vs, h1, ?_, h vs h1 h2⟩
  rw [sizeLine_eq]
  omega
theorem mo_appUE {P : Addr → List V → V → Prop} {ds : List D} (m : MutO ms ps H0 H L (.lst ds)) (hl : ds.length < 16777216) (k : ∀ vs, H L = some (.lst vs) → repL ms H ds vs → P L vs u) :
    ∃ (l : Addr) (xs : List V) (y : V), V.ref L = .ref l ∧ [u] = [y] ∧ H l = some (.lst xs) ∧ xs.length < sizeLine ∧ P l xs y := by
  obtain ⟨vs, h1, h2⟩ := m.val
  have q := repL_len h2
  refine ⟨L, vs, u, rfl, rfl, h1, ?_, k vs h1 h2⟩
  rw [sizeLine_eq]
  omega
theorem rep_tupOfE {K : PySem.W.Frag} {ds : List D} {P : List V → Addr → Prop} {R : Addr → Prop} (h : rep ms H (.lst ds) (.ref L)) (q : ∀ ys, H L = some (.lst ys) → repL ms H ds ys → ∀ l, H l = none → P ys l) : ∃ p ys, [V.ref L] = [V.ref p] ∧ ((SqL K H p ys ∧ ∀ l, H l = none → P ys l) ∨ (SqT K H p ys ∧ R p)) := by
  obtain ⟨p, vs, e, _, hp, hr⟩ := rep_lstAt h
  cases e
  exact ⟨L, vs, rfl, .inl ⟨.inl (.inl hp), q vs hp hr⟩⟩
end
end Rx
namespace Wm
open PySem PySem.Spec PyProof.Rows L2

abbrev L (z : Str) : List Nat := z.cps.toList
theorem len_L (z : Str) : z.length = (L z).length := by
  show z.cps.size = z.cps.toList.length
  simp
theorem L_app (a b : Str) : L (a ++ b) = L a ++ L b := by
  show (a.cps ++ b.cps).toList = _
  simp [L]
theorem L_empty : L ("" : Str) = [] := by decide +kernel
theorem L_h : L ("h" : Str) = [104] := by decide +kernel
theorem L_a : L ("a" : Str) = [97] := by decide +kernel
theorem h_mk : ("h" : Str) = ⟨#[104]⟩ := by decide +kernel
theorem a_mk : ("a" : Str) = ⟨#[97]⟩ := by decide +kernel
theorem eqI {a b : Int} : decide (V.int a = V.int b) = decide (a = b) := by
  by_cases h : a = b
  · subst h
    simp
  · rw [decide_eq_false (fun z => h (V.int.inj z)), decide_eq_false h]

theorem join_L (ys : List Str) : L (Txt.join ("" : Str) ys) = (ys.map L).flatten := by
  rw [TL.join_eq]
  show TL.tl (Str.join _ _) = _
  rw [TL.tl_join]
  show TL.joinL (L ("" : Str)) _ = _
  rw [L_empty]
  show _ = (ys.map TL.tl).flatten
  generalize ys.map TL.tl = ls
  induction ls with
  | nil => rfl
  | cons p ls ih =>
    cases ls with
    | nil => simp [TL.joinL]
    | cons q r =>
      show p ++ ([] ++ TL.joinL [] (q :: r)) = _
      rw [ih]
      simp

def cyc (m : List Nat) (k : Nat) : List Nat := (List.range k).map fun j => m.getD (j % m.length) 0
def row (h m t : List Nat) (n : Nat) : List Nat := h ++ cyc m (n - h.length - t.length) ++ t
section
variable {h m t : List Nat} {n : Nat}
end

section
open Rx
variable {α β S : Type}
theorem mapC_ok {body : α → (β → Prop) → Prop} {k : List β → Prop} (g : α → β) : ∀ {xs : List α} {acc : List β}, (∀ x ∈ xs, ∀ k' : β → Prop, k' (g x) → body x k') → k (acc ++ xs.map g) → mapC body xs acc k
  | [], acc, _, q => by
    rw [List.map_nil, List.append_nil] at q
    exact q
  | x :: xs, acc, h, q => h x List.mem_cons_self _ (mapC_ok g (fun y hy => h y (List.mem_cons_of_mem _ hy)) (by rw [List.append_assoc]; exact q))
theorem filC_ok {body : α → (Option β → Prop) → Prop} {k : List β → Prop} (g : α → Option β) : ∀ {xs : List α} {acc : List β}, (∀ x ∈ xs, ∀ k' : Option β → Prop, k' (g x) → body x k') → k (acc ++ xs.filterMap g) → filC body xs acc k
  | [], acc, _, q => by
    rw [List.filterMap_nil, List.append_nil] at q
    exact q
  | x :: xs, acc, h, q => h x List.mem_cons_self _ (by
    show match g x with | some y => filC body xs (acc ++ [y]) k | none => filC body xs acc k
    cases e : g x with
    | none => exact filC_ok g (fun y hy => h y (List.mem_cons_of_mem _ hy)) (by rw [List.filterMap_cons_none e] at q; exact q)
    | some y => exact filC_ok g (fun y hy => h y (List.mem_cons_of_mem _ hy)) (by rw [List.filterMap_cons_some e] at q; rw [List.append_assoc]; exact q))
theorem forC_ok {body : α → S → (S → Prop) → Prop} {k : S → Prop} (I : S → Prop) : ∀ {xs : List α} {s0 : S}, (∀ x ∈ xs, ∀ (s : S) (k' : S → Prop), I s → (∀ s', I s' → k' s') → body x s k') → I s0 → (∀ s, I s → k s) → forC body xs s0 k
  | [], s0, _, i, q => q s0 i
  | x :: xs, s0, h, i, q => h x List.mem_cons_self s0 _ i fun s' i' => forC_ok I (fun y hy => h y (List.mem_cons_of_mem _ hy)) i' q
theorem rangeI_mem {lo hi x : Int} (h : x ∈ rangeI lo hi) : lo ≤ x ∧ x < hi := by
  unfold rangeI at h
  obtain ⟨i, hi', e⟩ := List.mem_map.mp h
  have := List.mem_range.mp hi'
  omega
end
end Wm

namespace Lw
open PySem PySem.Spec PyProof.Rows L2 Rx
abbrev St := L2.St
theorem sc_draw : FnScope ["_law_pot_here", "_law_many_here", "_law_digit"] ["_law_pot_here", "_law_many_here"] (defScope s_draw) := ⟨rfl, rfl, rfl, by decide +kernel, rfl, by decide +kernel, by decide +kernel⟩
theorem sc_pick : FnScope ["_law_pot_here", "_law_some"] ["_law_pot_here", "_law_some"] (defScope s_pick) := ⟨rfl, rfl, rfl, by decide +kernel, rfl, by decide +kernel, by decide +kernel⟩
theorem sc_many : FnScope ["_law_pot_here"] ["_law_pot_here"] (defScope s_many) := ⟨rfl, rfl, rfl, by decide +kernel, rfl, by decide +kernel, by decide +kernel⟩
theorem sc_mixed : FnScope ["_law_pot_here", "_law_some", "_law_rest", "_law_found", "_law_turn"] ["_law_pot_here", "_law_some"] (defScope s_mixed) := ⟨rfl, rfl, rfl, by decide +kernel, rfl, by decide +kernel, by decide +kernel⟩
theorem sc_day : FnScope ["_law_pot_here", "_law_many_here", "_law_lot", "_law_k"] ["_law_pot_here", "_law_many_here"] (defScope s_day) := ⟨rfl, rfl, rfl, by decide +kernel, rfl, by decide +kernel, by decide +kernel⟩
theorem sc_days : FnScope ["_law_pot_here", "_law_many_here", "_law_most", "_law_found", "_law_turn", "_law_way", "_law_near", "_law_home", "_law_away"] ["_law_pot_here", "_law_many_here", "_law_most"] (defScope s_days) := ⟨rfl, rfl, rfl, by decide +kernel, rfl, by decide +kernel, by decide +kernel⟩
theorem sc_passed : FnScope ["_law_pot_here", "_law_days_here", "_law_found", "_law_meets", "_law_near"] ["_law_pot_here", "_law_days_here"] (defScope s_passed) := ⟨rfl, rfl, rfl, by decide +kernel, rfl, by decide +kernel, by decide +kernel⟩
theorem sc_is_list : FnScope ["value"] ["value"] (defScope s_is_list) := ⟨rfl, rfl, rfl, by decide +kernel, rfl, by decide +kernel, by decide +kernel⟩
theorem sc_is_integer : FnScope ["value"] ["value"] (defScope s_is_integer) := ⟨rfl, rfl, rfl, by decide +kernel, rfl, by decide +kernel, by decide +kernel⟩
theorem sc_is_meeting : FnScope ["value"] ["value"] (defScope s_is_meeting) := ⟨rfl, rfl, rfl, by decide +kernel, rfl, by decide +kernel, by decide +kernel⟩
theorem sc_is_round : FnScope ["value", "meeting", "team"] ["value"] (defScope s_is_round) := ⟨rfl, rfl, rfl, by decide +kernel, rfl, by decide +kernel, by decide +kernel⟩
theorem sc_check_rounds : FnScope ["rounds", "position", "meetings"] ["rounds"] (defScope s_check_rounds) := ⟨rfl, rfl, rfl, by decide +kernel, rfl, by decide +kernel, by decide +kernel⟩
theorem sc_Table_init : FnScope ["self", "rounds", "meetings", "home", "away"] ["self", "rounds"] (defScope s_Table_init) := ⟨rfl, rfl, rfl, by decide +kernel, rfl, by decide +kernel, by decide +kernel⟩
theorem sc_empty : FnScope ["_law_some", "_law_meets"] ["_law_some"] (defScope s_empty) := ⟨rfl, rfl, rfl, by decide +kernel, rfl, by decide +kernel, by decide +kernel⟩
theorem sc_Table_size : FnScope ["self"] ["self"] (defScope s_Table_size) := ⟨rfl, rfl, rfl, by decide +kernel, rfl, by decide +kernel, by decide +kernel⟩
theorem sc_Table_len : FnScope ["self"] ["self"] (defScope s_Table_len) := ⟨rfl, rfl, rfl, by decide +kernel, rfl, by decide +kernel, by decide +kernel⟩
theorem sc_Table_rounds : FnScope ["self", "meetings"] ["self"] (defScope s_Table_rounds) := ⟨rfl, rfl, rfl, by decide +kernel, rfl, by decide +kernel, by decide +kernel⟩
theorem sc_is_count : FnScope ["value"] ["value"] (defScope s_is_count) := ⟨rfl, rfl, rfl, by decide +kernel, rfl, by decide +kernel, by decide +kernel⟩
theorem sc_check_day : FnScope ["day", "rounds"] ["day", "rounds"] (defScope s_check_day) := ⟨rfl, rfl, rfl, by decide +kernel, rfl, by decide +kernel, by decide +kernel⟩
theorem sc_Table_meetings : FnScope ["self", "day"] ["self", "day"] (defScope s_Table_meetings) := ⟨rfl, rfl, rfl, by decide +kernel, rfl, by decide +kernel, by decide +kernel⟩
theorem sc_sorted : FnScope ["_law_days_here", "_law_meets", "_law_home", "_law_away"] ["_law_days_here"] (defScope s_sorted) := ⟨rfl, rfl, rfl, by decide +kernel, rfl, by decide +kernel, by decide +kernel⟩
theorem sc_Table_repr : FnScope ["self"] ["self"] (defScope s_Table_repr) := ⟨rfl, rfl, rfl, by decide +kernel, rfl, by decide +kernel, by decide +kernel⟩
theorem sc_check_team : FnScope ["team", "teams"] ["team", "teams"] (defScope s_check_team) := ⟨rfl, rfl, rfl, by decide +kernel, rfl, by decide +kernel, by decide +kernel⟩
theorem sc_mark_in : FnScope ["meetings", "team", "meeting"] ["meetings", "team"] (defScope s_mark_in) := ⟨rfl, rfl, rfl, by decide +kernel, rfl, by decide +kernel, by decide +kernel⟩
theorem sc_Table_row_of : FnScope ["self", "team", "meetings"] ["self", "team"] (defScope s_Table_row_of) := ⟨rfl, rfl, rfl, by decide +kernel, rfl, by decide +kernel, by decide +kernel⟩
theorem sc_row : FnScope ["_law_days_here", "_law_who", "_law_meets", "_law_home", "_law_away"] ["_law_days_here", "_law_who"] (defScope s_row) := ⟨rfl, rfl, rfl, by decide +kernel, rfl, by decide +kernel, by decide +kernel⟩
theorem sc_is : FnScope ["_law_made", "_law_days_here", "_law_many_here", "_law_told", "_law_at", "_law_who"] ["_law_made", "_law_days_here", "_law_many_here"] (defScope s_is) := ⟨rfl, rfl, rfl, by decide +kernel, rfl, by decide +kernel, by decide +kernel⟩
theorem sc_check_pair : FnScope ["one", "other", "teams"] ["one", "other", "teams"] (defScope s_check_pair) := ⟨rfl, rfl, rfl, by decide +kernel, rfl, by decide +kernel, by decide +kernel⟩
theorem sc_Table_met_in : FnScope ["self", "one", "other", "day", "meetings"] ["self", "one", "other"] (defScope s_Table_met_in) := ⟨rfl, rfl, rfl, by decide +kernel, rfl, by decide +kernel, by decide +kernel⟩
theorem sc_met : FnScope ["_law_days_here", "_law_who", "_law_mate", "_law_at", "_law_meets"] ["_law_days_here", "_law_who", "_law_mate"] (defScope s_met) := ⟨rfl, rfl, rfl, by decide +kernel, rfl, by decide +kernel, by decide +kernel⟩
theorem sc_are_met : FnScope ["_law_made", "_law_days_here", "_law_many_here", "_law_who", "_law_mate"] ["_law_made", "_law_days_here", "_law_many_here"] (defScope s_are_met) := ⟨rfl, rfl, rfl, by decide +kernel, rfl, by decide +kernel, by decide +kernel⟩
theorem sc_Table_eq : FnScope ["self", "other"] ["self", "other"] (defScope s_Table_eq) := ⟨rfl, rfl, rfl, by decide +kernel, rfl, by decide +kernel, by decide +kernel⟩
theorem sc_turned : FnScope ["_law_days_here", "_law_some", "_law_meets", "_law_home", "_law_away"] ["_law_days_here", "_law_some"] (defScope s_turned) := ⟨rfl, rfl, rfl, by decide +kernel, rfl, by decide +kernel, by decide +kernel⟩
theorem sc_near_days : FnScope ["_law_pot_here", "_law_days_here", "_law_at", "_law_meets", "_law_spot", "_law_found", "_law_lead", "_law_mate", "_law_rest", "_law_near"] ["_law_pot_here", "_law_days_here"] (defScope s_near_days) := ⟨rfl, rfl, rfl, by decide +kernel, rfl, by decide +kernel, by decide +kernel⟩
theorem sc_named_right : FnScope ["_law_pot_here", "_law_made", "_law_days_here", "_law_many_here", "_law_at", "_law_who", "_law_mate"] ["_law_pot_here", "_law_made", "_law_days_here", "_law_many_here"] (defScope s_named_right) := ⟨rfl, rfl, rfl, by decide +kernel, rfl, by decide +kernel, by decide +kernel⟩
theorem sc_right : FnScope ["_law_pot_here", "_law_many_here", "_law_days_here", "_law_given", "_law_made", "_law_twin", "_law_turn", "_law_told", "_law_near"] ["_law_pot_here"] (defScope s_right) := ⟨rfl, rfl, rfl, by decide +kernel, rfl, by decide +kernel, by decide +kernel⟩
theorem sc_pot : FnScope ["_law_script", "_law_k", "_law_cell"] ["_law_script", "_law_k"] (defScope s_pot) := ⟨rfl, rfl, rfl, by decide +kernel, rfl, by decide +kernel, by decide +kernel⟩
theorem sc_law : FnScope ["_law_script", "_law_k"] ["_law_script"] (defScope s_law) := ⟨rfl, rfl, rfl, by decide +kernel, rfl, by decide +kernel, by decide +kernel⟩
structure Ad where
  a_draw : Addr
  d_draw : FuncData
  a_pick : Addr
  d_pick : FuncData
  a_many : Addr
  d_many : FuncData
  a_mixed : Addr
  d_mixed : FuncData
  a_day : Addr
  d_day : FuncData
  a_days : Addr
  d_days : FuncData
  a_passed : Addr
  d_passed : FuncData
  a_is_list : Addr
  d_is_list : FuncData
  a_is_integer : Addr
  d_is_integer : FuncData
  a_is_meeting : Addr
  d_is_meeting : FuncData
  a_is_round : Addr
  d_is_round : FuncData
  a_check_rounds : Addr
  d_check_rounds : FuncData
  a_Table_init : Addr
  d_Table_init : FuncData
  a_empty : Addr
  d_empty : FuncData
  a_Table_size : Addr
  d_Table_size : FuncData
  a_Table_len : Addr
  d_Table_len : FuncData
  a_Table_rounds : Addr
  d_Table_rounds : FuncData
  a_is_count : Addr
  d_is_count : FuncData
  a_check_day : Addr
  d_check_day : FuncData
  a_Table_meetings : Addr
  d_Table_meetings : FuncData
  a_sorted : Addr
  d_sorted : FuncData
  a_Table_repr : Addr
  d_Table_repr : FuncData
  a_check_team : Addr
  d_check_team : FuncData
  a_mark_in : Addr
  d_mark_in : FuncData
  a_Table_row_of : Addr
  d_Table_row_of : FuncData
  a_row : Addr
  d_row : FuncData
  a_is : Addr
  d_is : FuncData
  a_check_pair : Addr
  d_check_pair : FuncData
  a_Table_met_in : Addr
  d_Table_met_in : FuncData
  a_met : Addr
  d_met : FuncData
  a_are_met : Addr
  d_are_met : FuncData
  a_Table_eq : Addr
  d_Table_eq : FuncData
  a_turned : Addr
  d_turned : FuncData
  a_near_days : Addr
  d_near_days : FuncData
  a_named_right : Addr
  d_named_right : FuncData
  a_right : Addr
  d_right : FuncData
  a_pot : Addr
  d_pot : FuncData
  a_law : Addr
  d_law : FuncData
  c_Table : Addr
  pa_Table_size : Addr
abbrev Ad.tbs (A : Ad) : List PEn := []
structure Txt (w : World) (K : PySem.W.Frag) (mg : Str → Option Value) (A : Ad) : Prop where
  F_draw : Fun K "_law_draw" "_law_draw" s_draw A.a_draw A.d_draw
  b_draw : Binds K A.d_draw ["_law_pot_here", "_law_many_here"] []
  g_draw : mg "_law_draw" = some (.ref A.a_draw)
  F_pick : Fun K "_law_pick" "_law_pick" s_pick A.a_pick A.d_pick
  b_pick : Binds K A.d_pick ["_law_pot_here", "_law_some"] []
  g_pick : mg "_law_pick" = some (.ref A.a_pick)
  F_many : Fun K "_law_many" "_law_many" s_many A.a_many A.d_many
  b_many : Binds K A.d_many ["_law_pot_here"] []
  g_many : mg "_law_many" = some (.ref A.a_many)
  F_mixed : Fun K "_law_mixed" "_law_mixed" s_mixed A.a_mixed A.d_mixed
  b_mixed : Binds K A.d_mixed ["_law_pot_here", "_law_some"] []
  g_mixed : mg "_law_mixed" = some (.ref A.a_mixed)
  F_day : Fun K "_law_day" "_law_day" s_day A.a_day A.d_day
  b_day : Binds K A.d_day ["_law_pot_here", "_law_many_here"] []
  g_day : mg "_law_day" = some (.ref A.a_day)
  F_days : Fun K "_law_days" "_law_days" s_days A.a_days A.d_days
  b_days : Binds K A.d_days ["_law_pot_here", "_law_many_here", "_law_most"] []
  g_days : mg "_law_days" = some (.ref A.a_days)
  F_passed : Fun K "_law_passed" "_law_passed" s_passed A.a_passed A.d_passed
  b_passed : Binds K A.d_passed ["_law_pot_here", "_law_days_here"] []
  g_passed : mg "_law_passed" = some (.ref A.a_passed)
  F_is_list : Fun K "is_list" "is_list" s_is_list A.a_is_list A.d_is_list
  b_is_list : Binds K A.d_is_list ["value"] []
  g_is_list : mg "is_list" = some (.ref A.a_is_list)
  F_is_integer : Fun K "is_integer" "is_integer" s_is_integer A.a_is_integer A.d_is_integer
  b_is_integer : Binds K A.d_is_integer ["value"] []
  g_is_integer : mg "is_integer" = some (.ref A.a_is_integer)
  F_is_meeting : Fun K "_is_meeting" "_is_meeting" s_is_meeting A.a_is_meeting A.d_is_meeting
  b_is_meeting : Binds K A.d_is_meeting ["value"] []
  g_is_meeting : mg "_is_meeting" = some (.ref A.a_is_meeting)
  F_is_round : Fun K "is_round" "is_round" s_is_round A.a_is_round A.d_is_round
  b_is_round : Binds K A.d_is_round ["value"] []
  g_is_round : mg "is_round" = some (.ref A.a_is_round)
  F_check_rounds : Fun K "_check_rounds" "_check_rounds" s_check_rounds A.a_check_rounds A.d_check_rounds
  b_check_rounds : Binds K A.d_check_rounds ["rounds"] []
  g_check_rounds : mg "_check_rounds" = some (.ref A.a_check_rounds)
  F_Table_init : Fun K "__init__" "Table.__init__" s_Table_init A.a_Table_init A.d_Table_init
  b_Table_init : Binds K A.d_Table_init ["self", "rounds"] []
  F_empty : Fun K "_law_empty" "_law_empty" s_empty A.a_empty A.d_empty
  b_empty : Binds K A.d_empty ["_law_some"] []
  g_empty : mg "_law_empty" = some (.ref A.a_empty)
  F_Table_size : Fun K "size" "Table.size" s_Table_size A.a_Table_size A.d_Table_size
  b_Table_size : Binds K A.d_Table_size ["self"] []
  p_Table_size : PropOf K A.c_Table "size" A.pa_Table_size A.a_Table_size
  F_Table_len : Fun K "__len__" "Table.__len__" s_Table_len A.a_Table_len A.d_Table_len
  b_Table_len : Binds K A.d_Table_len ["self"] []
  m_Table_len : Meth K A.c_Table "__len__" A.a_Table_len
  F_Table_rounds : Fun K "rounds" "Table.rounds" s_Table_rounds A.a_Table_rounds A.d_Table_rounds
  b_Table_rounds : Binds K A.d_Table_rounds ["self"] []
  m_Table_rounds : Meth K A.c_Table "rounds" A.a_Table_rounds
  F_is_count : Fun K "is_count" "is_count" s_is_count A.a_is_count A.d_is_count
  b_is_count : Binds K A.d_is_count ["value"] []
  g_is_count : mg "is_count" = some (.ref A.a_is_count)
  F_check_day : Fun K "check_day" "check_day" s_check_day A.a_check_day A.d_check_day
  b_check_day : Binds K A.d_check_day ["day", "rounds"] []
  g_check_day : mg "check_day" = some (.ref A.a_check_day)
  F_Table_meetings : Fun K "meetings" "Table.meetings" s_Table_meetings A.a_Table_meetings A.d_Table_meetings
  b_Table_meetings : Binds K A.d_Table_meetings ["self", "day"] []
  m_Table_meetings : Meth K A.c_Table "meetings" A.a_Table_meetings
  F_sorted : Fun K "_law_sorted" "_law_sorted" s_sorted A.a_sorted A.d_sorted
  b_sorted : Binds K A.d_sorted ["_law_days_here"] []
  g_sorted : mg "_law_sorted" = some (.ref A.a_sorted)
  F_Table_repr : Fun K "__repr__" "Table.__repr__" s_Table_repr A.a_Table_repr A.d_Table_repr
  b_Table_repr : Binds K A.d_Table_repr ["self"] []
  m_Table_repr : Meth K A.c_Table "__repr__" A.a_Table_repr
  F_check_team : Fun K "check_team" "check_team" s_check_team A.a_check_team A.d_check_team
  b_check_team : Binds K A.d_check_team ["team", "teams"] []
  g_check_team : mg "check_team" = some (.ref A.a_check_team)
  F_mark_in : Fun K "_mark_in" "_mark_in" s_mark_in A.a_mark_in A.d_mark_in
  b_mark_in : Binds K A.d_mark_in ["meetings", "team"] []
  g_mark_in : mg "_mark_in" = some (.ref A.a_mark_in)
  F_Table_row_of : Fun K "row_of" "Table.row_of" s_Table_row_of A.a_Table_row_of A.d_Table_row_of
  b_Table_row_of : Binds K A.d_Table_row_of ["self", "team"] []
  m_Table_row_of : Meth K A.c_Table "row_of" A.a_Table_row_of
  F_row : Fun K "_law_row" "_law_row" s_row A.a_row A.d_row
  b_row : Binds K A.d_row ["_law_days_here", "_law_who"] []
  g_row : mg "_law_row" = some (.ref A.a_row)
  F_is : Fun K "_law_is" "_law_is" s_is A.a_is A.d_is
  b_is : Binds K A.d_is ["_law_made", "_law_days_here", "_law_many_here"] []
  g_is : mg "_law_is" = some (.ref A.a_is)
  F_check_pair : Fun K "check_pair" "check_pair" s_check_pair A.a_check_pair A.d_check_pair
  b_check_pair : Binds K A.d_check_pair ["one", "other", "teams"] []
  g_check_pair : mg "check_pair" = some (.ref A.a_check_pair)
  F_Table_met_in : Fun K "met_in" "Table.met_in" s_Table_met_in A.a_Table_met_in A.d_Table_met_in
  b_Table_met_in : Binds K A.d_Table_met_in ["self", "one", "other"] []
  m_Table_met_in : Meth K A.c_Table "met_in" A.a_Table_met_in
  F_met : Fun K "_law_met" "_law_met" s_met A.a_met A.d_met
  b_met : Binds K A.d_met ["_law_days_here", "_law_who", "_law_mate"] []
  g_met : mg "_law_met" = some (.ref A.a_met)
  F_are_met : Fun K "_law_are_met" "_law_are_met" s_are_met A.a_are_met A.d_are_met
  b_are_met : Binds K A.d_are_met ["_law_made", "_law_days_here", "_law_many_here"] []
  g_are_met : mg "_law_are_met" = some (.ref A.a_are_met)
  F_Table_eq : Fun K "__eq__" "Table.__eq__" s_Table_eq A.a_Table_eq A.d_Table_eq
  b_Table_eq : Binds K A.d_Table_eq ["self", "other"] []
  m_Table_eq : Meth K A.c_Table "__eq__" A.a_Table_eq
  F_turned : Fun K "_law_turned" "_law_turned" s_turned A.a_turned A.d_turned
  b_turned : Binds K A.d_turned ["_law_days_here", "_law_some"] []
  g_turned : mg "_law_turned" = some (.ref A.a_turned)
  F_near_days : Fun K "_law_near_days" "_law_near_days" s_near_days A.a_near_days A.d_near_days
  b_near_days : Binds K A.d_near_days ["_law_pot_here", "_law_days_here"] []
  g_near_days : mg "_law_near_days" = some (.ref A.a_near_days)
  F_named_right : Fun K "_law_named_right" "_law_named_right" s_named_right A.a_named_right A.d_named_right
  b_named_right : Binds K A.d_named_right ["_law_pot_here", "_law_made", "_law_days_here", "_law_many_here"] []
  g_named_right : mg "_law_named_right" = some (.ref A.a_named_right)
  F_right : Fun K "_law_right" "_law_right" s_right A.a_right A.d_right
  b_right : Binds K A.d_right ["_law_pot_here"] []
  g_right : mg "_law_right" = some (.ref A.a_right)
  F_pot : Fun K "_law_pot" "_law_pot" s_pot A.a_pot A.d_pot
  b_pot : Binds K A.d_pot ["_law_script", "_law_k"] []
  g_pot : mg "_law_pot" = some (.ref A.a_pot)
  F_law : Fun K "law" "law" s_law A.a_law A.d_law
  b_law : Binds K A.d_law ["_law_script"] []
  g_law : mg "law" = some (.ref A.a_law)
  cl_Table : Cls K A.c_Table
  g_Table : mg "Table" = some (.ref A.c_Table)
  mk_Table : Mk K A.c_Table A.a_Table_init
  na_Table__rounds : NoAttr K A.c_Table "_rounds"
  ic_Table : IsC K A.c_Table
  in_Table : IsN K A.c_Table
  ow_Table_len : OwnText K A.c_Table "__len__" A.a_Table_len
  ow_Table_repr : OwnText K A.c_Table "__repr__" A.a_Table_repr
  oe_Table : OwnEq K A.c_Table A.a_Table_eq
  z_abs : mg "abs" = none
  z_all : mg "all" = none
  z_any : mg "any" = none
  z_bool : mg "bool" = none
  z_dict : mg "dict" = none
  z_divmod : mg "divmod" = none
  z_enumerate : mg "enumerate" = none
  z_int : mg "int" = none
  z_isinstance : mg "isinstance" = none
  z_len : mg "len" = none
  z_list : mg "list" = none
  z_max : mg "max" = none
  z_min : mg "min" = none
  z_range : mg "range" = none
  z_repr : mg "repr" = none
  z_set : mg "set" = none
  z_sorted : mg "sorted" = none
  z_sum : mg "sum" = none
  z_tuple : mg "tuple" = none
  z_zip : mg "zip" = none
  c_FEWEST_MEETINGS : ∃ u, mg "FEWEST_MEETINGS" = some u ∧ RelV (.int 2) u
  c_MOST_MEETINGS : ∃ u, mg "MOST_MEETINGS" = some u ∧ RelV (.int 12) u
  c_MOST_ROUNDS : ∃ u, mg "MOST_ROUNDS" = some u ∧ RelV (.int 60) u
  k_Table_init_rounds : KBn K A.d_Table_init ["self", "rounds"] 1 ["rounds"] (fun us ws => us ++ [ws.getD 0 .none]) (fun us ws => us ++ [ws.getD 0 .non])
  k_Table_meetings_day : KBn K A.d_Table_meetings ["self", "day"] 1 ["day"] (fun us ws => us ++ [ws.getD 0 .none]) (fun us ws => us ++ [ws.getD 0 .non])
  k_Table_met_in_other_one : KBn K A.d_Table_met_in ["self", "one", "other"] 1 ["other", "one"] (fun us ws => us ++ [ws.getD 1 .none, ws.getD 0 .none]) (fun us ws => us ++ [ws.getD 1 .non, ws.getD 0 .non])
  k_Table_row_of_team : KBn K A.d_Table_row_of ["self", "team"] 1 ["team"] (fun us ws => us ++ [ws.getD 0 .none]) (fun us ws => us ++ [ws.getD 0 .non])
abbrev ns_Table : List Str := ["_rounds"]
theorem nd_Table : ns_Table.Nodup := by decide +kernel
abbrev eTable (A : Ad) (x : (List (List (Int × Int)))) : D := .ins A.c_Table ns_Table [(D.lst (x.map (fun y_ : (List (Int × Int)) => (D.lst (y_.map (fun y_ : (Int × Int) => (D.tup [(D.v (V.int y_.1)), (D.v (V.int y_.2))])))))))]
/-! ### draws: any number below the size -/
def M_draw (x_size : Int) (KM : Int → Prop) : Prop := (0 < x_size ∧ x_size < 1073741824) ∧ ∀ d : Int, 0 ≤ d → d < x_size → KM d
def sp_draw (A : Ad) : Sp := fun vs H Q _ => ∃ (ms : List Addr) (ap : Addr) (x_size : Int) (KM : Int → Prop), vs = [.ref ap, V.int x_size] ∧ Wd ms [(ap, none)] [] H H ∧ M_draw x_size KM ∧ ∀ (r : Int) (u : V) (H1 : Hp), KM r → Ret [(ap, none)] H H1 → rep ms H1 (D.v (V.int r)) u → Q u H1
theorem ret_pot1 {H : Hp} {ap : Addr} {o : HO} {i j : Int} (ha : H ap = some o) (hj : j.natAbs < 4294967296) : Ret [(ap, none)] H (upd H ap (.lst [.int i, .int j])) := by
  refine ⟨fun a u n h => ?_, fun a h => ?_, fun a h => ?_⟩
  · rw [upd_ne (fun z => n (by rw [z]; exact List.mem_singleton.mpr rfl))]
    exact h
  · rw [List.mem_singleton.mp h]
    exact (⟨i, j, upd_same, hj⟩ : PotH _ _)
  · by_cases e : a = ap
    · rw [e, upd_same]
      exact fun z => nomatch z
    · rw [upd_ne e]
      exact h
theorem ret_pot2 {H : Hp} {ap p : Addr} {o u : HO} {i j : Int} (ha : H ap = some o) (np : H p = none) (hj : j.natAbs < 4294967296) : Ret [(ap, none)] H (upd (upd H p u) ap (.lst [.int i, .int j])) := by
  have e := Rx.Ext.new (o := u) np
  have h2 := ret_pot1 (i := i) (j := j) (e.keep ha) hj
  exact ⟨fun a w n h => h2.kp a w n (e.keep h), h2.pot, fun a h => h2.grow a (e.grow a h)⟩
theorem ok_draw {P : Program} {w : World} {K : PySem.W.Frag} {mg : Str → Option Value} {base : Heap} {A : Ad} (T : Txt w K mg A) : FnOk P w K mg base CX0 1 A.a_draw A.d_draw ["_law_pot_here", "_law_many_here"] (sp_draw A) := by
  refine T.F_draw.ok sc_draw (fun vs H Q E h => ?_) (fun cdv A_ outer s_ H_0 vs Q E hr h => ?_)
  · obtain ⟨ms, ap, x_size, KM, rfl, _⟩ := h
    rfl
  · obtain ⟨ms, ap, n, KM, rfl, hW, ⟨⟨n0, n1⟩, hM⟩, hQ⟩ := h
    obtain ⟨i, j, hp, hj⟩ : PotH _ ap := hW.pot (ap, none) (List.mem_singleton.mpr rfl)
    refine ⟨_, pss_cons (ps_if (pt_cmpR op_gt (pe_ix ix_list (pv 0) pe_int (fun _ _ => rfl)) pe_int (nomark _))
        (pss_cons (ps_asg (pe_callB call_divmod (by rfl) T.z_divmod (by decide +kernel) (pa_cons (pe_ix ix_list (pv 0) pe_int (fun _ _ => rfl)) (pa_cons (pv 1) pa_nil)))
            (pg_tup rfl (pgs_cons (pg_sub (pv 0) pe_int set_list) (pgs_cons (pg_name (i := 2) sc_draw.nd rfl (.inl rfl)) pgs_nil)))) (pss_one (ps_ret (pv 2)))) pss_nil)
      (pss_cons (ps_asg (pe_op op_mod (pe_callTy call_int1 (by rfl) T.z_int (by decide +kernel) (pa_cons (pe_op op_add (pe_op op_mul (pe_ix ix_list (pv 0) pe_int (fun _ _ => rfl)) pe_int) pe_int) pa_nil)) pe_int) (pg_sub (pv 0) pe_int set_list))
      (pss_one (ps_ret (pe_op op_mod (pe_callTy call_int1 (by rfl) T.z_int (by decide +kernel) (pa_cons (pe_op op_fdiv (pe_op op_mod (pe_callTy call_int1 (by rfl) T.z_int (by decide +kernel)
          (pa_cons (pe_op op_mul (pe_ix ix_list (pv 0) pe_int (fun _ _ => rfl)) (pe_ix ix_list (pv 0) pe_int (fun _ _ => rfl))) pa_nil)) pe_int) pe_int) pa_nil)) (pv 1))))), ?_⟩
    refine ⟨_, rfl, ap, _, 0, .int i, rfl, rfl, .inl (.inl hp), rfl, _, _, rfl, rfl, _, rfl, ?_⟩
    refine ite2 (fun c => ?_) (fun c => ?_)
    · refine ⟨_, rfl, ap, _, 0, .int i, rfl, rfl, .inl (.inl hp), rfl, _, rfl, _, _, rfl, ⟨n0, n1⟩, fun p np => ?_⟩
      have npa : ap ≠ p := ne_of_none hp np
      refine ⟨p, _, rfl, .inl (.inl upd_same), rfl, _, _, rfl, _, rfl, ap, _, 0, 0, rfl, rfl, (by rw [upd_ne npa]; exact hp), rfl, _, _, rfl, rfl, _, rfl, ?_⟩
      exact hQ (i % n) _ _ (hM _ (Int.emod_nonneg _ (by omega)) (Int.emod_lt_of_pos _ n0)) (ret_pot2 hp np hj) rep_v
    · refine ⟨_, rfl, ap, _, 1, .int j, rfl, rfl, .inl (.inl hp), rfl, _, _, rfl, rfl, .inr ⟨by decide, by decide⟩, _, _, rfl, rfl, .inl ⟨_, rfl, _, _, rfl, rfl, (by show (0 : Int) < 2147483563; decide), ?_⟩⟩
      refine ⟨_, rfl, ap, _, 1, 1, rfl, rfl, hp, rfl, ?_⟩
      refine ⟨_, rfl, ap, _, 1, _, rfl, rfl, .inl (.inl upd_same), rfl, _, rfl, ap, _, 1, _, rfl, rfl, .inl (.inl upd_same), rfl, _, _, rfl, rfl, .inl ⟨?_, ?_⟩, .inl ⟨_, rfl, _, _, rfl, rfl, (by show (0 : Int) < 2147483477; decide), _, _, rfl, rfl, ⟨by decide, by decide⟩, .inl ⟨_, rfl, _, rfl, _, _, rfl, rfl, n0, ?_⟩⟩⟩
      · omega
      · omega
      · refine hQ _ _ _ (hM _ (Int.emod_nonneg _ (by omega)) (Int.emod_lt_of_pos _ n0)) (ret_pot1 (i := i) hp ?_) rep_v
        omega

def M_pick (x_some : (List Int)) (KM : Int → Prop) : Prop :=
  (M_draw (x_some.length : Int) fun r1 => (0 ≤ r1 ∧ ∃ g7 : Int.toNat r1 < x_some.length, ∀ x9, x9 = x_some[Int.toNat r1]'g7 → (KM x9)))
def sp_pick (A : Ad) : Sp := fun vs H Q _ => ∃ (ms : List Addr) (ap : Addr) (v_some : V) (x_some : (List Int)) (KM : Int → Prop), vs = [.ref ap, v_some] ∧ Wd ms [(ap, none)] [] H H ∧ rep ms H (D.lst (x_some.map (fun y_ : Int => (D.v (V.int y_))))) v_some ∧ M_pick x_some KM ∧ ∀ (r : Int) (u : V) (H1 : Hp), KM r → Ret [(ap, none)] H H1 → rep ms H1 (D.v (V.int r)) u → Q u H1
set_option maxHeartbeats 16000000 in
theorem ok_pick {P : Program} {w : World} {K : PySem.W.Frag} {mg : Str → Option Value} {base : Heap} {A : Ad} (T : Txt w K mg A) : FnOk P w K mg base CX0 2 A.a_pick A.d_pick ["_law_pot_here", "_law_some"] (sp_pick A) := by
  refine T.F_pick.ok sc_pick (fun vs H Q E h => ?_) (fun cdv A_ outer s_ H_0 vs Q E hr h => ?_)
  · obtain ⟨ms, ap, v_some, x_some, KM, rfl, _⟩ := h
    rfl
  · obtain ⟨ms, ap, v_some, x_some, KM, rfl, hW, h_some, hM, hQ⟩ := h
    unfold M_pick at hM
    refine ⟨_, (pss_one (ps_ret (pe_ix (ix_listK (K := K) rfl) (pv 1) (pe_call (ok_draw T) (hr.mono (by decide)) (by rfl) T.g_draw T.F_draw.kp T.b_draw .nil pass0 (pa_cons (pv 0) (pa_cons (pe_callB (call_lenK (K := K) rfl) (by rfl) T.z_len PySem.boot_len (pa_cons (pv 1) pa_nil)) pa_nil))) (fun _ _ => rfl)))), ?_⟩
    refine ⟨_, rfl, ?_⟩
    refine ⟨_, rfl, ?_⟩
    refine ⟨_, rfl, ?_⟩
    apply rep_lenL (e := (fun y_ : Int => (D.v (V.int y_)))) (xs := x_some) h_some
    refine ⟨ms, ap, (x_some.length : Int), _, rfl, hW.enterP, hM, fun r1 u4 H5 hM e3 h2 => ?_⟩
    replace h_some := rep_ret hW e3 h_some
    replace hW := hW.retP e3
    obtain rfl := of_v h2
    obtain ⟨g6, g7, hM⟩ := hM
    apply rep_ixL (e := (fun y_ : Int => (D.v (V.int y_)))) (xs := x_some) h_some g6 g7
    intro u10 h8
    obtain ⟨x9, x9e⟩ : ∃ x_, x_ = x_some[Int.toNat r1]'g7 := ⟨_, rfl⟩
    rw [← x9e] at h8
    replace hM := hM x9 x9e
    obtain rfl := of_v h8
    exact hQ x9 _ _ hM hW.out rep_v
def M_many (KM : Int → Prop) : Prop :=
  (M_draw (11 : Int) fun r1 => (M_pick ([(4 : Int), (4 : Int), (6 : Int), (6 : Int), (8 : Int), (10 : Int), (24 : Int), ((4 : Int) + ((2 : Int) * r1))] : List Int) fun r12 => (KM r12)))
def sp_many (A : Ad) : Sp := fun vs H Q _ => ∃ (ms : List Addr) (ap : Addr) (KM : Int → Prop), vs = [.ref ap] ∧ Wd ms [(ap, none)] [] H H ∧ M_many  KM ∧ ∀ (r : Int) (u : V) (H1 : Hp), KM r → Ret [(ap, none)] H H1 → rep ms H1 (D.v (V.int r)) u → Q u H1
set_option maxHeartbeats 16000000 in
theorem ok_many {P : Program} {w : World} {K : PySem.W.Frag} {mg : Str → Option Value} {base : Heap} {A : Ad} (T : Txt w K mg A) : FnOk P w K mg base CX0 3 A.a_many A.d_many ["_law_pot_here"] (sp_many A) := by
  refine T.F_many.ok sc_many (fun vs H Q E h => ?_) (fun cdv A_ outer s_ H_0 vs Q E hr h => ?_)
  · obtain ⟨ms, ap, KM, rfl, _⟩ := h
    rfl
  · obtain ⟨ms, ap, KM, rfl, hW, hM, hQ⟩ := h
    unfold M_many at hM
    refine ⟨_, (pss_one (ps_ret (pe_call (ok_pick T) (hr.mono (by decide)) (by rfl) T.g_pick T.F_pick.kp T.b_pick .nil pass0 (pa_cons (pv 0) (pa_cons (pe_lst (pa_cons pe_int (pa_cons pe_int (pa_cons pe_int (pa_cons pe_int (pa_cons pe_int (pa_cons pe_int (pa_cons pe_int (pa_cons (pe_op op_add pe_int (pe_op op_mul pe_int (pe_call (ok_draw T) (hr.mono (by decide)) (by rfl) T.g_draw T.F_draw.kp T.b_draw .nil pass0 (pa_cons (pv 0) (pa_cons pe_int pa_nil))))) pa_nil))))))))) pa_nil))))), ?_⟩
    refine ⟨_, rfl, ?_⟩
    refine ⟨_, rfl, ?_⟩
    refine ⟨ms, ap, (11 : Int), _, rfl, hW.enterP, hM, fun r1 u4 H5 hM e3 h2 => ?_⟩
    replace hW := hW.retP e3
    obtain rfl := of_v h2
    refine ⟨_, _, rfl, rfl, .inl ⟨by decide, by decide⟩, ?_⟩
    refine ⟨_, _, rfl, rfl, ?_⟩
    refine ⟨(by show 8 ≤ sizeLine; decide), ?_⟩
    intro p6 n10
    have e7 := Rx.Ext.new (H := H5) (o := (HO.lst [V.int (4 : Int), V.int (4 : Int), V.int (6 : Int), V.int (6 : Int), V.int (8 : Int), V.int (10 : Int), V.int (24 : Int), V.int ((4 : Int) + ((2 : Int) * r1))])) n10
    have hp8 : upd H5 p6 (HO.lst [V.int (4 : Int), V.int (4 : Int), V.int (6 : Int), V.int (6 : Int), V.int (8 : Int), V.int (10 : Int), V.int (24 : Int), V.int ((4 : Int) + ((2 : Int) * r1))]) p6 = some (HO.lst [V.int (4 : Int), V.int (4 : Int), V.int (6 : Int), V.int (6 : Int), V.int (8 : Int), V.int (10 : Int), V.int (24 : Int), V.int ((4 : Int) + ((2 : Int) * r1))]) := upd_same
    generalize upd H5 p6 (HO.lst [V.int (4 : Int), V.int (4 : Int), V.int (6 : Int), V.int (6 : Int), V.int (8 : Int), V.int (10 : Int), V.int (24 : Int), V.int ((4 : Int) + ((2 : Int) * r1))]) = H11 at e7 hp8 ⊢
    have h9 : rep ms H11 (D.lst (([(4 : Int), (4 : Int), (6 : Int), (6 : Int), (8 : Int), (10 : Int), (24 : Int), ((4 : Int) + ((2 : Int) * r1))] : List Int).map (fun y_ : Int => (D.v (V.int y_))))) (.ref p6) := rep_lst_mk hW n10 e7 hp8 (repL_cons rep_v (repL_cons rep_v (repL_cons rep_v (repL_cons rep_v (repL_cons rep_v (repL_cons rep_v (repL_cons rep_v (repL_cons rep_v repL_nil))))))))
    replace hW := hW.ret0 e7
    refine ⟨ms, ap, _, ([(4 : Int), (4 : Int), (6 : Int), (6 : Int), (8 : Int), (10 : Int), (24 : Int), ((4 : Int) + ((2 : Int) * r1))] : List Int), _, rfl, hW.enterP, h9, hM, fun r12 u15 H16 hM e14 h13 => ?_⟩
    replace h9 := rep_ret hW e14 h9
    replace hW := hW.retP e14
    obtain rfl := of_v h13
    exact hQ r12 _ _ hM hW.out rep_v
def M_mixed (x_some : (List Int)) (KM : (List Int) → Prop) : Prop :=
  (forC (fun (x20 : Int) (s22 : (List Int) × (List Int)) (k23 : ((List Int) × (List Int)) → Prop) => (M_draw (s22.1.length : Int) fun r32 => ((0 ≤ r32 ∧ r32 < 2 ^ 63) ∧ ∃ y42, s22.1[Int.toNat r32]? = some y42 ∧ (s22.2.length < 16777216 ∧ (k23 ((s22.1.eraseIdx (Int.toNat r32)), (s22.2 ++ [y42]))))))) (rangeI (0 : Int) (x_some.length : Int)) (x_some, ([] : List Int)) fun s55 => (KM s55.2))
def sp_mixed (A : Ad) : Sp := fun vs H Q _ => ∃ (ms : List Addr) (ap : Addr) (v_some : V) (x_some : (List Int)) (KM : (List Int) → Prop), vs = [.ref ap, v_some] ∧ Wd ms [(ap, none)] [] H H ∧ rep ms H (D.lst (x_some.map (fun y_ : Int => (D.v (V.int y_))))) v_some ∧ M_mixed x_some KM ∧ ∀ (r : (List Int)) (u : V) (H1 : Hp), KM r → Ret [(ap, none)] H H1 → rep ms H1 (D.lst (r.map (fun y_ : Int => (D.v (V.int y_))))) u → Q u H1
set_option maxHeartbeats 16000000 in
theorem ok_mixed {P : Program} {w : World} {K : PySem.W.Frag} {mg : Str → Option Value} {base : Heap} {A : Ad} (T : Txt w K mg A) : FnOk P w K mg base CX0 2 A.a_mixed A.d_mixed ["_law_pot_here", "_law_some"] (sp_mixed A) := by
  refine T.F_mixed.ok sc_mixed (fun vs H Q E h => ?_) (fun cdv A_ outer s_ H_0 vs Q E hr h => ?_)
  · obtain ⟨ms, ap, v_some, x_some, KM, rfl, _⟩ := h
    rfl
  · obtain ⟨ms, ap, v_some, x_some, KM, rfl, hW, h_some, hM, hQ⟩ := h
    unfold M_mixed at hM
    refine ⟨_, (pss_cons (ps_par (i := 2) (j := 3) (by rfl) sc_mixed.nd rfl rfl (by decide) rfl rfl (pa_cons (pe_callTy (call_list_ofK (K := K) rfl) (by rfl) T.z_list (by decide +kernel) (pa_cons (pv 1) pa_nil)) (pa_cons (pe_lst pa_nil) pa_nil)) (by rfl)) (pss_cons (ps_for PassesOwn.never rfl (pi_rangeW1 (by rfl) T.z_range (pa_cons (pe_callB (call_lenK (K := K) rfl) (by rfl) T.z_len PySem.boot_len (pa_cons (pv 1) pa_nil)) pa_nil)) (pg_name (i := 4) sc_mixed.nd rfl (by first | exact Or.inl rfl | exact Or.inr rfl)) (pss_one (ps_expr (pe_bmK (K := K) rfl PySem.F.plainAttrs_list PySem.F.slot_list_append PySem.F.type_list_append mt_append (pv 3) (pa_cons (pe_bmK (K := K) rfl PySem.F.plainAttrs_list PySem.F.slot_list_pop PySem.F.type_list_pop mt_popAt (pv 2) (pa_cons (pe_call (ok_draw T) (hr.mono (by decide)) (by rfl) T.g_draw T.F_draw.kp T.b_draw .nil pass0 (pa_cons (pv 0) (pa_cons (pe_callB (call_lenK (K := K) rfl) (by rfl) T.z_len PySem.boot_len (pa_cons (pv 2) pa_nil)) pa_nil))) pa_nil)) pa_nil))))) (pss_one (ps_ret (pv 3))))), ?_⟩
    refine ⟨_, rfl, ?_⟩
    apply rep_listL h_some
    intro ys1 hr2
    intro L9 nl10
    have nm11 := nm_new hW nl10
    have mu12 := mo_newL (ds := x_some.map (fun y_ : Int => (D.v (V.int y_)))) (vs := ys1) hW nl10 hr2
    replace h_some := rep_cell (o := .lst ys1) nl10 h_some
    replace hW := wd_cell (o := .lst ys1) hW nl10
    generalize upd H_0 L9 (.lst ys1) = H13 at *
    replace mu12 : MutO (L9 :: ms) [(ap, none)] H_0 H13 L9 (D.lst (x_some.map (fun y_ : Int => (D.v (V.int y_))))) := mu12
    refine ⟨(by show 0 ≤ sizeLine; decide), ?_⟩
    intro L14 nl15
    have nm16 := nm_new hW nl15
    have mu17 := mo_newL (ds := ([] : List Int).map (fun y_ : Int => (D.v (V.int y_)))) (vs := []) hW nl15 repL_nil
    have ne18 := mo_ne nl15 mu12
    replace mu12 := mo_cell (o := .lst []) nl15 mu12
    replace h_some := rep_cell (o := .lst []) nl15 h_some
    replace hW := wd_cell (o := .lst []) hW nl15
    generalize upd H13 L14 (.lst []) = H19 at *
    replace mu17 : MutO (L14 :: (L9 :: ms)) [(ap, none)] H_0 H19 L14 (D.lst (([] : List Int).map (fun y_ : Int => (D.v (V.int y_))))) := mu17
    refine ⟨_, _, rfl, ?_⟩
    refine ⟨_, rfl, ?_⟩
    apply rep_lenL (e := (fun y_ : Int => (D.v (V.int y_)))) (xs := x_some) h_some
    refine ⟨_, rfl, ?_⟩
    refine for_rangeG (S := (List Int) × (List Int)) (lo := (0 : Int)) (hi := (x_some.length : Int)) (N := Int.toNat (x_some.length : Int)) (fun (s : (List Int) × (List Int)) σ_ h_ => ∃ (w_0 : Option V), σ_ = [some (V.ref ap), some v_some, some (V.ref L9), some (V.ref L14), w_0] ∧ Wd (L14 :: (L9 :: ms)) [(ap, none)] [] H_0 h_ ∧ Keep (L14 :: (L9 :: ms)) H19 h_ ∧ MutO (L14 :: (L9 :: ms)) [(ap, none)] H_0 h_ L9 (D.lst (s.1.map (fun y_ : Int => (D.v (V.int y_))))) ∧ MutO (L14 :: (L9 :: ms)) [(ap, none)] H_0 h_ L14 (D.lst (s.2.map (fun y_ : Int => (D.v (V.int y_)))))) (x_some, ([] : List Int)) (by simp) hM ⟨_, rfl, hW, Keep.refl, mu12, mu17⟩ ?_ ?_
    · skip
      clear mu12
      clear mu17
      rintro x20 s22 k23 _ H31 ⟨w28, rfl, hW, hk24, mu29, mu30⟩ hM Nx26 hN27
      replace h_some := rep_keep hk24 h_some
      refine ⟨_, rfl, ?_⟩
      refine ⟨mo_tyL mu30, ?_⟩
      refine ⟨_, rfl, ?_⟩
      refine ⟨mo_tyL mu29, ?_⟩
      refine ⟨_, rfl, ?_⟩
      refine ⟨_, rfl, ?_⟩
      apply mo_len (e := (fun y_ : Int => (D.v (V.int y_)))) (xs := s22.1) mu29
      refine ⟨(L14 :: (L9 :: ms)), ap, (s22.1.length : Int), _, rfl, hW.enterP, hM, fun r32 u35 H36 hM e34 h33 => ?_⟩
      replace h_some := rep_ret hW e34 h_some
      replace hk24 := keep_ret hW e34 hk24
      replace mu29 := mo_ret hW e34 mu29
      replace mu30 := mo_ret hW e34 mu30
      replace hW := hW.retP e34
      obtain rfl := of_v h33
      obtain ⟨g37, hM⟩ := hM
      obtain ⟨y42, hy43, hM⟩ := hM
      apply mo_popU (e := (fun y_ : Int => (D.v (V.int y_)))) (xs := s22.1) (y := y42) mu29 g37.1 hy43 g37.2
      intro vs38 u44 hr40 h45
      have mk46 := mo_setL mu29 (repL_erase (e := (fun y_ : Int => (D.v (V.int y_)))) (Int.toNat r32) hr40)
      replace mu30 := mo_put (o := .lst (vs38.eraseIdx (Int.toNat r32))) mu29.im (Ne.symm ne18) mu30
      replace h_some := rep_put (o := .lst (vs38.eraseIdx (Int.toNat r32))) mu29.im h_some
      replace hk24 := keep_put (o := .lst (vs38.eraseIdx (Int.toNat r32))) mu29.im hk24
      replace h45 := rep_put (o := .lst (vs38.eraseIdx (Int.toNat r32))) mu29.im h45
      replace hW := wd_put (o := .lst (vs38.eraseIdx (Int.toNat r32))) hW mu29
      replace mu29 := mk46
      generalize upd H36 L9 (.lst (vs38.eraseIdx (Int.toNat r32))) = H47 at *
      replace mu29 : MutO (L14 :: (L9 :: ms)) [(ap, none)] H_0 H47 L9 (D.lst ((s22.1.eraseIdx (Int.toNat r32)).map (fun y_ : Int => (D.v (V.int y_))))) := mu29
      clear mk46
      obtain rfl := of_v h45
      obtain ⟨g48, hM⟩ := hM
      apply mo_appU mu30 (by rw [List.length_map]; exact g48)
      intro vs49 hr51
      have mk53 := mo_setL mu30 (repL_snoc (e := (fun y_ : Int => (D.v (V.int y_)))) (xs := s22.2) (y := y42) hr51 rep_v)
      replace mu29 := mo_put (o := .lst (vs49 ++ [V.int y42])) mu30.im ne18 mu29
      replace h_some := rep_put (o := .lst (vs49 ++ [V.int y42])) mu30.im h_some
      replace hk24 := keep_put (o := .lst (vs49 ++ [V.int y42])) mu30.im hk24
      replace hW := wd_put (o := .lst (vs49 ++ [V.int y42])) hW mu30
      replace mu30 := mk53
      generalize upd H47 L14 (.lst (vs49 ++ [V.int y42])) = H54 at *
      replace mu30 : MutO (L14 :: (L9 :: ms)) [(ap, none)] H_0 H54 L14 (D.lst ((s22.2 ++ [y42]).map (fun y_ : Int => (D.v (V.int y_))))) := mu30
      clear mk53
      exact hN27 ((s22.1.eraseIdx (Int.toNat r32)), (s22.2 ++ [y42])) _ _ hM ⟨_, rfl, hW, hk24, mu29, mu30⟩
    · skip
      clear mu12
      clear mu17
      rintro s55 _ H60 hM ⟨w57, rfl, hW, hk56, mu58, mu59⟩
      replace h_some := rep_keep hk56 h_some
      have h61 := mo_rep_dr (dr_cons dr_here) (nm_cons ne18 nm11) mu58
      replace hW := wd_dr (dr_cons dr_here) mu58.hp hW
      replace h_some := rep_dr (dr_cons dr_here) h_some
      replace mu59 := mo_dr (dr_cons dr_here) (Ne.symm ne18) mu59
      replace nm16 := nm_dr dr_here nm16
      clear mu58
      have h62 := mo_rep_dr dr_here nm16 mu59
      replace hW := wd_dr dr_here mu59.hp hW
      replace h_some := rep_dr dr_here h_some
      replace h61 := rep_dr dr_here h61
      clear mu59
      refine ⟨_, rfl, ?_⟩
      exact hQ s55.2 _ _ hM hW.out h62
def M_day (x_many_here : Int) (KM : (List (Int × Int)) → Prop) : Prop :=
  (RgOk (0 : Int) x_many_here ∧ (M_mixed (rangeI (0 : Int) x_many_here) fun r8 => ((rangeI (0 : Int) (x_many_here / (2 : Int))).length < 100000 ∧ mapC (fun (x24 : Int) (k17 : (Int × Int) → Prop) => (0 ≤ ((2 : Int) * x24) ∧ ∃ g31 : Int.toNat ((2 : Int) * x24) < r8.length, ∀ x33, x33 = r8[Int.toNat ((2 : Int) * x24)]'g31 → (0 ≤ (((2 : Int) * x24) + (1 : Int)) ∧ ∃ g36 : Int.toNat (((2 : Int) * x24) + (1 : Int)) < r8.length, ∀ x38, x38 = r8[Int.toNat (((2 : Int) * x24) + (1 : Int))]'g36 → (k17 (x33, x38))))) (rangeI (0 : Int) (x_many_here / (2 : Int))) [] fun ys51 => (KM ys51))))
def sp_day (A : Ad) : Sp := fun vs H Q _ => ∃ (ms : List Addr) (ap : Addr) (x_many_here : Int) (KM : (List (Int × Int)) → Prop), vs = [.ref ap, V.int x_many_here] ∧ Wd ms [(ap, none)] [] H H ∧ M_day x_many_here KM ∧ ∀ (r : (List (Int × Int))) (u : V) (H1 : Hp), KM r → Ret [(ap, none)] H H1 → rep ms H1 (D.lst (r.map (fun y_ : (Int × Int) => (D.tup [(D.v (V.int y_.1)), (D.v (V.int y_.2))])))) u → Q u H1
set_option maxHeartbeats 16000000 in
theorem ok_day {P : Program} {w : World} {K : PySem.W.Frag} {mg : Str → Option Value} {base : Heap} {A : Ad} (T : Txt w K mg A) : FnOk P w K mg base CX0 3 A.a_day A.d_day ["_law_pot_here", "_law_many_here"] (sp_day A) := by
  refine T.F_day.ok sc_day (fun vs H Q E h => ?_) (fun cdv A_ outer s_ H_0 vs Q E hr h => ?_)
  · obtain ⟨ms, ap, x_many_here, KM, rfl, _⟩ := h
    rfl
  · obtain ⟨ms, ap, x_many_here, KM, rfl, hW, hM, hQ⟩ := h
    unfold M_day at hM
    refine ⟨_, (pss_cons (ps_set (i := 2) sc_day.nd rfl (by first | exact Or.inl rfl | exact Or.inr rfl) (pe_call (ok_mixed T) (hr.mono (by decide)) (by rfl) T.g_mixed T.F_mixed.kp T.b_mixed .nil pass0 (pa_cons (pv 0) (pa_cons (pe_listRg rfl (by rfl) T.z_list (prg_1 (by rfl) T.z_range (pv 1))) pa_nil)))) (pss_one (ps_ret (pe_lc (own := [("_law_k", 3)]) (g := gName 3) rfl sc_day.nd (pi_rangeW1 (by rfl) T.z_range (pa_cons (pe_op op_fdivW (pv 1) pe_int) pa_nil)) (blkOk_by (N := ["_law_pot_here", "_law_many_here", "_law_lot", "_law_k"]) (sc := defScope s_day) (by decide +kernel)) (fun _ _ _ _ _ => pg_name (i := 3) sc_day.nd rfl (by first | exact Or.inl rfl | exact Or.inr rfl)) (fun _ _ _ _ _ => pts_nil) (fun _ _ _ _ _ => (pe_tup (pa_cons (pe_ix (ix_listK (K := K) rfl) (pv 2) (pe_op op_mul pe_int (pv 3)) (fun _ _ => rfl)) (pa_cons (pe_ix (ix_listK (K := K) rfl) (pv 2) (pe_op op_add (pe_op op_mul pe_int (pv 3)) pe_int) (fun _ _ => rfl)) pa_nil)))))))), ?_⟩
    refine ⟨_, rfl, ?_⟩
    refine ⟨_, rfl, ?_⟩
    obtain ⟨g1, hM⟩ := hM
    refine ⟨_, rfl, g1, ?_⟩
    intro p2 n6
    have e3 := Rx.Ext.new (H := H_0) (o := (HO.lst (rgV (0 : Int) x_many_here))) n6
    have hp4 : upd H_0 p2 (HO.lst (rgV (0 : Int) x_many_here)) p2 = some (HO.lst (rgV (0 : Int) x_many_here)) := upd_same
    generalize upd H_0 p2 (HO.lst (rgV (0 : Int) x_many_here)) = H7 at e3 hp4 ⊢
    have h5 : rep ms H7 (D.lst ((rangeI (0 : Int) x_many_here).map (fun y_ : Int => (D.v (V.int y_))))) (.ref p2) := rep_rg_mk hW n6 e3 hp4
    replace hW := hW.ret0 e3
    refine ⟨ms, ap, _, (rangeI (0 : Int) x_many_here), _, rfl, hW.enterP, h5, hM, fun r8 u11 H12 hM e10 h9 => ?_⟩
    replace h5 := rep_ret hW e10 h5
    replace hW := hW.retP e10
    refine ⟨_, rfl, ?_⟩
    refine ⟨_, _, rfl, rfl, ⟨by decide, by decide⟩, ?_⟩
    refine ⟨_, rfl, ?_⟩
    refine fun L13 nl14 => ?_
    have nm28 := nm_new hW nl14
    refine lc_rangeG (L := L13) (fun n_ ys_ h_ => Wd (L13 :: ms) [(ap, none)] [] H_0 h_ ∧ Keep (L13 :: ms) H12 h_ ∧ MutO (L13 :: ms) [(ap, none)] H_0 h_ L13 (D.lst (ys_.map (fun y_ : (Int × Int) => (D.tup [(D.v (V.int y_.1)), (D.v (V.int y_.2))])))) ∧ ys_.length ≤ n_) (lo := (0 : Int)) (hi := (x_many_here / (2 : Int))) (N := Int.toNat (x_many_here / (2 : Int))) (by simp) hM ⟨wd_cell hW nl14, keep_cell nl14 Keep.refl, mo_newL (ds := []) hW nl14 repL_nil, Nat.le_refl _⟩ ?_ ?_
    · skip
      rintro x24  n15 ys16 k17 H29 hn ⟨hW, hk18, mu19, ln20⟩ hM Nx23 hN21
      replace h5 := rep_keep hk18 (rep_new nl14 h5)
      replace h9 := rep_keep hk18 (rep_new nl14 h9)
      refine ⟨rfl, ?_⟩
      refine tyes_of ?_
      refine ⟨_, rfl, ?_⟩
      refine ⟨_, rfl, ?_⟩
      refine ⟨_, _, rfl, rfl, .inl ⟨by decide, by decide⟩, ?_⟩
      obtain ⟨g30, g31, hM⟩ := hM
      apply rep_ixL (e := (fun y_ : Int => (D.v (V.int y_)))) (xs := r8) h9 g30 g31
      intro u34 h32
      obtain ⟨x33, x33e⟩ : ∃ x_, x_ = r8[Int.toNat ((2 : Int) * x24)]'g31 := ⟨_, rfl⟩
      rw [← x33e] at h32
      replace hM := hM x33 x33e
      obtain rfl := of_v h32
      refine ⟨_, rfl, ?_⟩
      refine ⟨_, rfl, ?_⟩
      refine ⟨_, _, rfl, rfl, .inl ⟨by decide, by decide⟩, ?_⟩
      refine ⟨_, _, rfl, rfl, ?_⟩
      obtain ⟨g35, g36, hM⟩ := hM
      apply rep_ixL (e := (fun y_ : Int => (D.v (V.int y_)))) (xs := r8) h9 g35 g36
      intro u39 h37
      obtain ⟨x38, x38e⟩ : ∃ x_, x_ = r8[Int.toNat (((2 : Int) * x24) + (1 : Int))]'g36 := ⟨_, rfl⟩
      rw [← x38e] at h37
      replace hM := hM x38 x38e
      obtain rfl := of_v h37
      refine ⟨(by show 2 ≤ sizeLine; decide), ?_⟩
      intro p40 n44
      have e41 := Rx.Ext.new (H := H29) (o := (HO.tup [V.int x33, V.int x38])) n44
      have hp42 : upd H29 p40 (HO.tup [V.int x33, V.int x38]) p40 = some (HO.tup [V.int x33, V.int x38]) := upd_same
      generalize upd H29 p40 (HO.tup [V.int x33, V.int x38]) = H45 at e41 hp42 ⊢
      have h43 : rep (L13 :: ms) H45 (D.tup [(D.v (V.int x33)), (D.v (V.int x38))]) (.ref p40) := rep_tup_mk hW n44 e41 hp42 (repL_cons rep_v (repL_cons rep_v repL_nil))
      replace h5 := rep_ext e41 h5
      replace h9 := rep_ext e41 h9
      replace hk18 := keep_ext e41 hk18
      replace mu19 := mo_ext e41 mu19
      replace hW := hW.ret0 e41
      refine mo_end mu19 hn (by rw [List.length_map]; exact ln20) fun vs46 hr47 => ?_
      have mk49 := mo_setL mu19 (repL_snoc (e := (fun y_ : (Int × Int) => (D.tup [(D.v (V.int y_.1)), (D.v (V.int y_.2))]))) (xs := ys16) (y := (x33, x38)) hr47 h43)
      replace h5 := rep_put (o := .lst (vs46 ++ [(V.ref p40)])) mu19.im h5
      replace h9 := rep_put (o := .lst (vs46 ++ [(V.ref p40)])) mu19.im h9
      replace hk18 := keep_put (o := .lst (vs46 ++ [(V.ref p40)])) mu19.im hk18
      replace h43 := rep_put (o := .lst (vs46 ++ [(V.ref p40)])) mu19.im h43
      replace hW := wd_put (o := .lst (vs46 ++ [(V.ref p40)])) hW mu19
      replace mu19 := mk49
      generalize upd H45 L13 (.lst (vs46 ++ [(V.ref p40)])) = H50 at *
      replace mu19 : MutO (L13 :: ms) [(ap, none)] H_0 H50 L13 (D.lst ((ys16 ++ [(x33, x38)]).map (fun y_ : (Int × Int) => (D.tup [(D.v (V.int y_.1)), (D.v (V.int y_.2))])))) := mu19
      clear mk49
      exact hN21 (x33, x38) _ hM ⟨hW, hk18, mu19, by rw [List.length_append]; exact Nat.add_le_add_right ln20 1⟩
    · skip
      rintro n15 ys51 H52 hM ⟨hW, hk18, mu19, ln20⟩
      replace h5 := rep_keep hk18 (rep_new nl14 h5)
      replace h9 := rep_keep hk18 (rep_new nl14 h9)
      clear hk18 ln20
      have h53 := mo_rep_dr dr_here nm28 mu19
      replace hW := wd_dr dr_here mu19.hp hW
      replace h5 := rep_dr dr_here h5
      replace h9 := rep_dr dr_here h9
      clear mu19
      exact hQ ys51 _ _ hM hW.out h53
def M_pick_plltii (x_some : (List (List (Int × Int)))) (KM : (List (Int × Int)) → Prop) : Prop :=
  (M_draw (x_some.length : Int) fun r1 => (0 ≤ r1 ∧ ∃ g7 : Int.toNat r1 < x_some.length, ∀ x9, x9 = x_some[Int.toNat r1]'g7 → (KM x9)))
def sp_pick_plltii (A : Ad) : Sp := fun vs H Q _ => ∃ (ms : List Addr) (ap : Addr) (v_some : V) (x_some : (List (List (Int × Int)))) (KM : (List (Int × Int)) → Prop), vs = [.ref ap, v_some] ∧ Wd ms [(ap, none)] [] H H ∧ rep ms H (D.lst (x_some.map (fun y_ : (List (Int × Int)) => (D.lst (y_.map (fun y_ : (Int × Int) => (D.tup [(D.v (V.int y_.1)), (D.v (V.int y_.2))]))))))) v_some ∧ M_pick_plltii x_some KM ∧ ∀ (r : (List (Int × Int))) (u : V) (H1 : Hp), KM r → Ret [(ap, none)] H H1 → rep ms H1 (D.lst (r.map (fun y_ : (Int × Int) => (D.tup [(D.v (V.int y_.1)), (D.v (V.int y_.2))])))) u → Q u H1
set_option maxHeartbeats 16000000 in
theorem ok_pick_plltii {P : Program} {w : World} {K : PySem.W.Frag} {mg : Str → Option Value} {base : Heap} {A : Ad} (T : Txt w K mg A) : FnOk P w K mg base CX0 2 A.a_pick A.d_pick ["_law_pot_here", "_law_some"] (sp_pick_plltii A) := by
  refine T.F_pick.ok sc_pick (fun vs H Q E h => ?_) (fun cdv A_ outer s_ H_0 vs Q E hr h => ?_)
  · obtain ⟨ms, ap, v_some, x_some, KM, rfl, _⟩ := h
    rfl
  · obtain ⟨ms, ap, v_some, x_some, KM, rfl, hW, h_some, hM, hQ⟩ := h
    unfold M_pick_plltii at hM
    refine ⟨_, (pss_one (ps_ret (pe_ix (ix_listK (K := K) rfl) (pv 1) (pe_call (ok_draw T) (hr.mono (by decide)) (by rfl) T.g_draw T.F_draw.kp T.b_draw .nil pass0 (pa_cons (pv 0) (pa_cons (pe_callB (call_lenK (K := K) rfl) (by rfl) T.z_len PySem.boot_len (pa_cons (pv 1) pa_nil)) pa_nil))) (fun _ _ => rfl)))), ?_⟩
    refine ⟨_, rfl, ?_⟩
    refine ⟨_, rfl, ?_⟩
    refine ⟨_, rfl, ?_⟩
    apply rep_lenL (e := (fun y_ : (List (Int × Int)) => (D.lst (y_.map (fun y_ : (Int × Int) => (D.tup [(D.v (V.int y_.1)), (D.v (V.int y_.2))])))))) (xs := x_some) h_some
    refine ⟨ms, ap, (x_some.length : Int), _, rfl, hW.enterP, hM, fun r1 u4 H5 hM e3 h2 => ?_⟩
    replace h_some := rep_ret hW e3 h_some
    replace hW := hW.retP e3
    obtain rfl := of_v h2
    obtain ⟨g6, g7, hM⟩ := hM
    apply rep_ixL (e := (fun y_ : (List (Int × Int)) => (D.lst (y_.map (fun y_ : (Int × Int) => (D.tup [(D.v (V.int y_.1)), (D.v (V.int y_.2))])))))) (xs := x_some) h_some g6 g7
    intro u10 h8
    obtain ⟨x9, x9e⟩ : ∃ x_, x_ = x_some[Int.toNat r1]'g7 := ⟨_, rfl⟩
    rw [← x9e] at h8
    replace hM := hM x9 x9e
    exact hQ x9 _ _ hM hW.out h8
def M_days (x_many_here : Int) (x_most : Int) (KM : (List (List (Int × Int))) → Prop) : Prop :=
  (M_day x_many_here fun r1 => (M_draw x_most fun r11 => (forC (fun (x16 : Int) (s18 : (List (List (Int × Int)))) (k19 : ((List (List (Int × Int)))) → Prop) => (M_draw (4 : Int) fun r29 => ((0 < s18.length) ∧ (M_pick_plltii s18 fun r35 => (if (decide (r29 < (2 : Int))) = true then (M_day x_many_here fun r40 => (s18.length < 16777216 ∧ (k19 ((s18 ++ [r40]))))) else (if (decide (V.int r29 = V.int (2 : Int))) = true then (r35.length < 100000 ∧ mapC (fun (x68 : (Int × Int)) (k61 : (Int × Int) → Prop) => (∃ KB87 : (Int × Int) → Prop, (M_draw (2 : Int) fun r90 => (if (decide (V.int r90 = V.int (0 : Int))) = true then (KB87 (x68.2, x68.1)) else (KB87 (x68.1, x68.2)))) ∧ ∀ r107 : (Int × Int), KB87 r107 → (k61 r107))) r35 [] fun ys117 => (s18.length < 16777216 ∧ (k19 ((s18 ++ [ys117]))))) else (s18.length < 16777216 ∧ (k19 ((s18 ++ [r35])))))))))) (rangeI (0 : Int) r11) (([r1] : List (List (Int × Int)))) fun s135 => (KM s135))))
def sp_days (A : Ad) : Sp := fun vs H Q _ => ∃ (ms : List Addr) (ap : Addr) (x_many_here : Int) (x_most : Int) (KM : (List (List (Int × Int))) → Prop), vs = [.ref ap, V.int x_many_here, V.int x_most] ∧ Wd ms [(ap, none)] [] H H ∧ M_days x_many_here x_most KM ∧ ∀ (r : (List (List (Int × Int)))) (u : V) (H1 : Hp), KM r → Ret [(ap, none)] H H1 → rep ms H1 (D.lst (r.map (fun y_ : (List (Int × Int)) => (D.lst (y_.map (fun y_ : (Int × Int) => (D.tup [(D.v (V.int y_.1)), (D.v (V.int y_.2))]))))))) u → Q u H1
set_option maxHeartbeats 16000000 in
theorem ok_days {P : Program} {w : World} {K : PySem.W.Frag} {mg : Str → Option Value} {base : Heap} {A : Ad} (T : Txt w K mg A) : FnOk P w K mg base CX0 4 A.a_days A.d_days ["_law_pot_here", "_law_many_here", "_law_most"] (sp_days A) := by
  refine T.F_days.ok sc_days (fun vs H Q E h => ?_) (fun cdv A_ outer s_ H_0 vs Q E hr h => ?_)
  · obtain ⟨ms, ap, x_many_here, x_most, KM, rfl, _⟩ := h
    rfl
  · obtain ⟨ms, ap, x_many_here, x_most, KM, rfl, hW, hM, hQ⟩ := h
    unfold M_days at hM
    refine ⟨_, (pss_cons (ps_set (i := 3) sc_days.nd rfl (by first | exact Or.inl rfl | exact Or.inr rfl) (pe_lst (pa_cons (pe_call (ok_day T) (hr.mono (by decide)) (by rfl) T.g_day T.F_day.kp T.b_day .nil pass0 (pa_cons (pv 0) (pa_cons (pv 1) pa_nil))) pa_nil))) (pss_cons (ps_for PassesOwn.never rfl (pi_rangeW1 (by rfl) T.z_range (pa_cons (pe_call (ok_draw T) (hr.mono (by decide)) (by rfl) T.g_draw T.F_draw.kp T.b_draw .nil pass0 (pa_cons (pv 0) (pa_cons (pv 2) pa_nil))) pa_nil)) (pg_name (i := 4) sc_days.nd rfl (by first | exact Or.inl rfl | exact Or.inr rfl)) (pss_cons (ps_par (i := 5) (j := 6) (by rfl) sc_days.nd rfl rfl (by decide) rfl rfl (pa_cons (pe_call (ok_draw T) (hr.mono (by decide)) (by rfl) T.g_draw T.F_draw.kp T.b_draw .nil pass0 (pa_cons (pv 0) (pa_cons pe_int pa_nil))) (pa_cons (pe_call (ok_pick_plltii T) (hr.mono (by decide)) (by rfl) T.g_pick T.F_pick.kp T.b_pick .nil pass0 (pa_cons (pv 0) (pa_cons (pv 3) pa_nil))) pa_nil)) (by rfl)) (pss_cons (ps_if (pt_cmpR op_lt (pv 5) pe_int (nomark _)) (pss_one (ps_set (i := 6) sc_days.nd rfl (by first | exact Or.inl rfl | exact Or.inr rfl) (pe_call (ok_day T) (hr.mono (by decide)) (by rfl) T.g_day T.F_day.kp T.b_day .nil pass0 (pa_cons (pv 0) (pa_cons (pv 1) pa_nil))))) (pss_one (ps_if (pt_cmpR op_eq (pv 5) pe_int (nomark _)) (pss_one (ps_setLc (i := 6) (own := [("_law_home", 7), ("_law_away", 8)]) (g := (gTup K 2 (gCons (gName 7) (gCons (gName 8) gNil)))) rfl sc_days.nd rfl rfl (sw_true rfl rfl rfl (by decide +kernel)) (pi_list (pv 6)) (blkOk_by (N := ["_law_pot_here", "_law_many_here", "_law_most", "_law_found", "_law_turn", "_law_way", "_law_near", "_law_home", "_law_away"]) (sc := defScope s_days) (by decide +kernel)) (fun _ _ _ _ _ => (pg_tup rfl (pgs_cons (pg_name (i := 7) sc_days.nd rfl (by first | exact Or.inl rfl | exact Or.inr rfl)) (pgs_cons (pg_name (i := 8) sc_days.nd rfl (by first | exact Or.inl rfl | exact Or.inr rfl)) pgs_nil)))) (fun _ _ _ _ _ => pts_nil) (fun _ _ _ _ _ => (pe_up (pe_ifExp (pt_cmpR op_eq (pe_call (ok_draw T) (hr.mono (by decide)) (by rfl) T.g_draw T.F_draw.kp T.b_draw .nil pass0 (pa_cons (pv 0) (pa_cons pe_int pa_nil))) pe_int (nomark _)) (pe_tup (pa_cons (pv 8) (pa_cons (pv 7) pa_nil))) (pe_tup (pa_cons (pv 7) (pa_cons (pv 8) pa_nil)))))))) pss_nil))) (pss_one (ps_expr (pe_bmK (K := K) rfl PySem.F.plainAttrs_list PySem.F.slot_list_append PySem.F.type_list_append mt_append (pv 3) (pa_cons (pv 6) pa_nil))))))) (pss_one (ps_ret (pv 3))))), ?_⟩
    refine ⟨_, rfl, ?_⟩
    refine ⟨_, rfl, ?_⟩
    refine ⟨ms, ap, x_many_here, _, rfl, hW.enterP, hM, fun r1 u4 H5 hM e3 h2 => ?_⟩
    replace hW := hW.retP e3
    refine ⟨(by show 1 ≤ sizeLine; decide), ?_⟩
    intro L6 nl7
    have nm8 := nm_new hW nl7
    have mu9 := mo_newL (ds := ([r1] : List (List (Int × Int))).map (fun y_ : (List (Int × Int)) => (D.lst (y_.map (fun y_ : (Int × Int) => (D.tup [(D.v (V.int y_.1)), (D.v (V.int y_.2))])))))) (vs := [u4]) hW nl7 (repL_cons h2 repL_nil)
    replace h2 := rep_cell (o := .lst [u4]) nl7 h2
    replace hW := wd_cell (o := .lst [u4]) hW nl7
    generalize upd H5 L6 (.lst [u4]) = H10 at *
    replace mu9 : MutO (L6 :: ms) [(ap, none)] H_0 H10 L6 (D.lst (([r1] : List (List (Int × Int))).map (fun y_ : (List (Int × Int)) => (D.lst (y_.map (fun y_ : (Int × Int) => (D.tup [(D.v (V.int y_.1)), (D.v (V.int y_.2))]))))))) := mu9
    refine ⟨_, rfl, ?_⟩
    refine ⟨_, rfl, ?_⟩
    refine ⟨(L6 :: ms), ap, x_most, _, rfl, hW.enterP, hM, fun r11 u14 H15 hM e13 h12 => ?_⟩
    replace h2 := rep_ret hW e13 h2
    replace mu9 := mo_ret hW e13 mu9
    replace hW := hW.retP e13
    obtain rfl := of_v h12
    refine ⟨_, rfl, ?_⟩
    refine for_rangeG (S := (List (List (Int × Int)))) (lo := (0 : Int)) (hi := r11) (N := Int.toNat r11) (fun (s : (List (List (Int × Int)))) σ_ h_ => ∃ (w_0 : Option V), ∃ (w_1 : Option V), ∃ (w_2 : Option V), σ_ = [some (V.ref ap), some (V.int x_many_here), some (V.int x_most), some (V.ref L6), w_0, w_1, w_2, none, none] ∧ Wd (L6 :: ms) [(ap, none)] [] H_0 h_ ∧ Keep (L6 :: ms) H15 h_ ∧ MutO (L6 :: ms) [(ap, none)] H_0 h_ L6 (D.lst (s.map (fun y_ : (List (Int × Int)) => (D.lst (y_.map (fun y_ : (Int × Int) => (D.tup [(D.v (V.int y_.1)), (D.v (V.int y_.2))])))))))) (([r1] : List (List (Int × Int)))) (by simp) hM ⟨_, _, _, rfl, hW, Keep.refl, mu9⟩ ?_ ?_
    · skip
      clear mu9
      rintro x16 s18 k19 _ H28 ⟨w24, w25, w26, rfl, hW, hk20, mu27⟩ hM Nx22 hN23
      replace h2 := rep_keep hk20 h2
      refine ⟨_, rfl, ?_⟩
      refine ⟨(L6 :: ms), ap, (4 : Int), _, rfl, hW.enterP, hM, fun r29 u32 H33 hM e31 h30 => ?_⟩
      replace h2 := rep_ret hW e31 h2
      replace hk20 := keep_ret hW e31 hk20
      replace mu27 := mo_ret hW e31 mu27
      replace hW := hW.retP e31
      obtain rfl := of_v h30
      refine ⟨_, rfl, ?_⟩
      refine ⟨_, rfl, ?_⟩
      obtain ⟨g34, hM⟩ := hM
      have hfz0 := mo_rep_dr dr_here nm8 mu27
      have hWz0 := wd_dr dr_here (mu27).hp hW
      refine ⟨ms, ap, _, s18, _, rfl, hWz0.enterP, hfz0, hM, fun r35 u38 H39 hM e37 h36 => ?_⟩
      clear hfz0 hWz0
      replace h2 := rep_ret hW e37 h2
      replace hk20 := keep_ret hW e37 hk20
      replace mu27 := mo_ret hW e37 mu27
      replace hW := hW.retP e37
      replace h36 := rep_liftA (es := List.map (fun y_ : (List (Int × Int)) => (D.lst (y_.map (fun y_ : (Int × Int) => (D.tup [(D.v (V.int y_.1)), (D.v (V.int y_.2))]))))) s18) dr_here mu27 _ _ (apIn_l (ap_ll g34 fun _ _ => ap_tl) fun _ => (apIn_t (apIns_cons apIn_v (apIns_cons apIn_v apIns_nil)))) h36
      refine ⟨_, _, rfl, ?_⟩
      refine ⟨_, rfl, ?_⟩
      refine ⟨_, _, rfl, rfl, ?_⟩
      refine ⟨_, rfl, ?_⟩
      refine ite3 hM (fun hM => ?_) (fun hM => ?_)
      · skip
        refine ⟨_, rfl, ?_⟩
        refine ⟨_, rfl, ?_⟩
        refine ⟨(L6 :: ms), ap, x_many_here, _, rfl, hW.enterP, hM, fun r40 u43 H44 hM e42 h41 => ?_⟩
        replace h2 := rep_ret hW e42 h2
        replace hk20 := keep_ret hW e42 hk20
        replace h36 := rep_ret hW e42 h36
        replace mu27 := mo_ret hW e42 mu27
        replace hW := hW.retP e42
        refine ⟨_, rfl, ?_⟩
        refine ⟨mo_tyL mu27, ?_⟩
        refine ⟨_, rfl, ?_⟩
        obtain ⟨g45, hM⟩ := hM
        apply mo_appU mu27 (by rw [List.length_map]; exact g45)
        intro vs46 hr48
        have mk50 := mo_setL mu27 (repL_snoc (e := (fun y_ : (List (Int × Int)) => (D.lst (y_.map (fun y_ : (Int × Int) => (D.tup [(D.v (V.int y_.1)), (D.v (V.int y_.2))])))))) (xs := s18) (y := r40) hr48 h41)
        replace h2 := rep_put (o := .lst (vs46 ++ [u43])) mu27.im h2
        replace hk20 := keep_put (o := .lst (vs46 ++ [u43])) mu27.im hk20
        replace h36 := rep_put (o := .lst (vs46 ++ [u43])) mu27.im h36
        replace h41 := rep_put (o := .lst (vs46 ++ [u43])) mu27.im h41
        replace hW := wd_put (o := .lst (vs46 ++ [u43])) hW mu27
        replace mu27 := mk50
        generalize upd H44 L6 (.lst (vs46 ++ [u43])) = H51 at *
        replace mu27 : MutO (L6 :: ms) [(ap, none)] H_0 H51 L6 (D.lst ((s18 ++ [r40]).map (fun y_ : (List (Int × Int)) => (D.lst (y_.map (fun y_ : (Int × Int) => (D.tup [(D.v (V.int y_.1)), (D.v (V.int y_.2))]))))))) := mu27
        clear mk50
        exact hN23 ((s18 ++ [r40])) _ _ hM ⟨_, _, _, rfl, hW, hk20, mu27⟩
      · skip
        refine ⟨_, rfl, ?_⟩
        refine ⟨rfl, ?_⟩
        refine ⟨_, rfl, ?_⟩
        refine ite3 hM (fun hM => ?_) (fun hM => ?_)
        · skip
          refine ⟨_, rfl, ?_⟩
          apply rep_iter h36
          intro a52 xs53 _ an54 hp55 hl56
          refine fun L57 nl58 => ?_
          have nm72 := nm_new hW nl58
          have kn73 := keep_none (w := hW) nl58 hk20
          have ne74 := mo_ne nl58 mu27
          refine lc_listG (L := L57) (fun n_ ys_ h_ => Wd (L57 :: (L6 :: ms)) [(ap, none)] [] H_0 h_ ∧ Keep (L57 :: (L6 :: ms)) H39 h_ ∧ MutO (L57 :: (L6 :: ms)) [(ap, none)] H_0 h_ L57 (D.lst (ys_.map (fun y_ : (Int × Int) => (D.tup [(D.v (V.int y_.1)), (D.v (V.int y_.2))])))) ∧ ys_.length ≤ n_ ∧ MutO (L57 :: (L6 :: ms)) [(ap, none)] H_0 h_ L6 (D.lst (s18.map (fun y_ : (List (Int × Int)) => (D.lst (y_.map (fun y_ : (Int × Int) => (D.tup [(D.v (V.int y_.1)), (D.v (V.int y_.2))])))))))) (items := r35) (e := (fun y_ : (Int × Int) => (D.tup [(D.v (V.int y_.1)), (D.v (V.int y_.2))]))) an54 hp55 hl56 nl58 (fun _ _ _ q_ => q_.2.1) hM ⟨wd_cell hW nl58, keep_cell nl58 Keep.refl, mo_newL (ds := []) hW nl58 repL_nil, Nat.le_refl _, mo_cell nl58 mu27⟩ ?_ ?_
          · skip
            clear mu27
            rintro x68 u69 n59 ys60 k61 H75 hn ⟨hW, hk62, mu63, ln64, mu76⟩ h70 hM Nx67 hN65
            replace h2 := rep_keep hk62 (rep_new nl58 h2)
            replace hk20 := Keep.trans (Keep.new hk20) hk62
            replace h36 := rep_keep hk62 (rep_new nl58 h36)
            apply rep_gtup h70 rfl
            intro vs77 hv78
            obtain ⟨u79, us80, rfl, h81, hv82⟩ := repL_uncons hv78
            obtain rfl := of_v h81
            obtain ⟨u83, us84, rfl, h85, hv86⟩ := repL_uncons hv82
            obtain rfl := of_v h85
            obtain rfl := repL_empty hv86
            refine ⟨_, _, rfl, ?_⟩
            refine ⟨_, _, rfl, ?_⟩
            refine ⟨rfl, ?_⟩
            refine ⟨rfl, ?_⟩
            refine tyes_of ?_
            obtain ⟨KB87, hM, hKKB87⟩ := hM
            refine ⟨fun v H1 => ∃ r : (Int × Int), KB87 r ∧ Wd (L57 :: (L6 :: ms)) [(ap, none)] [] H_0 H1 ∧ Keep (L57 :: (L6 :: ms)) H75 H1 ∧ rep (L57 :: (L6 :: ms)) H1 (D.tup [(D.v (V.int r.1)), (D.v (V.int r.2))]) v ∧ MutO (L57 :: (L6 :: ms)) [(ap, none)] H_0 H1 L6 (D.lst (s18.map (fun y_ : (List (Int × Int)) => (D.lst (y_.map (fun y_ : (Int × Int) => (D.tup [(D.v (V.int y_.1)), (D.v (V.int y_.2))]))))))) ∧ MutO (L57 :: (L6 :: ms)) [(ap, none)] H_0 H1 L57 (D.lst (ys60.map (fun y_ : (Int × Int) => (D.tup [(D.v (V.int y_.1)), (D.v (V.int y_.2))])))), ?_, ?_⟩
            · skip
              have hj89 := Keep.refl (ms := (L57 :: (L6 :: ms))) (H := H75)
              refine ⟨_, rfl, ?_⟩
              refine ⟨(L57 :: (L6 :: ms)), ap, (2 : Int), _, rfl, hW.enterP, hM, fun r90 u93 H94 hM e92 h91 => ?_⟩
              replace h2 := rep_ret hW e92 h2
              replace hk20 := keep_ret hW e92 hk20
              replace h36 := rep_ret hW e92 h36
              replace hk62 := keep_ret hW e92 hk62
              replace h70 := rep_ret hW e92 h70
              replace hj89 := keep_ret hW e92 hj89
              replace mu76 := mo_ret hW e92 mu76
              replace mu63 := mo_ret hW e92 mu63
              replace hW := hW.retP e92
              obtain rfl := of_v h91
              refine ⟨rfl, ?_⟩
              refine ⟨_, rfl, ?_⟩
              refine ite3 hM (fun hM => ?_) (fun hM => ?_)
              · skip
                refine ⟨_, rfl, ?_⟩
                refine ⟨_, rfl, ?_⟩
                refine ⟨(by show 2 ≤ sizeLine; decide), ?_⟩
                intro p95 n99
                have e96 := Rx.Ext.new (H := H94) (o := (HO.tup [V.int x68.2, V.int x68.1])) n99
                have hp97 : upd H94 p95 (HO.tup [V.int x68.2, V.int x68.1]) p95 = some (HO.tup [V.int x68.2, V.int x68.1]) := upd_same
                generalize upd H94 p95 (HO.tup [V.int x68.2, V.int x68.1]) = H100 at e96 hp97 ⊢
                have h98 : rep (L57 :: (L6 :: ms)) H100 (D.tup [(D.v (V.int x68.2)), (D.v (V.int x68.1))]) (.ref p95) := rep_tup_mk hW n99 e96 hp97 (repL_cons rep_v (repL_cons rep_v repL_nil))
                replace h2 := rep_ext e96 h2
                replace hk20 := keep_ext e96 hk20
                replace h36 := rep_ext e96 h36
                replace hk62 := keep_ext e96 hk62
                replace h70 := rep_ext e96 h70
                replace hj89 := keep_ext e96 hj89
                replace mu76 := mo_ext e96 mu76
                replace mu63 := mo_ext e96 mu63
                replace hW := hW.ret0 e96
                exact ⟨(x68.2, x68.1), hM, hW, hj89, h98, mu76, mu63⟩
              · skip
                refine ⟨_, rfl, ?_⟩
                refine ⟨_, rfl, ?_⟩
                refine ⟨(by show 2 ≤ sizeLine; decide), ?_⟩
                intro p101 n105
                have e102 := Rx.Ext.new (H := H94) (o := (HO.tup [V.int x68.1, V.int x68.2])) n105
                have hp103 : upd H94 p101 (HO.tup [V.int x68.1, V.int x68.2]) p101 = some (HO.tup [V.int x68.1, V.int x68.2]) := upd_same
                generalize upd H94 p101 (HO.tup [V.int x68.1, V.int x68.2]) = H106 at e102 hp103 ⊢
                have h104 : rep (L57 :: (L6 :: ms)) H106 (D.tup [(D.v (V.int x68.1)), (D.v (V.int x68.2))]) (.ref p101) := rep_tup_mk hW n105 e102 hp103 (repL_cons rep_v (repL_cons rep_v repL_nil))
                replace h2 := rep_ext e102 h2
                replace hk20 := keep_ext e102 hk20
                replace h36 := rep_ext e102 h36
                replace hk62 := keep_ext e102 hk62
                replace h70 := rep_ext e102 h70
                replace hj89 := keep_ext e102 hj89
                replace mu76 := mo_ext e102 mu76
                replace mu63 := mo_ext e102 mu63
                replace hW := hW.ret0 e102
                exact ⟨(x68.1, x68.2), hM, hW, hj89, h104, mu76, mu63⟩
            · skip
              clear mu76
              clear mu63
              rintro u109 Hj88 ⟨r107, hr, hW, hj89, h108, mu110, mu111⟩
              replace hM := hKKB87 r107 hr
              replace h2 := rep_keep hj89 h2
              replace hk20 := Keep.trans hk20 hj89
              replace h36 := rep_keep hj89 h36
              replace hk62 := Keep.trans hk62 hj89
              replace h70 := rep_keep hj89 h70
              refine mo_end mu111 hn (by rw [List.length_map]; exact ln64) fun vs112 hr113 => ?_
              have mk115 := mo_setL mu111 (repL_snoc (e := (fun y_ : (Int × Int) => (D.tup [(D.v (V.int y_.1)), (D.v (V.int y_.2))]))) (xs := ys60) (y := r107) hr113 h108)
              replace mu110 := mo_put (o := .lst (vs112 ++ [u109])) mu111.im ne74 mu110
              replace h2 := rep_put (o := .lst (vs112 ++ [u109])) mu111.im h2
              replace hk20 := keep_put (o := .lst (vs112 ++ [u109])) mu111.im hk20
              replace h36 := rep_put (o := .lst (vs112 ++ [u109])) mu111.im h36
              replace hk62 := keep_put (o := .lst (vs112 ++ [u109])) mu111.im hk62
              replace h70 := rep_put (o := .lst (vs112 ++ [u109])) mu111.im h70
              replace h108 := rep_put (o := .lst (vs112 ++ [u109])) mu111.im h108
              replace hW := wd_put (o := .lst (vs112 ++ [u109])) hW mu111
              replace mu111 := mk115
              generalize upd Hj88 L57 (.lst (vs112 ++ [u109])) = H116 at *
              replace mu111 : MutO (L57 :: (L6 :: ms)) [(ap, none)] H_0 H116 L57 (D.lst ((ys60 ++ [r107]).map (fun y_ : (Int × Int) => (D.tup [(D.v (V.int y_.1)), (D.v (V.int y_.2))])))) := mu111
              clear mk115
              exact hN65 r107 _ hM ⟨hW, hk62, mu111, by rw [List.length_append]; exact Nat.add_le_add_right ln64 1, mu110⟩
          · skip
            clear mu27
            rintro n59 ys117 H118 hM ⟨hW, hk62, mu63, ln64, mu119⟩
            replace h2 := rep_keep hk62 (rep_new nl58 h2)
            replace hk20 := Keep.trans (Keep.new hk20) hk62
            replace h36 := rep_keep hk62 (rep_new nl58 h36)
            clear hk62 ln64
            have h120 := mo_rep_dr dr_here nm72 mu63
            replace hW := wd_dr dr_here mu63.hp hW
            replace h2 := rep_dr dr_here h2
            replace hk20 := keep_dr dr_here kn73 hk20
            replace h36 := rep_dr dr_here h36
            replace mu119 := mo_dr dr_here ne74 mu119
            clear mu63
            refine ⟨_, rfl, ?_⟩
            refine ⟨mo_tyL mu119, ?_⟩
            refine ⟨_, rfl, ?_⟩
            obtain ⟨g121, hM⟩ := hM
            apply mo_appU mu119 (by rw [List.length_map]; exact g121)
            intro vs122 hr124
            have mk126 := mo_setL mu119 (repL_snoc (e := (fun y_ : (List (Int × Int)) => (D.lst (y_.map (fun y_ : (Int × Int) => (D.tup [(D.v (V.int y_.1)), (D.v (V.int y_.2))])))))) (xs := s18) (y := ys117) hr124 h120)
            replace h2 := rep_put (o := .lst (vs122 ++ [(V.ref L57)])) mu119.im h2
            replace hk20 := keep_put (o := .lst (vs122 ++ [(V.ref L57)])) mu119.im hk20
            replace h36 := rep_put (o := .lst (vs122 ++ [(V.ref L57)])) mu119.im h36
            replace h120 := rep_put (o := .lst (vs122 ++ [(V.ref L57)])) mu119.im h120
            replace hW := wd_put (o := .lst (vs122 ++ [(V.ref L57)])) hW mu119
            replace mu119 := mk126
            generalize upd H118 L6 (.lst (vs122 ++ [(V.ref L57)])) = H127 at *
            replace mu119 : MutO (L6 :: ms) [(ap, none)] H_0 H127 L6 (D.lst ((s18 ++ [ys117]).map (fun y_ : (List (Int × Int)) => (D.lst (y_.map (fun y_ : (Int × Int) => (D.tup [(D.v (V.int y_.1)), (D.v (V.int y_.2))]))))))) := mu119
            clear mk126
            exact hN23 ((s18 ++ [ys117])) _ _ hM ⟨_, _, _, rfl, hW, hk20, mu119⟩
        · skip
          refine ⟨_, rfl, ?_⟩
          refine ⟨mo_tyL mu27, ?_⟩
          refine ⟨_, rfl, ?_⟩
          obtain ⟨g128, hM⟩ := hM
          apply mo_appU mu27 (by rw [List.length_map]; exact g128)
          intro vs129 hr131
          have mk133 := mo_setL mu27 (repL_snoc (e := (fun y_ : (List (Int × Int)) => (D.lst (y_.map (fun y_ : (Int × Int) => (D.tup [(D.v (V.int y_.1)), (D.v (V.int y_.2))])))))) (xs := s18) (y := r35) hr131 h36)
          replace h2 := rep_put (o := .lst (vs129 ++ [u38])) mu27.im h2
          replace hk20 := keep_put (o := .lst (vs129 ++ [u38])) mu27.im hk20
          replace h36 := rep_put (o := .lst (vs129 ++ [u38])) mu27.im h36
          replace hW := wd_put (o := .lst (vs129 ++ [u38])) hW mu27
          replace mu27 := mk133
          generalize upd H39 L6 (.lst (vs129 ++ [u38])) = H134 at *
          replace mu27 : MutO (L6 :: ms) [(ap, none)] H_0 H134 L6 (D.lst ((s18 ++ [r35]).map (fun y_ : (List (Int × Int)) => (D.lst (y_.map (fun y_ : (Int × Int) => (D.tup [(D.v (V.int y_.1)), (D.v (V.int y_.2))]))))))) := mu27
          clear mk133
          exact hN23 ((s18 ++ [r35])) _ _ hM ⟨_, _, _, rfl, hW, hk20, mu27⟩
    · skip
      clear mu9
      rintro s135 _ H141 hM ⟨w137, w138, w139, rfl, hW, hk136, mu140⟩
      replace h2 := rep_keep hk136 h2
      have h142 := mo_rep_dr dr_here nm8 mu140
      replace hW := wd_dr dr_here mu140.hp hW
      replace h2 := rep_dr dr_here h2
      clear mu140
      refine ⟨_, rfl, ?_⟩
      exact hQ s135 _ _ hM hW.out h142
def M_mixed_pltii (x_some : (List (Int × Int))) (KM : (List (Int × Int)) → Prop) : Prop :=
  (forC (fun (x20 : Int) (s22 : (List (Int × Int)) × (List (Int × Int))) (k23 : ((List (Int × Int)) × (List (Int × Int))) → Prop) => (M_draw (s22.1.length : Int) fun r32 => ((0 ≤ r32 ∧ r32 < 2 ^ 63) ∧ ∃ y42, s22.1[Int.toNat r32]? = some y42 ∧ (s22.2.length < 16777216 ∧ (k23 ((s22.1.eraseIdx (Int.toNat r32)), (s22.2 ++ [y42]))))))) (rangeI (0 : Int) (x_some.length : Int)) (x_some, ([] : List (Int × Int))) fun s55 => (KM s55.2))
def sp_mixed_pltii (A : Ad) : Sp := fun vs H Q _ => ∃ (ms : List Addr) (ap : Addr) (v_some : V) (x_some : (List (Int × Int))) (KM : (List (Int × Int)) → Prop), vs = [.ref ap, v_some] ∧ Wd ms [(ap, none)] [] H H ∧ rep ms H (D.lst (x_some.map (fun y_ : (Int × Int) => (D.tup [(D.v (V.int y_.1)), (D.v (V.int y_.2))])))) v_some ∧ M_mixed_pltii x_some KM ∧ ∀ (r : (List (Int × Int))) (u : V) (H1 : Hp), KM r → Ret [(ap, none)] H H1 → rep ms H1 (D.lst (r.map (fun y_ : (Int × Int) => (D.tup [(D.v (V.int y_.1)), (D.v (V.int y_.2))])))) u → Q u H1
set_option maxHeartbeats 16000000 in
theorem ok_mixed_pltii {P : Program} {w : World} {K : PySem.W.Frag} {mg : Str → Option Value} {base : Heap} {A : Ad} (T : Txt w K mg A) : FnOk P w K mg base CX0 2 A.a_mixed A.d_mixed ["_law_pot_here", "_law_some"] (sp_mixed_pltii A) := by
  refine T.F_mixed.ok sc_mixed (fun vs H Q E h => ?_) (fun cdv A_ outer s_ H_0 vs Q E hr h => ?_)
  · obtain ⟨ms, ap, v_some, x_some, KM, rfl, _⟩ := h
    rfl
  · obtain ⟨ms, ap, v_some, x_some, KM, rfl, hW, h_some, hM, hQ⟩ := h
    unfold M_mixed_pltii at hM
    refine ⟨_, (pss_cons (ps_par (i := 2) (j := 3) (by rfl) sc_mixed.nd rfl rfl (by decide) rfl rfl (pa_cons (pe_callTy (call_list_ofK (K := K) rfl) (by rfl) T.z_list (by decide +kernel) (pa_cons (pv 1) pa_nil)) (pa_cons (pe_lst pa_nil) pa_nil)) (by rfl)) (pss_cons (ps_for PassesOwn.never rfl (pi_rangeW1 (by rfl) T.z_range (pa_cons (pe_callB (call_lenK (K := K) rfl) (by rfl) T.z_len PySem.boot_len (pa_cons (pv 1) pa_nil)) pa_nil)) (pg_name (i := 4) sc_mixed.nd rfl (by first | exact Or.inl rfl | exact Or.inr rfl)) (pss_one (ps_expr (pe_bmK (K := K) rfl PySem.F.plainAttrs_list PySem.F.slot_list_append PySem.F.type_list_append mt_append (pv 3) (pa_cons (pe_bmK (K := K) rfl PySem.F.plainAttrs_list PySem.F.slot_list_pop PySem.F.type_list_pop mt_popAt (pv 2) (pa_cons (pe_call (ok_draw T) (hr.mono (by decide)) (by rfl) T.g_draw T.F_draw.kp T.b_draw .nil pass0 (pa_cons (pv 0) (pa_cons (pe_callB (call_lenK (K := K) rfl) (by rfl) T.z_len PySem.boot_len (pa_cons (pv 2) pa_nil)) pa_nil))) pa_nil)) pa_nil))))) (pss_one (ps_ret (pv 3))))), ?_⟩
    refine ⟨_, rfl, ?_⟩
    apply rep_listL h_some
    intro ys1 hr2
    intro L9 nl10
    have nm11 := nm_new hW nl10
    have mu12 := mo_newL (ds := x_some.map (fun y_ : (Int × Int) => (D.tup [(D.v (V.int y_.1)), (D.v (V.int y_.2))]))) (vs := ys1) hW nl10 hr2
    replace h_some := rep_cell (o := .lst ys1) nl10 h_some
    replace hW := wd_cell (o := .lst ys1) hW nl10
    generalize upd H_0 L9 (.lst ys1) = H13 at *
    replace mu12 : MutO (L9 :: ms) [(ap, none)] H_0 H13 L9 (D.lst (x_some.map (fun y_ : (Int × Int) => (D.tup [(D.v (V.int y_.1)), (D.v (V.int y_.2))])))) := mu12
    refine ⟨(by show 0 ≤ sizeLine; decide), ?_⟩
    intro L14 nl15
    have nm16 := nm_new hW nl15
    have mu17 := mo_newL (ds := ([] : List (Int × Int)).map (fun y_ : (Int × Int) => (D.tup [(D.v (V.int y_.1)), (D.v (V.int y_.2))]))) (vs := []) hW nl15 repL_nil
    have ne18 := mo_ne nl15 mu12
    replace mu12 := mo_cell (o := .lst []) nl15 mu12
    replace h_some := rep_cell (o := .lst []) nl15 h_some
    replace hW := wd_cell (o := .lst []) hW nl15
    generalize upd H13 L14 (.lst []) = H19 at *
    replace mu17 : MutO (L14 :: (L9 :: ms)) [(ap, none)] H_0 H19 L14 (D.lst (([] : List (Int × Int)).map (fun y_ : (Int × Int) => (D.tup [(D.v (V.int y_.1)), (D.v (V.int y_.2))])))) := mu17
    refine ⟨_, _, rfl, ?_⟩
    refine ⟨_, rfl, ?_⟩
    apply rep_lenL (e := (fun y_ : (Int × Int) => (D.tup [(D.v (V.int y_.1)), (D.v (V.int y_.2))]))) (xs := x_some) h_some
    refine ⟨_, rfl, ?_⟩
    refine for_rangeG (S := (List (Int × Int)) × (List (Int × Int))) (lo := (0 : Int)) (hi := (x_some.length : Int)) (N := Int.toNat (x_some.length : Int)) (fun (s : (List (Int × Int)) × (List (Int × Int))) σ_ h_ => ∃ (w_0 : Option V), σ_ = [some (V.ref ap), some v_some, some (V.ref L9), some (V.ref L14), w_0] ∧ Wd (L14 :: (L9 :: ms)) [(ap, none)] [] H_0 h_ ∧ Keep (L14 :: (L9 :: ms)) H19 h_ ∧ MutO (L14 :: (L9 :: ms)) [(ap, none)] H_0 h_ L9 (D.lst (s.1.map (fun y_ : (Int × Int) => (D.tup [(D.v (V.int y_.1)), (D.v (V.int y_.2))])))) ∧ MutO (L14 :: (L9 :: ms)) [(ap, none)] H_0 h_ L14 (D.lst (s.2.map (fun y_ : (Int × Int) => (D.tup [(D.v (V.int y_.1)), (D.v (V.int y_.2))]))))) (x_some, ([] : List (Int × Int))) (by simp) hM ⟨_, rfl, hW, Keep.refl, mu12, mu17⟩ ?_ ?_
    · skip
      clear mu12
      clear mu17
      rintro x20 s22 k23 _ H31 ⟨w28, rfl, hW, hk24, mu29, mu30⟩ hM Nx26 hN27
      replace h_some := rep_keep hk24 h_some
      refine ⟨_, rfl, ?_⟩
      refine ⟨mo_tyL mu30, ?_⟩
      refine ⟨_, rfl, ?_⟩
      refine ⟨mo_tyL mu29, ?_⟩
      refine ⟨_, rfl, ?_⟩
      refine ⟨_, rfl, ?_⟩
      apply mo_len (e := (fun y_ : (Int × Int) => (D.tup [(D.v (V.int y_.1)), (D.v (V.int y_.2))]))) (xs := s22.1) mu29
      refine ⟨(L14 :: (L9 :: ms)), ap, (s22.1.length : Int), _, rfl, hW.enterP, hM, fun r32 u35 H36 hM e34 h33 => ?_⟩
      replace h_some := rep_ret hW e34 h_some
      replace hk24 := keep_ret hW e34 hk24
      replace mu29 := mo_ret hW e34 mu29
      replace mu30 := mo_ret hW e34 mu30
      replace hW := hW.retP e34
      obtain rfl := of_v h33
      obtain ⟨g37, hM⟩ := hM
      obtain ⟨y42, hy43, hM⟩ := hM
      apply mo_popU (e := (fun y_ : (Int × Int) => (D.tup [(D.v (V.int y_.1)), (D.v (V.int y_.2))]))) (xs := s22.1) (y := y42) mu29 g37.1 hy43 g37.2
      intro vs38 u44 hr40 h45
      have mk46 := mo_setL mu29 (repL_erase (e := (fun y_ : (Int × Int) => (D.tup [(D.v (V.int y_.1)), (D.v (V.int y_.2))]))) (Int.toNat r32) hr40)
      replace mu30 := mo_put (o := .lst (vs38.eraseIdx (Int.toNat r32))) mu29.im (Ne.symm ne18) mu30
      replace h_some := rep_put (o := .lst (vs38.eraseIdx (Int.toNat r32))) mu29.im h_some
      replace hk24 := keep_put (o := .lst (vs38.eraseIdx (Int.toNat r32))) mu29.im hk24
      replace h45 := rep_put (o := .lst (vs38.eraseIdx (Int.toNat r32))) mu29.im h45
      replace hW := wd_put (o := .lst (vs38.eraseIdx (Int.toNat r32))) hW mu29
      replace mu29 := mk46
      generalize upd H36 L9 (.lst (vs38.eraseIdx (Int.toNat r32))) = H47 at *
      replace mu29 : MutO (L14 :: (L9 :: ms)) [(ap, none)] H_0 H47 L9 (D.lst ((s22.1.eraseIdx (Int.toNat r32)).map (fun y_ : (Int × Int) => (D.tup [(D.v (V.int y_.1)), (D.v (V.int y_.2))])))) := mu29
      clear mk46
      obtain ⟨g48, hM⟩ := hM
      apply mo_appU mu30 (by rw [List.length_map]; exact g48)
      intro vs49 hr51
      have mk53 := mo_setL mu30 (repL_snoc (e := (fun y_ : (Int × Int) => (D.tup [(D.v (V.int y_.1)), (D.v (V.int y_.2))]))) (xs := s22.2) (y := y42) hr51 h45)
      replace mu29 := mo_put (o := .lst (vs49 ++ [u44])) mu30.im ne18 mu29
      replace h_some := rep_put (o := .lst (vs49 ++ [u44])) mu30.im h_some
      replace hk24 := keep_put (o := .lst (vs49 ++ [u44])) mu30.im hk24
      replace h45 := rep_put (o := .lst (vs49 ++ [u44])) mu30.im h45
      replace hW := wd_put (o := .lst (vs49 ++ [u44])) hW mu30
      replace mu30 := mk53
      generalize upd H47 L14 (.lst (vs49 ++ [u44])) = H54 at *
      replace mu30 : MutO (L14 :: (L9 :: ms)) [(ap, none)] H_0 H54 L14 (D.lst ((s22.2 ++ [y42]).map (fun y_ : (Int × Int) => (D.tup [(D.v (V.int y_.1)), (D.v (V.int y_.2))])))) := mu30
      clear mk53
      exact hN27 ((s22.1.eraseIdx (Int.toNat r32)), (s22.2 ++ [y42])) _ _ hM ⟨_, rfl, hW, hk24, mu29, mu30⟩
    · skip
      clear mu12
      clear mu17
      rintro s55 _ H60 hM ⟨w57, rfl, hW, hk56, mu58, mu59⟩
      replace h_some := rep_keep hk56 h_some
      have h61 := mo_rep_dr (dr_cons dr_here) (nm_cons ne18 nm11) mu58
      replace hW := wd_dr (dr_cons dr_here) mu58.hp hW
      replace h_some := rep_dr (dr_cons dr_here) h_some
      replace mu59 := mo_dr (dr_cons dr_here) (Ne.symm ne18) mu59
      replace nm16 := nm_dr dr_here nm16
      clear mu58
      have h62 := mo_rep_dr dr_here nm16 mu59
      replace hW := wd_dr dr_here mu59.hp hW
      replace h_some := rep_dr dr_here h_some
      replace h61 := rep_dr dr_here h61
      clear mu59
      refine ⟨_, rfl, ?_⟩
      exact hQ s55.2 _ _ hM hW.out h62
def sp_mixed_pltiiB (A : Ad) : Sp := fun vs H Q _ => ∃ (ms : List Addr) (ap : Addr) (v_some : V) (x_some : (List (Int × Int))) (KM : (List (Int × Int)) → Prop), vs = [.ref ap, v_some] ∧ Wd ms [(ap, none)] [] H H ∧ rep ms H (D.lst (x_some.map (fun y_ : (Int × Int) => (D.tup [(D.v (V.int y_.1)), (D.v (V.int y_.2))])))) v_some ∧ M_mixed_pltii x_some KM ∧ ∀ (r : (List (Int × Int))) (u : V) (H1 : Hp), KM r → Ret [(ap, none)] H H1 → rep ms H1 (D.lst (r.map (fun y_ : (Int × Int) => (D.tup [(D.v (V.int y_.1)), (D.v (V.int y_.2))])))) u → (∀ p_, u = .ref p_ → H p_ = none) → Q u H1
set_option maxHeartbeats 16000000 in
theorem ok_mixed_pltiiB {P : Program} {w : World} {K : PySem.W.Frag} {mg : Str → Option Value} {base : Heap} {A : Ad} (T : Txt w K mg A) : FnOk P w K mg base CX0 2 A.a_mixed A.d_mixed ["_law_pot_here", "_law_some"] (sp_mixed_pltiiB A) := by
  refine T.F_mixed.ok sc_mixed (fun vs H Q E h => ?_) (fun cdv A_ outer s_ H_0 vs Q E hr h => ?_)
  · obtain ⟨ms, ap, v_some, x_some, KM, rfl, _⟩ := h
    rfl
  · obtain ⟨ms, ap, v_some, x_some, KM, rfl, hW, h_some, hM, hQ⟩ := h
    unfold M_mixed_pltii at hM
    refine ⟨_, (pss_cons (ps_par (i := 2) (j := 3) (by rfl) sc_mixed.nd rfl rfl (by decide) rfl rfl (pa_cons (pe_callTy (call_list_ofK (K := K) rfl) (by rfl) T.z_list (by decide +kernel) (pa_cons (pv 1) pa_nil)) (pa_cons (pe_lst pa_nil) pa_nil)) (by rfl)) (pss_cons (ps_for PassesOwn.never rfl (pi_rangeW1 (by rfl) T.z_range (pa_cons (pe_callB (call_lenK (K := K) rfl) (by rfl) T.z_len PySem.boot_len (pa_cons (pv 1) pa_nil)) pa_nil)) (pg_name (i := 4) sc_mixed.nd rfl (by first | exact Or.inl rfl | exact Or.inr rfl)) (pss_one (ps_expr (pe_bmK (K := K) rfl PySem.F.plainAttrs_list PySem.F.slot_list_append PySem.F.type_list_append mt_append (pv 3) (pa_cons (pe_bmK (K := K) rfl PySem.F.plainAttrs_list PySem.F.slot_list_pop PySem.F.type_list_pop mt_popAt (pv 2) (pa_cons (pe_call (ok_draw T) (hr.mono (by decide)) (by rfl) T.g_draw T.F_draw.kp T.b_draw .nil pass0 (pa_cons (pv 0) (pa_cons (pe_callB (call_lenK (K := K) rfl) (by rfl) T.z_len PySem.boot_len (pa_cons (pv 2) pa_nil)) pa_nil))) pa_nil)) pa_nil))))) (pss_one (ps_ret (pv 3))))), ?_⟩
    refine ⟨_, rfl, ?_⟩
    apply rep_listL h_some
    intro ys1 hr2
    intro L9 nl10
    have nm11 := nm_new hW nl10
    have mu12 := mo_newL (ds := x_some.map (fun y_ : (Int × Int) => (D.tup [(D.v (V.int y_.1)), (D.v (V.int y_.2))]))) (vs := ys1) hW nl10 hr2
    replace h_some := rep_cell (o := .lst ys1) nl10 h_some
    replace hW := wd_cell (o := .lst ys1) hW nl10
    generalize upd H_0 L9 (.lst ys1) = H13 at *
    replace mu12 : MutO (L9 :: ms) [(ap, none)] H_0 H13 L9 (D.lst (x_some.map (fun y_ : (Int × Int) => (D.tup [(D.v (V.int y_.1)), (D.v (V.int y_.2))])))) := mu12
    refine ⟨(by show 0 ≤ sizeLine; decide), ?_⟩
    intro L14 nl15
    have nm16 := nm_new hW nl15
    have mu17 := mo_newL (ds := ([] : List (Int × Int)).map (fun y_ : (Int × Int) => (D.tup [(D.v (V.int y_.1)), (D.v (V.int y_.2))]))) (vs := []) hW nl15 repL_nil
    have ne18 := mo_ne nl15 mu12
    replace mu12 := mo_cell (o := .lst []) nl15 mu12
    replace h_some := rep_cell (o := .lst []) nl15 h_some
    replace hW := wd_cell (o := .lst []) hW nl15
    generalize upd H13 L14 (.lst []) = H19 at *
    replace mu17 : MutO (L14 :: (L9 :: ms)) [(ap, none)] H_0 H19 L14 (D.lst (([] : List (Int × Int)).map (fun y_ : (Int × Int) => (D.tup [(D.v (V.int y_.1)), (D.v (V.int y_.2))])))) := mu17
    refine ⟨_, _, rfl, ?_⟩
    refine ⟨_, rfl, ?_⟩
    apply rep_lenL (e := (fun y_ : (Int × Int) => (D.tup [(D.v (V.int y_.1)), (D.v (V.int y_.2))]))) (xs := x_some) h_some
    refine ⟨_, rfl, ?_⟩
    refine for_rangeG (S := (List (Int × Int)) × (List (Int × Int))) (lo := (0 : Int)) (hi := (x_some.length : Int)) (N := Int.toNat (x_some.length : Int)) (fun (s : (List (Int × Int)) × (List (Int × Int))) σ_ h_ => ∃ (w_0 : Option V), σ_ = [some (V.ref ap), some v_some, some (V.ref L9), some (V.ref L14), w_0] ∧ Wd (L14 :: (L9 :: ms)) [(ap, none)] [] H_0 h_ ∧ Keep (L14 :: (L9 :: ms)) H19 h_ ∧ MutO (L14 :: (L9 :: ms)) [(ap, none)] H_0 h_ L9 (D.lst (s.1.map (fun y_ : (Int × Int) => (D.tup [(D.v (V.int y_.1)), (D.v (V.int y_.2))])))) ∧ MutO (L14 :: (L9 :: ms)) [(ap, none)] H_0 h_ L14 (D.lst (s.2.map (fun y_ : (Int × Int) => (D.tup [(D.v (V.int y_.1)), (D.v (V.int y_.2))]))))) (x_some, ([] : List (Int × Int))) (by simp) hM ⟨_, rfl, hW, Keep.refl, mu12, mu17⟩ ?_ ?_
    · skip
      clear mu12
      clear mu17
      rintro x20 s22 k23 _ H31 ⟨w28, rfl, hW, hk24, mu29, mu30⟩ hM Nx26 hN27
      replace h_some := rep_keep hk24 h_some
      refine ⟨_, rfl, ?_⟩
      refine ⟨mo_tyL mu30, ?_⟩
      refine ⟨_, rfl, ?_⟩
      refine ⟨mo_tyL mu29, ?_⟩
      refine ⟨_, rfl, ?_⟩
      refine ⟨_, rfl, ?_⟩
      apply mo_len (e := (fun y_ : (Int × Int) => (D.tup [(D.v (V.int y_.1)), (D.v (V.int y_.2))]))) (xs := s22.1) mu29
      refine ⟨(L14 :: (L9 :: ms)), ap, (s22.1.length : Int), _, rfl, hW.enterP, hM, fun r32 u35 H36 hM e34 h33 => ?_⟩
      replace h_some := rep_ret hW e34 h_some
      replace hk24 := keep_ret hW e34 hk24
      replace mu29 := mo_ret hW e34 mu29
      replace mu30 := mo_ret hW e34 mu30
      replace hW := hW.retP e34
      obtain rfl := of_v h33
      obtain ⟨g37, hM⟩ := hM
      obtain ⟨y42, hy43, hM⟩ := hM
      apply mo_popU (e := (fun y_ : (Int × Int) => (D.tup [(D.v (V.int y_.1)), (D.v (V.int y_.2))]))) (xs := s22.1) (y := y42) mu29 g37.1 hy43 g37.2
      intro vs38 u44 hr40 h45
      have mk46 := mo_setL mu29 (repL_erase (e := (fun y_ : (Int × Int) => (D.tup [(D.v (V.int y_.1)), (D.v (V.int y_.2))]))) (Int.toNat r32) hr40)
      replace mu30 := mo_put (o := .lst (vs38.eraseIdx (Int.toNat r32))) mu29.im (Ne.symm ne18) mu30
      replace h_some := rep_put (o := .lst (vs38.eraseIdx (Int.toNat r32))) mu29.im h_some
      replace hk24 := keep_put (o := .lst (vs38.eraseIdx (Int.toNat r32))) mu29.im hk24
      replace h45 := rep_put (o := .lst (vs38.eraseIdx (Int.toNat r32))) mu29.im h45
      replace hW := wd_put (o := .lst (vs38.eraseIdx (Int.toNat r32))) hW mu29
      replace mu29 := mk46
      generalize upd H36 L9 (.lst (vs38.eraseIdx (Int.toNat r32))) = H47 at *
      replace mu29 : MutO (L14 :: (L9 :: ms)) [(ap, none)] H_0 H47 L9 (D.lst ((s22.1.eraseIdx (Int.toNat r32)).map (fun y_ : (Int × Int) => (D.tup [(D.v (V.int y_.1)), (D.v (V.int y_.2))])))) := mu29
      clear mk46
      obtain ⟨g48, hM⟩ := hM
      apply mo_appU mu30 (by rw [List.length_map]; exact g48)
      intro vs49 hr51
      have mk53 := mo_setL mu30 (repL_snoc (e := (fun y_ : (Int × Int) => (D.tup [(D.v (V.int y_.1)), (D.v (V.int y_.2))]))) (xs := s22.2) (y := y42) hr51 h45)
      replace mu29 := mo_put (o := .lst (vs49 ++ [u44])) mu30.im ne18 mu29
      replace h_some := rep_put (o := .lst (vs49 ++ [u44])) mu30.im h_some
      replace hk24 := keep_put (o := .lst (vs49 ++ [u44])) mu30.im hk24
      replace h45 := rep_put (o := .lst (vs49 ++ [u44])) mu30.im h45
      replace hW := wd_put (o := .lst (vs49 ++ [u44])) hW mu30
      replace mu30 := mk53
      generalize upd H47 L14 (.lst (vs49 ++ [u44])) = H54 at *
      replace mu30 : MutO (L14 :: (L9 :: ms)) [(ap, none)] H_0 H54 L14 (D.lst ((s22.2 ++ [y42]).map (fun y_ : (Int × Int) => (D.tup [(D.v (V.int y_.1)), (D.v (V.int y_.2))])))) := mu30
      clear mk53
      exact hN27 ((s22.1.eraseIdx (Int.toNat r32)), (s22.2 ++ [y42])) _ _ hM ⟨_, rfl, hW, hk24, mu29, mu30⟩
    · skip
      clear mu12
      clear mu17
      rintro s55 _ H60 hM ⟨w57, rfl, hW, hk56, mu58, mu59⟩
      replace h_some := rep_keep hk56 h_some
      have h61 := mo_rep_dr (dr_cons dr_here) (nm_cons ne18 nm11) mu58
      replace hW := wd_dr (dr_cons dr_here) mu58.hp hW
      replace h_some := rep_dr (dr_cons dr_here) h_some
      replace mu59 := mo_dr (dr_cons dr_here) (Ne.symm ne18) mu59
      replace nm16 := nm_dr dr_here nm16
      clear mu58
      have h62 := mo_rep_dr dr_here nm16 mu59
      replace hW := wd_dr dr_here mu59.hp hW
      replace h_some := rep_dr dr_here h_some
      replace h61 := rep_dr dr_here h61
      have z0 := mu59.h0
      clear mu59
      refine ⟨_, rfl, ?_⟩
      exact hQ s55.2 _ _ hM hW.out h62 (fun p_ e_ => by cases e_; exact z0)
def M_passed (x_days_here : (List (List (Int × Int)))) (KM : (Bool × List (Bool × List (Int × Int))) → Prop) : Prop :=
  (forC (fun (x11 : (List (Int × Int))) (s13 : (List (Bool × List (Int × Int)))) (k14 : ((List (Bool × List (Int × Int)))) → Prop) => (M_mixed_pltii x11 fun r23 => (∃ KB28 : (Bool × List (Int × Int)) → Prop, (M_draw (2 : Int) fun r31 => (if (decide (V.int r31 = V.int (0 : Int))) = true then (KB28 ((true, r23) : (Bool × List (Int × Int)))) else (KB28 ((false, r23) : (Bool × List (Int × Int)))))) ∧ ∀ r44 : (Bool × List (Int × Int)), KB28 r44 → (s13.length < 16777216 ∧ (k14 ((s13 ++ [r44]))))))) x_days_here (([] : List (Bool × List (Int × Int)))) fun s55 => (∃ KB62 : (Bool × List (Bool × List (Int × Int))) → Prop, (M_draw (3 : Int) fun r65 => (if (decide (V.int r65 = V.int (0 : Int))) = true then (KB62 ((true, s55) : (Bool × List (Bool × List (Int × Int))))) else (KB62 ((false, s55) : (Bool × List (Bool × List (Int × Int))))))) ∧ ∀ r78 : (Bool × List (Bool × List (Int × Int))), KB62 r78 → (KM r78)))
def sp_passed (A : Ad) : Sp := fun vs H Q _ => ∃ (ms : List Addr) (ap : Addr) (v_days_here : V) (x_days_here : (List (List (Int × Int)))) (KM : (Bool × List (Bool × List (Int × Int))) → Prop), vs = [.ref ap, v_days_here] ∧ Wd ms [(ap, none)] [] H H ∧ rep ms H (D.lst (x_days_here.map (fun y_ : (List (Int × Int)) => (D.lst (y_.map (fun y_ : (Int × Int) => (D.tup [(D.v (V.int y_.1)), (D.v (V.int y_.2))]))))))) v_days_here ∧ M_passed x_days_here KM ∧ ∀ (r : (Bool × List (Bool × List (Int × Int)))) (u : V) (H1 : Hp), KM r → Ret [(ap, none)] H H1 → rep ms H1 (eSq (fun y_ : (Bool × List (Int × Int)) => (eSq (fun y_ : (Int × Int) => (D.tup [(D.v (V.int y_.1)), (D.v (V.int y_.2))])) y_)) r) u → Q u H1
set_option maxHeartbeats 16000000 in
theorem ok_passed {P : Program} {w : World} {K : PySem.W.Frag} {mg : Str → Option Value} {base : Heap} {A : Ad} (T : Txt w K mg A) : FnOk P w K mg base CX0 3 A.a_passed A.d_passed ["_law_pot_here", "_law_days_here"] (sp_passed A) := by
  refine T.F_passed.ok sc_passed (fun vs H Q E h => ?_) (fun cdv A_ outer s_ H_0 vs Q E hr h => ?_)
  · obtain ⟨ms, ap, v_days_here, x_days_here, KM, rfl, _⟩ := h
    rfl
  · obtain ⟨ms, ap, v_days_here, x_days_here, KM, rfl, hW, h_days_here, hM, hQ⟩ := h
    unfold M_passed at hM
    refine ⟨_, (pss_cons (ps_set (i := 2) sc_passed.nd rfl (by first | exact Or.inl rfl | exact Or.inr rfl) (pe_lst pa_nil)) (pss_cons (ps_for PassesOwn.never rfl (pi_list (pv 1)) (pg_name (i := 3) sc_passed.nd rfl (by first | exact Or.inl rfl | exact Or.inr rfl)) (pss_cons (ps_set (i := 4) sc_passed.nd rfl (by first | exact Or.inl rfl | exact Or.inr rfl) (pe_call (ok_mixed_pltii T) (hr.mono (by decide)) (by rfl) T.g_mixed T.F_mixed.kp T.b_mixed .nil pass0 (pa_cons (pv 0) (pa_cons (pv 3) pa_nil)))) (pss_one (ps_expr (pe_bmK (K := K) rfl PySem.F.plainAttrs_list PySem.F.slot_list_append PySem.F.type_list_append mt_append (pv 2) (pa_cons (pe_up (pe_ifExp (pt_cmpR op_eq (pe_call (ok_draw T) (hr.mono (by decide)) (by rfl) T.g_draw T.F_draw.kp T.b_draw .nil pass0 (pa_cons (pv 0) (pa_cons pe_int pa_nil))) pe_int (nomark _)) (pe_callTy (call_tuple_ofK (K := K) rfl) (by rfl) T.z_tuple (by decide +kernel) (pa_cons (pv 4) pa_nil)) (pv 4))) pa_nil)))))) (pss_one (ps_ret (pe_up (pe_ifExp (pt_cmpR op_eq (pe_call (ok_draw T) (hr.mono (by decide)) (by rfl) T.g_draw T.F_draw.kp T.b_draw .nil pass0 (pa_cons (pv 0) (pa_cons pe_int pa_nil))) pe_int (nomark _)) (pe_callTy (call_tuple_ofK (K := K) rfl) (by rfl) T.z_tuple (by decide +kernel) (pa_cons (pv 2) pa_nil)) (pv 2))))))), ?_⟩
    refine ⟨(by show 0 ≤ sizeLine; decide), ?_⟩
    intro L1 nl2
    have nm3 := nm_new hW nl2
    have mu4 := mo_newL (ds := ([] : List (Bool × List (Int × Int))).map (fun y_ : (Bool × List (Int × Int)) => (eSq (fun y_ : (Int × Int) => (D.tup [(D.v (V.int y_.1)), (D.v (V.int y_.2))])) y_))) (vs := []) hW nl2 repL_nil
    replace h_days_here := rep_cell (o := .lst []) nl2 h_days_here
    replace hW := wd_cell (o := .lst []) hW nl2
    generalize upd H_0 L1 (.lst []) = H5 at *
    replace mu4 : MutO (L1 :: ms) [(ap, none)] H_0 H5 L1 (D.lst (([] : List (Bool × List (Int × Int))).map (fun y_ : (Bool × List (Int × Int)) => (eSq (fun y_ : (Int × Int) => (D.tup [(D.v (V.int y_.1)), (D.v (V.int y_.2))])) y_)))) := mu4
    refine ⟨_, rfl, ?_⟩
    apply rep_iter h_days_here
    intro a6 xs7 _ an8 hp9 hl10
    refine for_listG (S := (List (Bool × List (Int × Int)))) (items := x_days_here) (e := (fun y_ : (List (Int × Int)) => (D.lst (y_.map (fun y_ : (Int × Int) => (D.tup [(D.v (V.int y_.1)), (D.v (V.int y_.2))])))))) (ms := (L1 :: ms)) (fun (s : (List (Bool × List (Int × Int)))) σ_ h_ => ∃ (w_0 : Option V), ∃ (w_1 : Option V), σ_ = [some (V.ref ap), some v_days_here, some (V.ref L1), w_0, w_1] ∧ Wd (L1 :: ms) [(ap, none)] [] H_0 h_ ∧ Keep (L1 :: ms) H5 h_ ∧ MutO (L1 :: ms) [(ap, none)] H_0 h_ L1 (D.lst (s.map (fun y_ : (Bool × List (Int × Int)) => (eSq (fun y_ : (Int × Int) => (D.tup [(D.v (V.int y_.1)), (D.v (V.int y_.2))])) y_))))) (([] : List (Bool × List (Int × Int)))) an8 hp9 hl10 (fun _ _ _ z_ => by obtain ⟨_, _, _, _, q_, _⟩ := z_; exact q_) hM ⟨_, _, rfl, hW, Keep.refl, mu4⟩ ?_ ?_
    · skip
      clear mu4
      rintro x11 u12 s13 k14 _ H22 ⟨w19, w20, rfl, hW, hk15, mu21⟩ h16 hM Nx17 hN18
      replace h_days_here := rep_keep hk15 h_days_here
      refine ⟨_, rfl, ?_⟩
      refine ⟨_, rfl, ?_⟩
      refine ⟨(L1 :: ms), ap, _, x11, _, rfl, hW.enterP, h16, hM, fun r23 u26 H27 hM e25 h24 => ?_⟩
      replace h_days_here := rep_ret hW e25 h_days_here
      replace hk15 := keep_ret hW e25 hk15
      replace h16 := rep_ret hW e25 h16
      replace mu21 := mo_ret hW e25 mu21
      replace hW := hW.retP e25
      refine ⟨_, rfl, ?_⟩
      refine ⟨mo_tyL mu21, ?_⟩
      obtain ⟨KB28, hM, hKKB28⟩ := hM
      refine ⟨fun v H1 => ∃ r : (Bool × List (Int × Int)), KB28 r ∧ Wd (L1 :: ms) [(ap, none)] [] H_0 H1 ∧ Keep (L1 :: ms) H27 H1 ∧ rep (L1 :: ms) H1 (eSq (fun y_ : (Int × Int) => (D.tup [(D.v (V.int y_.1)), (D.v (V.int y_.2))])) r) v ∧ MutO (L1 :: ms) [(ap, none)] H_0 H1 L1 (D.lst (s13.map (fun y_ : (Bool × List (Int × Int)) => (eSq (fun y_ : (Int × Int) => (D.tup [(D.v (V.int y_.1)), (D.v (V.int y_.2))])) y_)))), ?_, ?_⟩
      · skip
        have hj30 := Keep.refl (ms := (L1 :: ms)) (H := H27)
        refine ⟨_, rfl, ?_⟩
        refine ⟨(L1 :: ms), ap, (2 : Int), _, rfl, hW.enterP, hM, fun r31 u34 H35 hM e33 h32 => ?_⟩
        replace h_days_here := rep_ret hW e33 h_days_here
        replace hk15 := keep_ret hW e33 hk15
        replace h16 := rep_ret hW e33 h16
        replace h24 := rep_ret hW e33 h24
        replace hj30 := keep_ret hW e33 hj30
        replace mu21 := mo_ret hW e33 mu21
        replace hW := hW.retP e33
        obtain rfl := of_v h32
        refine ⟨rfl, ?_⟩
        refine ⟨_, rfl, ?_⟩
        refine ite3 hM (fun hM => ?_) (fun hM => ?_)
        · skip
          refine ⟨_, rfl, ?_⟩
          apply rep_tupOf (ds := r23.map (fun y_ : (Int × Int) => (D.tup [(D.v (V.int y_.1)), (D.v (V.int y_.2))]))) h24
          intro ys36 hr37
          intro p38 np39
          have e40 := Rx.Ext.new (H := H35) (o := (HO.tup ys36)) np39
          have hp41 : upd H35 p38 (HO.tup ys36) p38 = some (HO.tup ys36) := upd_same
          generalize upd H35 p38 (HO.tup ys36) = H43 at e40 hp41 ⊢
          have h42 : rep (L1 :: ms) H43 (D.tup (r23.map (fun y_ : (Int × Int) => (D.tup [(D.v (V.int y_.1)), (D.v (V.int y_.2))])))) (.ref p38) := rep_tup_mk hW np39 e40 hp41 hr37
          replace h_days_here := rep_ext e40 h_days_here
          replace hk15 := keep_ext e40 hk15
          replace h16 := rep_ext e40 h16
          replace h24 := rep_ext e40 h24
          replace hj30 := keep_ext e40 hj30
          replace mu21 := mo_ext e40 mu21
          replace hW := hW.ret0 e40
          exact ⟨((true, r23) : (Bool × List (Int × Int))), hM, hW, hj30, (rep_sqT h42), mu21⟩
        · skip
          refine ⟨_, rfl, ?_⟩
          exact ⟨((false, r23) : (Bool × List (Int × Int))), hM, hW, hj30, (rep_sqL h24), mu21⟩
      · skip
        clear mu21
        rintro u46 Hj29 ⟨r44, hr, hW, hj30, h45, mu47⟩
        replace hM := hKKB28 r44 hr
        replace h_days_here := rep_keep hj30 h_days_here
        replace hk15 := Keep.trans hk15 hj30
        replace h16 := rep_keep hj30 h16
        replace h24 := rep_keep hj30 h24
        obtain ⟨g48, hM⟩ := hM
        apply mo_appU mu47 (by rw [List.length_map]; exact g48)
        intro vs49 hr51
        have mk53 := mo_setL mu47 (repL_snoc (e := (fun y_ : (Bool × List (Int × Int)) => (eSq (fun y_ : (Int × Int) => (D.tup [(D.v (V.int y_.1)), (D.v (V.int y_.2))])) y_))) (xs := s13) (y := r44) hr51 h45)
        replace h_days_here := rep_put (o := .lst (vs49 ++ [u46])) mu47.im h_days_here
        replace hk15 := keep_put (o := .lst (vs49 ++ [u46])) mu47.im hk15
        replace h16 := rep_put (o := .lst (vs49 ++ [u46])) mu47.im h16
        replace h24 := rep_put (o := .lst (vs49 ++ [u46])) mu47.im h24
        replace h45 := rep_put (o := .lst (vs49 ++ [u46])) mu47.im h45
        replace hW := wd_put (o := .lst (vs49 ++ [u46])) hW mu47
        replace mu47 := mk53
        generalize upd Hj29 L1 (.lst (vs49 ++ [u46])) = H54 at *
        replace mu47 : MutO (L1 :: ms) [(ap, none)] H_0 H54 L1 (D.lst ((s13 ++ [r44]).map (fun y_ : (Bool × List (Int × Int)) => (eSq (fun y_ : (Int × Int) => (D.tup [(D.v (V.int y_.1)), (D.v (V.int y_.2))])) y_)))) := mu47
        clear mk53
        exact hN18 ((s13 ++ [r44])) _ _ hM ⟨_, _, rfl, hW, hk15, mu47⟩
    · skip
      clear mu4
      rintro s55 _ H60 hM ⟨w57, w58, rfl, hW, hk56, mu59⟩
      replace h_days_here := rep_keep hk56 h_days_here
      have h61 := mo_rep_dr dr_here nm3 mu59
      replace hW := wd_dr dr_here mu59.hp hW
      replace h_days_here := rep_dr dr_here h_days_here
      clear mu59
      obtain ⟨KB62, hM, hKKB62⟩ := hM
      refine ⟨fun v H1 => ∃ r : (Bool × List (Bool × List (Int × Int))), KB62 r ∧ Wd ms [(ap, none)] [] H_0 H1 ∧ Keep ms H60 H1 ∧ rep ms H1 (eSq (fun y_ : (Bool × List (Int × Int)) => (eSq (fun y_ : (Int × Int) => (D.tup [(D.v (V.int y_.1)), (D.v (V.int y_.2))])) y_)) r) v, ?_, ?_⟩
      · skip
        have hj64 := Keep.refl (ms := ms) (H := H60)
        refine ⟨_, rfl, ?_⟩
        refine ⟨ms, ap, (3 : Int), _, rfl, hW.enterP, hM, fun r65 u68 H69 hM e67 h66 => ?_⟩
        replace h_days_here := rep_ret hW e67 h_days_here
        replace h61 := rep_ret hW e67 h61
        replace hj64 := keep_ret hW e67 hj64
        replace hW := hW.retP e67
        obtain rfl := of_v h66
        refine ⟨rfl, ?_⟩
        refine ⟨_, rfl, ?_⟩
        refine ite3 hM (fun hM => ?_) (fun hM => ?_)
        · skip
          refine ⟨_, rfl, ?_⟩
          apply rep_tupOf (ds := s55.map (fun y_ : (Bool × List (Int × Int)) => (eSq (fun y_ : (Int × Int) => (D.tup [(D.v (V.int y_.1)), (D.v (V.int y_.2))])) y_))) h61
          intro ys70 hr71
          intro p72 np73
          have e74 := Rx.Ext.new (H := H69) (o := (HO.tup ys70)) np73
          have hp75 : upd H69 p72 (HO.tup ys70) p72 = some (HO.tup ys70) := upd_same
          generalize upd H69 p72 (HO.tup ys70) = H77 at e74 hp75 ⊢
          have h76 : rep ms H77 (D.tup (s55.map (fun y_ : (Bool × List (Int × Int)) => (eSq (fun y_ : (Int × Int) => (D.tup [(D.v (V.int y_.1)), (D.v (V.int y_.2))])) y_)))) (.ref p72) := rep_tup_mk hW np73 e74 hp75 hr71
          replace h_days_here := rep_ext e74 h_days_here
          replace h61 := rep_ext e74 h61
          replace hj64 := keep_ext e74 hj64
          replace hW := hW.ret0 e74
          exact ⟨((true, s55) : (Bool × List (Bool × List (Int × Int)))), hM, hW, hj64, (rep_sqT h76)⟩
        · skip
          refine ⟨_, rfl, ?_⟩
          exact ⟨((false, s55) : (Bool × List (Bool × List (Int × Int)))), hM, hW, hj64, (rep_sqL h61)⟩
      · skip
        rintro u80 Hj63 ⟨r78, hr, hW, hj64, h79⟩
        replace hM := hKKB62 r78 hr
        replace h_days_here := rep_keep hj64 h_days_here
        replace h61 := rep_keep hj64 h61
        exact hQ r78 _ _ hM hW.out h79
def sp_passedB (A : Ad) : Sp := fun vs H Q _ => ∃ (ms : List Addr) (ap : Addr) (v_days_here : V) (x_days_here : (List (List (Int × Int)))) (KM : (Bool × List (Bool × List (Int × Int))) → Prop), vs = [.ref ap, v_days_here] ∧ Wd ms [(ap, none)] [] H H ∧ rep ms H (D.lst (x_days_here.map (fun y_ : (List (Int × Int)) => (D.lst (y_.map (fun y_ : (Int × Int) => (D.tup [(D.v (V.int y_.1)), (D.v (V.int y_.2))]))))))) v_days_here ∧ M_passed x_days_here KM ∧ ∀ (r : (Bool × List (Bool × List (Int × Int)))) (u : V) (H1 : Hp), KM r → Ret [(ap, none)] H H1 → rep ms H1 (eSq (fun y_ : (Bool × List (Int × Int)) => (eSq (fun y_ : (Int × Int) => (D.tup [(D.v (V.int y_.1)), (D.v (V.int y_.2))])) y_)) r) u → Fr2 H H1 u → Q u H1
set_option maxHeartbeats 16000000 in
theorem ok_passedB {P : Program} {w : World} {K : PySem.W.Frag} {mg : Str → Option Value} {base : Heap} {A : Ad} (T : Txt w K mg A) : FnOk P w K mg base CX0 3 A.a_passed A.d_passed ["_law_pot_here", "_law_days_here"] (sp_passedB A) := by
  refine T.F_passed.ok sc_passed (fun vs H Q E h => ?_) (fun cdv A_ outer s_ H_0 vs Q E hr h => ?_)
  · obtain ⟨ms, ap, v_days_here, x_days_here, KM, rfl, _⟩ := h
    rfl
  · obtain ⟨ms, ap, v_days_here, x_days_here, KM, rfl, hW, h_days_here, hM, hQ⟩ := h
    unfold M_passed at hM
    have h0p : ∀ a ∈ Rx.ad [(ap, (none : Option Str))], H_0 a ≠ none := fun a ha => hW.tr a (hW.pm a ha)
    refine ⟨_, (pss_cons (ps_set (i := 2) sc_passed.nd rfl (by first | exact Or.inl rfl | exact Or.inr rfl) (pe_lst pa_nil)) (pss_cons (ps_for PassesOwn.never rfl (pi_list (pv 1)) (pg_name (i := 3) sc_passed.nd rfl (by first | exact Or.inl rfl | exact Or.inr rfl)) (pss_cons (ps_set (i := 4) sc_passed.nd rfl (by first | exact Or.inl rfl | exact Or.inr rfl) (pe_call (ok_mixed_pltiiB T) (hr.mono (by decide)) (by rfl) T.g_mixed T.F_mixed.kp T.b_mixed .nil pass0 (pa_cons (pv 0) (pa_cons (pv 3) pa_nil)))) (pss_one (ps_expr (pe_bmK (K := K) rfl PySem.F.plainAttrs_list PySem.F.slot_list_append PySem.F.type_list_append mt_append (pv 2) (pa_cons (pe_up (pe_ifExp (pt_cmpR op_eq (pe_call (ok_draw T) (hr.mono (by decide)) (by rfl) T.g_draw T.F_draw.kp T.b_draw .nil pass0 (pa_cons (pv 0) (pa_cons pe_int pa_nil))) pe_int (nomark _)) (pe_callTy (call_tuple_ofK (K := K) rfl) (by rfl) T.z_tuple (by decide +kernel) (pa_cons (pv 4) pa_nil)) (pv 4))) pa_nil)))))) (pss_one (ps_ret (pe_up (pe_ifExp (pt_cmpR op_eq (pe_call (ok_draw T) (hr.mono (by decide)) (by rfl) T.g_draw T.F_draw.kp T.b_draw .nil pass0 (pa_cons (pv 0) (pa_cons pe_int pa_nil))) pe_int (nomark _)) (pe_callTy (call_tuple_ofK (K := K) rfl) (by rfl) T.z_tuple (by decide +kernel) (pa_cons (pv 2) pa_nil)) (pv 2))))))), ?_⟩
    refine ⟨(by show 0 ≤ sizeLine; decide), ?_⟩
    intro L1 nl2
    have nm3 := nm_new hW nl2
    have mu4 := mo_newL (ds := ([] : List (Bool × List (Int × Int))).map (fun y_ : (Bool × List (Int × Int)) => (eSq (fun y_ : (Int × Int) => (D.tup [(D.v (V.int y_.1)), (D.v (V.int y_.2))])) y_))) (vs := []) hW nl2 repL_nil
    replace h_days_here := rep_cell (o := .lst []) nl2 h_days_here
    replace hW := wd_cell (o := .lst []) hW nl2
    have fr0 : FrL H_0 (upd H_0 L1 (.lst [])) L1 := frl_nil
    generalize upd H_0 L1 (.lst []) = H5 at *
    replace mu4 : MutO (L1 :: ms) [(ap, none)] H_0 H5 L1 (D.lst (([] : List (Bool × List (Int × Int))).map (fun y_ : (Bool × List (Int × Int)) => (eSq (fun y_ : (Int × Int) => (D.tup [(D.v (V.int y_.1)), (D.v (V.int y_.2))])) y_)))) := mu4
    refine ⟨_, rfl, ?_⟩
    apply rep_iter h_days_here
    intro a6 xs7 _ an8 hp9 hl10
    refine for_listG (S := (List (Bool × List (Int × Int)))) (items := x_days_here) (e := (fun y_ : (List (Int × Int)) => (D.lst (y_.map (fun y_ : (Int × Int) => (D.tup [(D.v (V.int y_.1)), (D.v (V.int y_.2))])))))) (ms := (L1 :: ms)) (fun (s : (List (Bool × List (Int × Int)))) σ_ h_ => ∃ (w_0 : Option V), ∃ (w_1 : Option V), σ_ = [some (V.ref ap), some v_days_here, some (V.ref L1), w_0, w_1] ∧ Wd (L1 :: ms) [(ap, none)] [] H_0 h_ ∧ Keep (L1 :: ms) H5 h_ ∧ MutO (L1 :: ms) [(ap, none)] H_0 h_ L1 (D.lst (s.map (fun y_ : (Bool × List (Int × Int)) => (eSq (fun y_ : (Int × Int) => (D.tup [(D.v (V.int y_.1)), (D.v (V.int y_.2))])) y_)))) ∧ FrL H_0 h_ L1) (([] : List (Bool × List (Int × Int)))) an8 hp9 hl10 (fun _ _ _ z_ => by obtain ⟨_, _, _, _, q_, _⟩ := z_; exact q_) hM ⟨_, _, rfl, hW, Keep.refl, mu4, fr0⟩ ?_ ?_
    · skip
      clear mu4 fr0
      rintro x11 u12 s13 k14 _ H22 ⟨w19, w20, rfl, hW, hk15, mu21, fr0⟩ h16 hM Nx17 hN18
      replace h_days_here := rep_keep hk15 h_days_here
      refine ⟨_, rfl, ?_⟩
      refine ⟨_, rfl, ?_⟩
      refine ⟨(L1 :: ms), ap, _, x11, _, rfl, hW.enterP, h16, hM, fun r23 u26 H27 hM e25 h24 f24 => ?_⟩
      have f24 : ∀ p_, u26 = .ref p_ → H_0 p_ = none := fun p_ e_ => none0 hW (f24 p_ e_)
      have nL0 : L1 ∉ Rx.ad [(ap, (none : Option Str))] := mu21.hp
      replace h_days_here := rep_ret hW e25 h_days_here
      replace hk15 := keep_ret hW e25 hk15
      replace h16 := rep_ret hW e25 h16
      replace mu21 := mo_ret hW e25 mu21
      replace fr0 := frl_ret hW h0p nL0 e25 fr0
      replace hW := hW.retP e25
      refine ⟨_, rfl, ?_⟩
      refine ⟨mo_tyL mu21, ?_⟩
      obtain ⟨KB28, hM, hKKB28⟩ := hM
      refine ⟨fun v H1 => ∃ r : (Bool × List (Int × Int)), KB28 r ∧ Wd (L1 :: ms) [(ap, none)] [] H_0 H1 ∧ Keep (L1 :: ms) H27 H1 ∧ rep (L1 :: ms) H1 (eSq (fun y_ : (Int × Int) => (D.tup [(D.v (V.int y_.1)), (D.v (V.int y_.2))])) r) v ∧ MutO (L1 :: ms) [(ap, none)] H_0 H1 L1 (D.lst (s13.map (fun y_ : (Bool × List (Int × Int)) => (eSq (fun y_ : (Int × Int) => (D.tup [(D.v (V.int y_.1)), (D.v (V.int y_.2))])) y_)))) ∧ FrL H_0 H1 L1 ∧ Fr1 H_0 H1 L1 v, ?_, ?_⟩
      · skip
        have hj30 := Keep.refl (ms := (L1 :: ms)) (H := H27)
        refine ⟨_, rfl, ?_⟩
        refine ⟨(L1 :: ms), ap, (2 : Int), _, rfl, hW.enterP, hM, fun r31 u34 H35 hM e33 h32 => ?_⟩
        replace h_days_here := rep_ret hW e33 h_days_here
        replace hk15 := keep_ret hW e33 hk15
        replace h16 := rep_ret hW e33 h16
        replace h24 := rep_ret hW e33 h24
        replace hj30 := keep_ret hW e33 hj30
        replace mu21 := mo_ret hW e33 mu21
        replace fr0 := frl_ret hW h0p nL0 e33 fr0
        replace hW := hW.retP e33
        obtain rfl := of_v h32
        refine ⟨rfl, ?_⟩
        refine ⟨_, rfl, ?_⟩
        refine ite3 hM (fun hM => ?_) (fun hM => ?_)
        · skip
          refine ⟨_, rfl, ?_⟩
          apply rep_tupOf (ds := r23.map (fun y_ : (Int × Int) => (D.tup [(D.v (V.int y_.1)), (D.v (V.int y_.2))]))) h24
          intro ys36 hr37
          intro p38 np39
          have ne9 : p38 ≠ L1 := fun z => by
            obtain ⟨o_, q_⟩ := mu21.some
            rw [← z, np39] at q_
            cases q_
          have e40 := Rx.Ext.new (H := H35) (o := (HO.tup ys36)) np39
          have hp41 : upd H35 p38 (HO.tup ys36) p38 = some (HO.tup ys36) := upd_same
          generalize upd H35 p38 (HO.tup ys36) = H43 at e40 hp41 ⊢
          have h42 : rep (L1 :: ms) H43 (D.tup (r23.map (fun y_ : (Int × Int) => (D.tup [(D.v (V.int y_.1)), (D.v (V.int y_.2))])))) (.ref p38) := rep_tup_mk hW np39 e40 hp41 hr37
          replace h_days_here := rep_ext e40 h_days_here
          replace hk15 := keep_ext e40 hk15
          replace h16 := rep_ext e40 h16
          replace h24 := rep_ext e40 h24
          replace hj30 := keep_ext e40 hj30
          replace mu21 := mo_ext e40 mu21
          replace fr0 := frl_ext e40 fr0
          replace hW := hW.ret0 e40
          exact ⟨((true, r23) : (Bool × List (Int × Int))), hM, hW, hj30, (rep_sqT h42), mu21, fr0, fr1_tup ne9 hp41⟩
        · skip
          refine ⟨_, rfl, ?_⟩
          obtain ⟨p9, vs9, e9, n9, hp9, _⟩ := rep_lstAt h24
          exact ⟨((false, r23) : (Bool × List (Int × Int))), hM, hW, hj30, (rep_sqL h24), mu21, fr0, e9 ▸ fr1_lst (fun z => n9 (by rw [z]; exact List.mem_cons_self)) (f24 p9 e9) hp9⟩
      · skip
        clear mu21 fr0
        rintro u46 Hj29 ⟨r44, hr, hW, hj30, h45, mu47, fr0, fr1⟩
        replace hM := hKKB28 r44 hr
        replace h_days_here := rep_keep hj30 h_days_here
        replace hk15 := Keep.trans hk15 hj30
        replace h16 := rep_keep hj30 h16
        replace h24 := rep_keep hj30 h24
        obtain ⟨g48, hM⟩ := hM
        apply mo_appUE mu47 (by rw [List.length_map]; exact g48)
        intro vs49 hv9 hr51
        replace fr0 := frl_snoc hv9 fr0 fr1
        clear fr1 hv9
        have mk53 := mo_setL mu47 (repL_snoc (e := (fun y_ : (Bool × List (Int × Int)) => (eSq (fun y_ : (Int × Int) => (D.tup [(D.v (V.int y_.1)), (D.v (V.int y_.2))])) y_))) (xs := s13) (y := r44) hr51 h45)
        replace h_days_here := rep_put (o := .lst (vs49 ++ [u46])) mu47.im h_days_here
        replace hk15 := keep_put (o := .lst (vs49 ++ [u46])) mu47.im hk15
        replace h16 := rep_put (o := .lst (vs49 ++ [u46])) mu47.im h16
        replace h24 := rep_put (o := .lst (vs49 ++ [u46])) mu47.im h24
        replace h45 := rep_put (o := .lst (vs49 ++ [u46])) mu47.im h45
        replace hW := wd_put (o := .lst (vs49 ++ [u46])) hW mu47
        replace mu47 := mk53
        generalize upd Hj29 L1 (.lst (vs49 ++ [u46])) = H54 at *
        replace mu47 : MutO (L1 :: ms) [(ap, none)] H_0 H54 L1 (D.lst ((s13 ++ [r44]).map (fun y_ : (Bool × List (Int × Int)) => (eSq (fun y_ : (Int × Int) => (D.tup [(D.v (V.int y_.1)), (D.v (V.int y_.2))])) y_)))) := mu47
        clear mk53
        exact hN18 ((s13 ++ [r44])) _ _ hM ⟨_, _, rfl, hW, hk15, mu47, fr0⟩
    · skip
      clear mu4 fr0
      rintro s55 _ H60 hM ⟨w57, w58, rfl, hW, hk56, mu59, fr0⟩
      have z0 := mu59.h0
      have nL0 : L1 ∉ Rx.ad [(ap, (none : Option Str))] := mu59.hp
      replace h_days_here := rep_keep hk56 h_days_here
      have h61 := mo_rep_dr dr_here nm3 mu59
      replace hW := wd_dr dr_here mu59.hp hW
      replace h_days_here := rep_dr dr_here h_days_here
      clear mu59
      obtain ⟨KB62, hM, hKKB62⟩ := hM
      refine ⟨fun v H1 => ∃ r : (Bool × List (Bool × List (Int × Int))), KB62 r ∧ Wd ms [(ap, none)] [] H_0 H1 ∧ Keep ms H60 H1 ∧ rep ms H1 (eSq (fun y_ : (Bool × List (Int × Int)) => (eSq (fun y_ : (Int × Int) => (D.tup [(D.v (V.int y_.1)), (D.v (V.int y_.2))])) y_)) r) v ∧ Fr2 H_0 H1 v, ?_, ?_⟩
      · skip
        have hj64 := Keep.refl (ms := ms) (H := H60)
        refine ⟨_, rfl, ?_⟩
        refine ⟨ms, ap, (3 : Int), _, rfl, hW.enterP, hM, fun r65 u68 H69 hM e67 h66 => ?_⟩
        replace h_days_here := rep_ret hW e67 h_days_here
        replace h61 := rep_ret hW e67 h61
        replace fr0 := frl_ret hW h0p nL0 e67 fr0
        replace hj64 := keep_ret hW e67 hj64
        replace hW := hW.retP e67
        obtain rfl := of_v h66
        refine ⟨rfl, ?_⟩
        refine ⟨_, rfl, ?_⟩
        refine ite3 hM (fun hM => ?_) (fun hM => ?_)
        · skip
          refine ⟨_, rfl, ?_⟩
          apply rep_tupOfE (ds := s55.map (fun y_ : (Bool × List (Int × Int)) => (eSq (fun y_ : (Int × Int) => (D.tup [(D.v (V.int y_.1)), (D.v (V.int y_.2))])) y_))) h61
          intro ys70 hv9 hr71
          intro p72 np73
          have fr2 : Fr2 H_0 (upd H69 p72 (HO.tup ys70)) (.ref p72) := frl_tup np73 hv9 fr0
          have e74 := Rx.Ext.new (H := H69) (o := (HO.tup ys70)) np73
          have hp75 : upd H69 p72 (HO.tup ys70) p72 = some (HO.tup ys70) := upd_same
          generalize upd H69 p72 (HO.tup ys70) = H77 at e74 hp75 fr2 ⊢
          have h76 : rep ms H77 (D.tup (s55.map (fun y_ : (Bool × List (Int × Int)) => (eSq (fun y_ : (Int × Int) => (D.tup [(D.v (V.int y_.1)), (D.v (V.int y_.2))])) y_)))) (.ref p72) := rep_tup_mk hW np73 e74 hp75 hr71
          replace h_days_here := rep_ext e74 h_days_here
          replace h61 := rep_ext e74 h61
          replace hj64 := keep_ext e74 hj64
          replace hW := hW.ret0 e74
          exact ⟨((true, s55) : (Bool × List (Bool × List (Int × Int)))), hM, hW, hj64, (rep_sqT h76), fr2⟩
        · skip
          refine ⟨_, rfl, ?_⟩
          exact ⟨((false, s55) : (Bool × List (Bool × List (Int × Int)))), hM, hW, hj64, (rep_sqL h61), frl_fr2 z0 fr0⟩
      · skip
        rintro u80 Hj63 ⟨r78, hr, hW, hj64, h79, fr2⟩
        replace hM := hKKB62 r78 hr
        replace h_days_here := rep_keep hj64 h_days_here
        replace h61 := rep_keep hj64 h61
        exact hQ r78 _ _ hM hW.out h79 fr2
def M_is_list (x_value : (Bool × List (Bool × List (Int × Int)))) (KM : Bool → Prop) : Prop :=
  (KM true)
def sp_is_list (A : Ad) : Sp := fun vs H Q _ => ∃ (ms : List Addr) (v_value : V) (x_value : (Bool × List (Bool × List (Int × Int)))) (KM : Bool → Prop), vs = [v_value] ∧ Wd ms [] [] H H ∧ rep ms H (eSq (fun y_ : (Bool × List (Int × Int)) => (eSq (fun y_ : (Int × Int) => (D.tup [(D.v (V.int y_.1)), (D.v (V.int y_.2))])) y_)) x_value) v_value ∧ M_is_list x_value KM ∧ ∀ (r : Bool) (u : V) (H1 : Hp), KM r → Ret [] H H1 → rep ms H1 (D.v (V.bl r)) u → Q u H1
set_option maxHeartbeats 16000000 in
theorem ok_is_list {P : Program} {w : World} {K : PySem.W.Frag} {mg : Str → Option Value} {base : Heap} {A : Ad} (T : Txt w K mg A) : FnOk P w K mg base CX0 1 A.a_is_list A.d_is_list ["value"] (sp_is_list A) := by
  refine T.F_is_list.ok sc_is_list (fun vs H Q E h => ?_) (fun cdv A_ outer s_ H_0 vs Q E hr h => ?_)
  · obtain ⟨ms, v_value, x_value, KM, rfl, _⟩ := h
    rfl
  · obtain ⟨ms, v_value, x_value, KM, rfl, hW, h_value, hM, hQ⟩ := h
    unfold M_is_list at hM
    refine ⟨_, (pss_one (ps_ret (pe_callB (call_isiTK (K := K) rfl) (by rfl) T.z_isinstance (by decide +kernel) (pa_cons (pv 0) (pa_cons (pe_tup (pa_cons (pe_bltn (v := .ty "list") (by rfl) T.z_list (by decide +kernel) rfl) (pa_cons (pe_bltn (v := .ty "tuple") (by rfl) T.z_tuple (by decide +kernel) rfl) pa_nil))) pa_nil))))), ?_⟩
    refine ⟨_, rfl, ?_⟩
    refine ⟨(by show 2 ≤ sizeLine; decide), ?_⟩
    intro p1 n2
    have e3 := Rx.Ext.new (H := H_0) (o := (HO.tup [V.ty "list", V.ty "tuple"])) n2
    have hp4 : upd H_0 p1 (HO.tup [V.ty "list", V.ty "tuple"]) p1 = some (HO.tup [V.ty "list", V.ty "tuple"]) := upd_same
    generalize upd H_0 p1 (HO.tup [V.ty "list", V.ty "tuple"]) = H5 at e3 hp4 ⊢
    replace h_value := rep_ext e3 h_value
    replace hW := hW.ret0 e3
    apply rep_isiSq (f := (fun y_ : (Bool × List (Int × Int)) => (eSq (fun y_ : (Int × Int) => (D.tup [(D.v (V.int y_.1)), (D.v (V.int y_.2))])) y_))) (m := x_value) h_value hp4
    exact hQ true _ _ hM hW.out rep_v
def M_is_list_qtii (x_value : (Bool × List (Int × Int))) (KM : Bool → Prop) : Prop :=
  (KM true)
def sp_is_list_qtii (A : Ad) : Sp := fun vs H Q _ => ∃ (ms : List Addr) (v_value : V) (x_value : (Bool × List (Int × Int))) (KM : Bool → Prop), vs = [v_value] ∧ Wd ms [] [] H H ∧ rep ms H (eSq (fun y_ : (Int × Int) => (D.tup [(D.v (V.int y_.1)), (D.v (V.int y_.2))])) x_value) v_value ∧ M_is_list_qtii x_value KM ∧ ∀ (r : Bool) (u : V) (H1 : Hp), KM r → Ret [] H H1 → rep ms H1 (D.v (V.bl r)) u → Q u H1
set_option maxHeartbeats 16000000 in
theorem ok_is_list_qtii {P : Program} {w : World} {K : PySem.W.Frag} {mg : Str → Option Value} {base : Heap} {A : Ad} (T : Txt w K mg A) : FnOk P w K mg base CX0 1 A.a_is_list A.d_is_list ["value"] (sp_is_list_qtii A) := by
  refine T.F_is_list.ok sc_is_list (fun vs H Q E h => ?_) (fun cdv A_ outer s_ H_0 vs Q E hr h => ?_)
  · obtain ⟨ms, v_value, x_value, KM, rfl, _⟩ := h
    rfl
  · obtain ⟨ms, v_value, x_value, KM, rfl, hW, h_value, hM, hQ⟩ := h
    unfold M_is_list_qtii at hM
    refine ⟨_, (pss_one (ps_ret (pe_callB (call_isiTK (K := K) rfl) (by rfl) T.z_isinstance (by decide +kernel) (pa_cons (pv 0) (pa_cons (pe_tup (pa_cons (pe_bltn (v := .ty "list") (by rfl) T.z_list (by decide +kernel) rfl) (pa_cons (pe_bltn (v := .ty "tuple") (by rfl) T.z_tuple (by decide +kernel) rfl) pa_nil))) pa_nil))))), ?_⟩
    refine ⟨_, rfl, ?_⟩
    refine ⟨(by show 2 ≤ sizeLine; decide), ?_⟩
    intro p1 n2
    have e3 := Rx.Ext.new (H := H_0) (o := (HO.tup [V.ty "list", V.ty "tuple"])) n2
    have hp4 : upd H_0 p1 (HO.tup [V.ty "list", V.ty "tuple"]) p1 = some (HO.tup [V.ty "list", V.ty "tuple"]) := upd_same
    generalize upd H_0 p1 (HO.tup [V.ty "list", V.ty "tuple"]) = H5 at e3 hp4 ⊢
    replace h_value := rep_ext e3 h_value
    replace hW := hW.ret0 e3
    apply rep_isiSq (f := (fun y_ : (Int × Int) => (D.tup [(D.v (V.int y_.1)), (D.v (V.int y_.2))]))) (m := x_value) h_value hp4
    exact hQ true _ _ hM hW.out rep_v
def M_is_integer (x_value : Int) (KM : Bool → Prop) : Prop :=
  (KM (!false))
def sp_is_integer (A : Ad) : Sp := fun vs H Q _ => ∃ (ms : List Addr) (x_value : Int) (KM : Bool → Prop), vs = [V.int x_value] ∧ Wd ms [] [] H H ∧ M_is_integer x_value KM ∧ ∀ (r : Bool) (u : V) (H1 : Hp), KM r → Ret [] H H1 → rep ms H1 (D.v (V.bl r)) u → Q u H1
set_option maxHeartbeats 16000000 in
theorem ok_is_integer {P : Program} {w : World} {K : PySem.W.Frag} {mg : Str → Option Value} {base : Heap} {A : Ad} (T : Txt w K mg A) : FnOk P w K mg base CX0 1 A.a_is_integer A.d_is_integer ["value"] (sp_is_integer A) := by
  refine T.F_is_integer.ok sc_is_integer (fun vs H Q E h => ?_) (fun cdv A_ outer s_ H_0 vs Q E hr h => ?_)
  · obtain ⟨ms, x_value, KM, rfl, _⟩ := h
    rfl
  · obtain ⟨ms, x_value, KM, rfl, hW, hM, hQ⟩ := h
    unfold M_is_integer at hM
    refine ⟨_, (pss_one (ps_ret (pe_and (pe_callB (call_isiK (K := K) rfl) (by rfl) T.z_isinstance (by decide +kernel) (pa_cons (pv 0) (pa_cons (pe_bltn (v := .ty "int") (by rfl) T.z_int (by decide +kernel) rfl) pa_nil))) (pe_one (pe_not (pe_callB (call_isiK (K := K) rfl) (by rfl) T.z_isinstance (by decide +kernel) (pa_cons (pv 0) (pa_cons (pe_bltn (v := .ty "bool") (by rfl) T.z_bool (by decide +kernel) rfl) pa_nil)))))))), ?_⟩
    refine ⟨_, rfl, ?_⟩
    refine ⟨_, _, _, _, true, rfl, .ty _, .base (.int _), kit_ty (by decide +kernel), ?_⟩
    refine ⟨_, rfl, ?_⟩
    refine iteT ?_
    refine ⟨_, rfl, ?_⟩
    refine ⟨_, _, _, _, false, rfl, .ty _, .base (.int _), kit_ty (by decide +kernel), ?_⟩
    refine ⟨_, rfl, ?_⟩
    exact hQ (!false) _ _ hM hW.out rep_v
def M_is_meeting (x_value : (Int × Int)) (KM : Bool → Prop) : Prop :=
  (if (decide (V.int (2 : Int) = V.int (2 : Int))) = true then (M_is_integer x_value.1 fun r3 => (if r3 = true then (M_is_integer x_value.2 fun r10 => (KM r10)) else (KM false))) else (KM false))
def sp_is_meeting (A : Ad) : Sp := fun vs H Q _ => ∃ (ms : List Addr) (v_value : V) (x_value : (Int × Int)) (KM : Bool → Prop), vs = [v_value] ∧ Wd ms [] [] H H ∧ rep ms H (D.tup [(D.v (V.int x_value.1)), (D.v (V.int x_value.2))]) v_value ∧ M_is_meeting x_value KM ∧ ∀ (r : Bool) (u : V) (H1 : Hp), KM r → Ret [] H H1 → rep ms H1 (D.v (V.bl r)) u → Q u H1
set_option maxHeartbeats 16000000 in
theorem ok_is_meeting {P : Program} {w : World} {K : PySem.W.Frag} {mg : Str → Option Value} {base : Heap} {A : Ad} (T : Txt w K mg A) : FnOk P w K mg base CX0 2 A.a_is_meeting A.d_is_meeting ["value"] (sp_is_meeting A) := by
  refine T.F_is_meeting.ok sc_is_meeting (fun vs H Q E h => ?_) (fun cdv A_ outer s_ H_0 vs Q E hr h => ?_)
  · obtain ⟨ms, v_value, x_value, KM, rfl, _⟩ := h
    rfl
  · obtain ⟨ms, v_value, x_value, KM, rfl, hW, h_value, hM, hQ⟩ := h
    unfold M_is_meeting at hM
    refine ⟨_, (pss_one (ps_ret (pe_and (pe_callB (call_isiK (K := K) rfl) (by rfl) T.z_isinstance (by decide +kernel) (pa_cons (pv 0) (pa_cons (pe_bltn (v := .ty "tuple") (by rfl) T.z_tuple (by decide +kernel) rfl) pa_nil))) (pe_and (pe_cmpR op_eq (pe_callB (call_lenK (K := K) rfl) (by rfl) T.z_len PySem.boot_len (pa_cons (pv 0) pa_nil)) pe_int (nomark _)) (pe_and (pe_call (ok_is_integer T) (hr.mono (by decide)) (by rfl) T.g_is_integer T.F_is_integer.kp T.b_is_integer .nil pass0 (pa_cons (pe_ix (ix_tupK (K := K) rfl) (pv 0) pe_int (fun _ _ => rfl)) pa_nil)) (pe_one (pe_call (ok_is_integer T) (hr.mono (by decide)) (by rfl) T.g_is_integer T.F_is_integer.kp T.b_is_integer .nil pass0 (pa_cons (pe_ix (ix_tupK (K := K) rfl) (pv 0) pe_int (fun _ _ => rfl)) pa_nil)))))))), ?_⟩
    refine ⟨_, rfl, ?_⟩
    apply rep_isi1 (d := (D.tup [(D.v (V.int x_value.1)), (D.v (V.int x_value.2))])) (a := "tuple") (b := "tuple") (r := true) h_value (by rfl) (by rfl) (by decide +kernel)
    refine ⟨_, rfl, ?_⟩
    refine iteT ?_
    refine ⟨_, rfl, ?_⟩
    apply rep_lenT (n := 2) h_value rfl
    refine ⟨rfl, ?_⟩
    refine ⟨_, rfl, ?_⟩
    refine ite3 hM (fun hM => ?_) (fun hM => ?_)
    · skip
      refine ⟨_, rfl, ?_⟩
      apply rep_ixT 0 h_value rfl rfl
      intro u2 h1
      obtain rfl := of_v h1
      refine ⟨ms, x_value.1, _, rfl, hW.enter0, hM, fun r3 u6 H7 hM e5 h4 => ?_⟩
      replace h_value := rep_ext e5 h_value
      replace hW := hW.ret0 e5
      obtain rfl := of_v h4
      refine ⟨_, rfl, ?_⟩
      refine ite3 hM (fun hM => ?_) (fun hM => ?_)
      · skip
        refine ⟨_, rfl, ?_⟩
        apply rep_ixT 1 h_value rfl rfl
        intro u9 h8
        obtain rfl := of_v h8
        refine ⟨ms, x_value.2, _, rfl, hW.enter0, hM, fun r10 u13 H14 hM e12 h11 => ?_⟩
        replace h_value := rep_ext e12 h_value
        replace hW := hW.ret0 e12
        obtain rfl := of_v h11
        exact hQ r10 _ _ hM hW.out rep_v
      · skip
        exact hQ false _ _ hM hW.out rep_v
    · skip
      exact hQ false _ _ hM hW.out rep_v
def M_is_round (x_value : (Bool × List (Int × Int))) (KM : Bool → Prop) : Prop :=
  (M_is_list_qtii x_value fun r1 => (if (!r1) = true then (KM false) else (if (decide ((x_value.2.length : Int) < (2 : Int))) = true then (KM false) else (if (decide ((12 : Int) < (x_value.2.length : Int))) = true then (KM false) else (x_value.2.length < 100000 ∧ mapC (fun (x25 : (Int × Int)) (k18 : Bool → Prop) => (M_is_meeting x25 fun r31 => (k18 r31))) x_value.2 [] fun ys41 => (if (!(List.all ys41 id)) = true then (KM false) else (((List.flatMap (fun y_ : (Int × Int) => ([y_.1, y_.2] : List Int)) x_value.2).length ≤ 16777216) ∧ (∀ ys56 : List Int, ys56.Perm (List.flatMap (fun y_ : (Int × Int) => ([y_.1, y_.2] : List Int)) x_value.2) → ys56.Pairwise (· ≤ ·) → (RgOk (0 : Int) ((2 : Int) * (x_value.2.length : Int)) ∧ (((plainD (D.lst (ys56.map (fun y_ : Int => (D.v (V.int y_))))) = true ∧ plainD (D.lst ((rangeI (0 : Int) ((2 : Int) * (x_value.2.length : Int))).map (fun y_ : Int => (D.v (V.int y_))))) = true ∧ SeqAt.shaped (pyOf (D.lst (ys56.map (fun y_ : Int => (D.v (V.int y_)))))) = true ∧ SeqAt.shaped (pyOf (D.lst ((rangeI (0 : Int) ((2 : Int) * (x_value.2.length : Int))).map (fun y_ : Int => (D.v (V.int y_)))))) = true)) ∧ (KM (PyData.eqv (pyOf (D.lst (ys56.map (fun y_ : Int => (D.v (V.int y_)))))) (pyOf (D.lst ((rangeI (0 : Int) ((2 : Int) * (x_value.2.length : Int))).map (fun y_ : Int => (D.v (V.int y_))))))))))))))))))
def sp_is_round (A : Ad) : Sp := fun vs H Q _ => ∃ (ms : List Addr) (v_value : V) (x_value : (Bool × List (Int × Int))) (KM : Bool → Prop), vs = [v_value] ∧ Wd ms [] [] H H ∧ rep ms H (eSq (fun y_ : (Int × Int) => (D.tup [(D.v (V.int y_.1)), (D.v (V.int y_.2))])) x_value) v_value ∧ M_is_round x_value KM ∧ ∀ (r : Bool) (u : V) (H1 : Hp), KM r → Ret [] H H1 → rep ms H1 (D.v (V.bl r)) u → Q u H1
set_option maxHeartbeats 16000000 in
theorem ok_is_round {P : Program} {w : World} {K : PySem.W.Frag} {mg : Str → Option Value} {base : Heap} {A : Ad} (T : Txt w K mg A) : FnOk P w K mg base CX0 3 A.a_is_round A.d_is_round ["value"] (sp_is_round A) := by
  refine T.F_is_round.ok sc_is_round (fun vs H Q E h => ?_) (fun cdv A_ outer s_ H_0 vs Q E hr h => ?_)
  · obtain ⟨ms, v_value, x_value, KM, rfl, _⟩ := h
    rfl
  · obtain ⟨ms, v_value, x_value, KM, rfl, hW, h_value, hM, hQ⟩ := h
    unfold M_is_round at hM
    refine ⟨_, (pss_cons (ps_if (PW.pt (pw_or (pt_not (pt_val (pe_call (ok_is_list_qtii T) (hr.mono (by decide)) (by rfl) T.g_is_list T.F_is_list.kp T.b_is_list .nil pass0 (pa_cons (pv 0) pa_nil)))) (pw_or (pt_cmpR op_lt (pe_callB (call_lenK (K := K) rfl) (by rfl) T.z_len PySem.boot_len (pa_cons (pv 0) pa_nil)) (C8.pe_gc (by rfl) T.c_FEWEST_MEETINGS) (nomark _)) (pw_or1 (pt_cmpR op_gt (pe_callB (call_lenK (K := K) rfl) (by rfl) T.z_len PySem.boot_len (pa_cons (pv 0) pa_nil)) (C8.pe_gc (by rfl) T.c_MOST_MEETINGS) (nomark _)))))) (pss_one (ps_ret pe_bl)) pss_nil) (pss_cons (ps_if (pt_not (pt_val (pe_callB (cr_allK (K := K) rfl rfl) (by rfl) T.z_all (by decide +kernel) (pa_cons (pe_lc (own := [("meeting", 1)]) (g := gName 1) rfl sc_is_round.nd (pi_seqK (K := K) rfl (pv 0)) (blkOk_by (N := ["value", "meeting", "team"]) (sc := defScope s_is_round) (by decide +kernel)) (fun _ _ _ _ _ => pg_name (i := 1) sc_is_round.nd rfl (by first | exact Or.inl rfl | exact Or.inr rfl)) (fun _ _ _ _ _ => pts_nil) (fun _ _ _ _ _ => (pe_call (ok_is_meeting T) (hr.mono (by decide)) (by rfl) T.g_is_meeting T.F_is_meeting.kp T.b_is_meeting .nil pass0 (pa_cons (pv 1) pa_nil)))) pa_nil)))) (pss_one (ps_ret pe_bl)) pss_nil) (pss_one (ps_ret (pe_cmpR (op_eqDK (K := K) rfl hr.units) (pe_callB (cr_sortedIK (K := K) rfl) (by rfl) T.z_sorted (by decide +kernel) (pa_cons (pe_lc2 (own := [("meeting", 1), ("team", 2)]) (vs1 := [2]) (g := gName 1) (g1 := gName 2) rfl sc_is_round.nd (pi_seqK (K := K) rfl (pv 0)) (blkOk_by (N := ["value", "meeting", "team"]) (sc := defScope s_is_round) (by decide +kernel)) (by decide) (fun _ _ _ _ _ => pg_name (i := 1) sc_is_round.nd rfl (by first | exact Or.inl rfl | exact Or.inr rfl)) (fun _ _ _ _ _ => pts_nil) (fun _ _ _ _ _ => pi_tupK (K := K) rfl (pv 1)) (fun _ _ _ _ _ => pg_name (i := 2) sc_is_round.nd rfl (by first | exact Or.inl rfl | exact Or.inr rfl)) (fun _ _ _ _ _ => pts_nil) (fun _ _ _ _ _ => pv 2)) pa_nil)) (pe_listRg rfl (by rfl) T.z_list (prg_1 (by rfl) T.z_range (pe_op op_mul pe_int (pe_callB (call_lenK (K := K) rfl) (by rfl) T.z_len PySem.boot_len (pa_cons (pv 0) pa_nil))))) (nomark _)))))), ?_⟩
    refine ⟨_, rfl, ?_⟩
    refine ⟨ms, _, x_value, _, rfl, hW.enter0, h_value, hM, fun r1 u4 H5 hM e3 h2 => ?_⟩
    replace h_value := rep_ext e3 h_value
    replace hW := hW.ret0 e3
    obtain rfl := of_v h2
    refine ⟨_, rfl, ?_⟩
    refine ite3 hM (fun hM => ?_) (fun hM => ?_)
    · skip
      refine iteT ?_
      exact hQ false _ _ hM hW.out rep_v
    · skip
      refine ⟨_, rfl, ?_⟩
      apply rep_lenSq (f := (fun y_ : (Int × Int) => (D.tup [(D.v (V.int y_.1)), (D.v (V.int y_.2))]))) (m := x_value) h_value
      refine ⟨_, _, rfl, rfl, ?_⟩
      refine ⟨_, rfl, ?_⟩
      refine ite3 hM (fun hM => ?_) (fun hM => ?_)
      · skip
        refine iteT ?_
        exact hQ false _ _ hM hW.out rep_v
      · skip
        refine ⟨_, rfl, ?_⟩
        apply rep_lenSq (f := (fun y_ : (Int × Int) => (D.tup [(D.v (V.int y_.1)), (D.v (V.int y_.2))]))) (m := x_value) h_value
        refine ⟨_, _, rfl, rfl, ?_⟩
        refine ⟨_, rfl, ?_⟩
        refine ite3 hM (fun hM => ?_) (fun hM => ?_)
        · skip
          exact hQ false _ _ hM hW.out rep_v
        · skip
          refine ⟨_, rfl, ?_⟩
          apply rep_iterSq (f := (fun y_ : (Int × Int) => (D.tup [(D.v (V.int y_.1)), (D.v (V.int y_.2))]))) (m := x_value) h_value
          intro a6 J11 _ P12 PL13
          refine fun L14 nl15 => ?_
          have nm29 := nm_new hW nl15
          refine lc_seqG (L := L14) (fun n_ ys_ h_ => Wd (L14 :: ms) [] [] H_0 h_ ∧ Keep (L14 :: ms) H5 h_ ∧ MutO (L14 :: ms) [] H_0 h_ L14 (D.lst (ys_.map (fun y_ : Bool => (D.v (V.bl y_))))) ∧ ys_.length ≤ n_) (items := x_value.2) (e := (fun y_ : (Int × Int) => (D.tup [(D.v (V.int y_.1)), (D.v (V.int y_.2))]))) (PL13 _ nl15) (fun _ _ _ q_ => q_.2.1) hM ⟨wd_cell hW nl15, keep_cell nl15 Keep.refl, mo_newL (ds := []) hW nl15 repL_nil, Nat.le_refl _⟩ ?_ ?_
          · skip
            rintro x25 u26 n16 ys17 k18 H30 hn ⟨hW, hk19, mu20, ln21⟩ h27 hM Nx24 hN22
            replace h_value := rep_keep hk19 (rep_new nl15 h_value)
            refine ⟨rfl, ?_⟩
            refine tyes_of ?_
            refine ⟨_, rfl, ?_⟩
            refine ⟨(L14 :: ms), _, x25, _, rfl, hW.enter0, h27, hM, fun r31 u34 H35 hM e33 h32 => ?_⟩
            replace h_value := rep_ext e33 h_value
            replace hk19 := keep_ext e33 hk19
            replace h27 := rep_ext e33 h27
            replace mu20 := mo_ext e33 mu20
            replace hW := hW.ret0 e33
            obtain rfl := of_v h32
            refine mo_end mu20 hn (by rw [List.length_map]; exact ln21) fun vs36 hr37 => ?_
            have mk39 := mo_setL mu20 (repL_snoc (e := (fun y_ : Bool => (D.v (V.bl y_)))) (xs := ys17) (y := r31) hr37 rep_v)
            replace h_value := rep_put (o := .lst (vs36 ++ [V.bl r31])) mu20.im h_value
            replace hk19 := keep_put (o := .lst (vs36 ++ [V.bl r31])) mu20.im hk19
            replace h27 := rep_put (o := .lst (vs36 ++ [V.bl r31])) mu20.im h27
            replace hW := wd_put (o := .lst (vs36 ++ [V.bl r31])) hW mu20
            replace mu20 := mk39
            generalize upd H35 L14 (.lst (vs36 ++ [V.bl r31])) = H40 at *
            replace mu20 : MutO (L14 :: ms) [] H_0 H40 L14 (D.lst ((ys17 ++ [r31]).map (fun y_ : Bool => (D.v (V.bl y_))))) := mu20
            clear mk39
            exact hN22 r31 _ hM ⟨hW, hk19, mu20, by rw [List.length_append]; exact Nat.add_le_add_right ln21 1⟩
          · skip
            rintro n16 ys41 H42 hM ⟨hW, hk19, mu20, ln21⟩
            replace h_value := rep_keep hk19 (rep_new nl15 h_value)
            clear hk19 ln21
            have h43 := mo_rep_dr dr_here nm29 mu20
            replace hW := wd_dr dr_here mu20.hp hW
            replace h_value := rep_dr dr_here h_value
            clear mu20
            apply rep_all h43
            refine ⟨_, rfl, ?_⟩
            refine ite3 hM (fun hM => ?_) (fun hM => ?_)
            · skip
              exact hQ false _ _ hM hW.out rep_v
            · skip
              refine ⟨_, rfl, ?_⟩
              apply rep_iterSq (f := (fun y_ : (Int × Int) => (D.tup [(D.v (V.int y_.1)), (D.v (V.int y_.2))]))) (m := x_value) h_value
              intro a44 xs45 _ an46 hp47
              obtain ⟨g49, hM⟩ := hM
              refine lc2_flatCS (K := K) (items := x_value.2) (e := (fun y_ : (Int × Int) => (D.tup [(D.v (V.int y_.1)), (D.v (V.int y_.2))]))) (g := (fun y_ : (Int × Int) => ([y_.1, y_.2] : List Int))) (c := V.int) (fun _ => rfl) hp47 g49 (show 1 < List.length _ from (by decide : 1 < 3)) (show 2 < List.length _ from (by decide : 2 < 3)) (by decide) ?_
              intro p50 n54
              have e51 := Rx.Ext.new (H := H42) (o := (HO.lst ((List.flatMap (fun y_ : (Int × Int) => ([y_.1, y_.2] : List Int)) x_value.2).map V.int))) n54
              have hp52 : upd H42 p50 (HO.lst ((List.flatMap (fun y_ : (Int × Int) => ([y_.1, y_.2] : List Int)) x_value.2).map V.int)) p50 = some (HO.lst ((List.flatMap (fun y_ : (Int × Int) => ([y_.1, y_.2] : List Int)) x_value.2).map V.int)) := upd_same
              generalize upd H42 p50 (HO.lst ((List.flatMap (fun y_ : (Int × Int) => ([y_.1, y_.2] : List Int)) x_value.2).map V.int)) = H55 at e51 hp52 ⊢
              have h53 : rep ms H55 (D.lst ((List.flatMap (fun y_ : (Int × Int) => ([y_.1, y_.2] : List Int)) x_value.2).map (fun y_ : Int => (D.v (V.int y_))))) (.ref p50) := rep_lst_mk hW n54 e51 hp52 repL_intsM
              replace h_value := rep_ext e51 h_value
              replace h43 := rep_ext e51 h43
              replace hW := hW.ret0 e51
              apply rep_sortI (xs := (List.flatMap (fun y_ : (Int × Int) => ([y_.1, y_.2] : List Int)) x_value.2)) h53
              intro ys56 hpm57 hst58
              replace hM := hM ys56 hpm57 hst58
              intro p59 n63
              have e60 := Rx.Ext.new (H := H55) (o := (HO.lst (ys56.map V.int))) n63
              have hp61 : upd H55 p59 (HO.lst (ys56.map V.int)) p59 = some (HO.lst (ys56.map V.int)) := upd_same
              generalize upd H55 p59 (HO.lst (ys56.map V.int)) = H64 at e60 hp61 ⊢
              have h62 : rep ms H64 (D.lst (ys56.map (fun y_ : Int => (D.v (V.int y_))))) (.ref p59) := rep_lst_mk hW n63 e60 hp61 repL_intsM
              replace h_value := rep_ext e60 h_value
              replace h43 := rep_ext e60 h43
              replace h53 := rep_ext e60 h53
              replace hW := hW.ret0 e60
              refine ⟨_, rfl, ?_⟩
              apply rep_lenSq (f := (fun y_ : (Int × Int) => (D.tup [(D.v (V.int y_.1)), (D.v (V.int y_.2))]))) (m := x_value) h_value
              refine ⟨_, _, rfl, rfl, .inl ⟨by decide, by decide⟩, ?_⟩
              obtain ⟨g65, hM⟩ := hM
              refine ⟨_, rfl, g65, ?_⟩
              intro p66 n70
              have e67 := Rx.Ext.new (H := H64) (o := (HO.lst (rgV (0 : Int) ((2 : Int) * (x_value.2.length : Int))))) n70
              have hp68 : upd H64 p66 (HO.lst (rgV (0 : Int) ((2 : Int) * (x_value.2.length : Int)))) p66 = some (HO.lst (rgV (0 : Int) ((2 : Int) * (x_value.2.length : Int)))) := upd_same
              generalize upd H64 p66 (HO.lst (rgV (0 : Int) ((2 : Int) * (x_value.2.length : Int)))) = H71 at e67 hp68 ⊢
              have h69 : rep ms H71 (D.lst ((rangeI (0 : Int) ((2 : Int) * (x_value.2.length : Int))).map (fun y_ : Int => (D.v (V.int y_))))) (.ref p66) := rep_rg_mk hW n70 e67 hp68
              replace h_value := rep_ext e67 h_value
              replace h43 := rep_ext e67 h43
              replace h53 := rep_ext e67 h53
              replace h62 := rep_ext e67 h62
              replace hW := hW.ret0 e67
              obtain ⟨g72, hM⟩ := hM
              apply rep_eqD (d := (D.lst (ys56.map (fun y_ : Int => (D.v (V.int y_)))))) (e := (D.lst ((rangeI (0 : Int) ((2 : Int) * (x_value.2.length : Int))).map (fun y_ : Int => (D.v (V.int y_)))))) h62 h69 g72.1 g72.2.1 g72.2.2.1 g72.2.2.2
              exact hQ (PyData.eqv (pyOf (D.lst (ys56.map (fun y_ : Int => (D.v (V.int y_)))))) (pyOf (D.lst ((rangeI (0 : Int) ((2 : Int) * (x_value.2.length : Int))).map (fun y_ : Int => (D.v (V.int y_))))))) _ _ hM hW.out rep_v
def M_check_rounds (x_rounds : (Bool × List (Bool × List (Int × Int)))) (KM : Unit → Prop) : Prop :=
  (M_is_list x_rounds fun r1 => (if (!r1) = true then False else (if (decide (V.int (x_rounds.2.length : Int) = V.int (0 : Int))) = true then False else (forC (fun (x11 : (Int × (Bool × List (Int × Int)))) (s13 : Unit) (k14 : Unit → Prop) => (M_is_round x11.2 fun r34 => (if (!r34) = true then False else (0 ≤ (0 : Int) ∧ ∃ g40 : Int.toNat (0 : Int) < x_rounds.2.length, ∀ x42, x42 = x_rounds.2[Int.toNat (0 : Int)]'g40 → (if (!(decide (V.int (x11.2.2.length : Int) = V.int (x42.2.length : Int)))) = true then False else (k14 ())))))) ((rangeI 0 (x_rounds.2.length : Int)).zip x_rounds.2) () fun s44 => (if (decide ((60 : Int) < (x_rounds.2.length : Int))) = true then False else (KM ()))))))
def sp_check_rounds (A : Ad) : Sp := fun vs H Q _ => ∃ (ms : List Addr) (v_rounds : V) (x_rounds : (Bool × List (Bool × List (Int × Int)))) (KM : Unit → Prop), vs = [v_rounds] ∧ Wd ms [] [] H H ∧ rep ms H (eSq (fun y_ : (Bool × List (Int × Int)) => (eSq (fun y_ : (Int × Int) => (D.tup [(D.v (V.int y_.1)), (D.v (V.int y_.2))])) y_)) x_rounds) v_rounds ∧ M_check_rounds x_rounds KM ∧ ∀ (r : Unit) (u : V) (H1 : Hp), KM r → Ret [] H H1 → rep ms H1 (D.v V.non) u → Q u H1
set_option maxHeartbeats 16000000 in
theorem ok_check_rounds {P : Program} {w : World} {K : PySem.W.Frag} {mg : Str → Option Value} {base : Heap} {A : Ad} (T : Txt w K mg A) : FnOk P w K mg base CX0 4 A.a_check_rounds A.d_check_rounds ["rounds"] (sp_check_rounds A) := by
  refine T.F_check_rounds.ok sc_check_rounds (fun vs H Q E h => ?_) (fun cdv A_ outer s_ H_0 vs Q E hr h => ?_)
  · obtain ⟨ms, v_rounds, x_rounds, KM, rfl, _⟩ := h
    rfl
  · obtain ⟨ms, v_rounds, x_rounds, KM, rfl, hW, h_rounds, hM, hQ⟩ := h
    unfold M_check_rounds at hM
    refine ⟨_, (pss_cons (ps_if (PW.pt (pw_or (pt_not (pt_val (pe_call (ok_is_list T) (hr.mono (by decide)) (by rfl) T.g_is_list T.F_is_list.kp T.b_is_list .nil pass0 (pa_cons (pv 0) pa_nil)))) (pw_or1 (pt_cmpR op_eq (pe_callB (call_lenK (K := K) rfl) (by rfl) T.z_len PySem.boot_len (pa_cons (pv 0) pa_nil)) pe_int (nomark _))))) (pss_one ps_never) pss_nil) (pss_cons (ps_for PassesOwn.never rfl (pi_enumS (K := K) rfl (by rfl) T.z_enumerate (pa_cons (pv 0) pa_nil)) (pg_tup rfl (pgs_cons (pg_name (i := 1) sc_check_rounds.nd rfl (by first | exact Or.inl rfl | exact Or.inr rfl)) (pgs_cons (pg_name (i := 2) sc_check_rounds.nd rfl (by first | exact Or.inl rfl | exact Or.inr rfl)) pgs_nil))) (pss_one (ps_if (PW.pt (pw_or (pt_not (pt_val (pe_call (ok_is_round T) (hr.mono (by decide)) (by rfl) T.g_is_round T.F_is_round.kp T.b_is_round .nil pass0 (pa_cons (pv 2) pa_nil)))) (pw_or1 (pt_cmpR op_ne (pe_callB (call_lenK (K := K) rfl) (by rfl) T.z_len PySem.boot_len (pa_cons (pv 2) pa_nil)) (pe_callB (call_lenK (K := K) rfl) (by rfl) T.z_len PySem.boot_len (pa_cons (pe_ix (ix_seqK (K := K) rfl) (pv 0) pe_int (fun _ _ => rfl)) pa_nil)) (nomark _))))) (pss_one ps_never) pss_nil))) (pss_one (ps_if (pt_cmpR op_gt (pe_callB (call_lenK (K := K) rfl) (by rfl) T.z_len PySem.boot_len (pa_cons (pv 0) pa_nil)) (C8.pe_gc (by rfl) T.c_MOST_ROUNDS) (nomark _)) (pss_one ps_never) pss_nil)))), ?_⟩
    refine ⟨_, rfl, ?_⟩
    refine ⟨ms, _, x_rounds, _, rfl, hW.enter0, h_rounds, hM, fun r1 u4 H5 hM e3 h2 => ?_⟩
    replace h_rounds := rep_ext e3 h_rounds
    replace hW := hW.ret0 e3
    obtain rfl := of_v h2
    refine ⟨_, rfl, ?_⟩
    refine ite3 hM (fun hM => ?_) (fun hM => ?_)
    · skip
      refine iteT ?_
      exact hM
    · skip
      refine ⟨_, rfl, ?_⟩
      apply rep_lenSq (f := (fun y_ : (Bool × List (Int × Int)) => (eSq (fun y_ : (Int × Int) => (D.tup [(D.v (V.int y_.1)), (D.v (V.int y_.2))])) y_))) (m := x_rounds) h_rounds
      refine ⟨rfl, ?_⟩
      refine ⟨_, rfl, ?_⟩
      refine ite3 hM (fun hM => ?_) (fun hM => ?_)
      · skip
        exact hM
      · skip
        refine ⟨_, rfl, ?_⟩
        apply rep_iterES (f := (fun y_ : (Bool × List (Int × Int)) => (eSq (fun y_ : (Int × Int) => (D.tup [(D.v (V.int y_.1)), (D.v (V.int y_.2))])) y_))) (m := x_rounds) h_rounds
        intro a6 xs7 _ an8 hp9
        refine for_pairG (S := Unit) (e := fun i_ => .v (.int i_)) (e2 := (fun y_ : (Bool × List (Int × Int)) => (eSq (fun y_ : (Int × Int) => (D.tup [(D.v (V.int y_.1)), (D.v (V.int y_.2))])) y_))) (ms := ms) (fun (s : Unit) σ_ h_ => ∃ (w_0 : Option V), ∃ (w_1 : Option V), σ_ = [some v_rounds, w_0, w_1] ∧ Wd ms [] [] H_0 h_ ∧ Keep ms H5 h_) () an8 (fun _ _ _ z_ => by obtain ⟨_, _, _, _, q_⟩ := z_; exact q_) (fun _ _ _ z_ => by obtain ⟨_, _, _, w_, _⟩ := z_; exact w_.tr) hM ⟨_, _, rfl, hW, Keep.refl⟩ ?_ ?_
        · skip
          rintro x11 u12 s13 k14 _ H23 H22 ⟨w19, w20, rfl, hW, hk15⟩ ex21 h16 hM Nx17 hN18
          replace h_rounds := rep_keep hk15 h_rounds
          replace h_rounds := rep_ext ex21 h_rounds
          replace hk15 := keep_ext ex21 hk15
          replace hW := hW.ret0 ex21
          apply rep_gtup h16 rfl
          intro vs24 hv25
          obtain ⟨u26, us27, rfl, h28, hv29⟩ := repL_uncons hv25
          obtain rfl := of_v h28
          obtain ⟨u30, us31, rfl, h32, hv33⟩ := repL_uncons hv29
          obtain rfl := repL_empty hv33
          refine ⟨_, _, rfl, ?_⟩
          refine ⟨_, _, rfl, ?_⟩
          refine ⟨rfl, ?_⟩
          refine ⟨_, rfl, ?_⟩
          refine ⟨ms, _, x11.2, _, rfl, hW.enter0, h32, hM, fun r34 u37 H38 hM e36 h35 => ?_⟩
          replace h_rounds := rep_ext e36 h_rounds
          replace hk15 := keep_ext e36 hk15
          replace h16 := rep_ext e36 h16
          replace h32 := rep_ext e36 h32
          replace hW := hW.ret0 e36
          obtain rfl := of_v h35
          refine ⟨_, rfl, ?_⟩
          refine ite3 hM (fun hM => ?_) (fun hM => ?_)
          · skip
            refine iteT ?_
            exact hM
          · skip
            refine ⟨_, rfl, ?_⟩
            apply rep_lenSq (f := (fun y_ : (Int × Int) => (D.tup [(D.v (V.int y_.1)), (D.v (V.int y_.2))]))) (m := x11.2) h32
            refine ⟨_, rfl, ?_⟩
            obtain ⟨g39, g40, hM⟩ := hM
            apply rep_ixSq (f := (fun y_ : (Bool × List (Int × Int)) => (eSq (fun y_ : (Int × Int) => (D.tup [(D.v (V.int y_.1)), (D.v (V.int y_.2))])) y_))) (m := x_rounds) h_rounds g39 g40
            intro u43 h41
            obtain ⟨x42, x42e⟩ : ∃ x_, x_ = x_rounds.2[Int.toNat (0 : Int)]'g40 := ⟨_, rfl⟩
            rw [← x42e] at h41
            replace hM := hM x42 x42e
            apply rep_lenSq (f := (fun y_ : (Int × Int) => (D.tup [(D.v (V.int y_.1)), (D.v (V.int y_.2))]))) (m := x42) h41
            refine ⟨rfl, ?_⟩
            refine ⟨_, rfl, ?_⟩
            refine ite3 hM (fun hM => ?_) (fun hM => ?_)
            · skip
              exact hM
            · skip
              exact hN18 () _ _ hM ⟨_, _, rfl, hW, hk15⟩
        · skip
          rintro s44 _ H48 hM ⟨w46, w47, rfl, hW, hk45⟩
          replace h_rounds := rep_keep hk45 h_rounds
          refine ⟨_, rfl, ?_⟩
          apply rep_lenSq (f := (fun y_ : (Bool × List (Int × Int)) => (eSq (fun y_ : (Int × Int) => (D.tup [(D.v (V.int y_.1)), (D.v (V.int y_.2))])) y_))) (m := x_rounds) h_rounds
          refine ⟨_, _, rfl, rfl, ?_⟩
          refine ⟨_, rfl, ?_⟩
          refine ite3 hM (fun hM => ?_) (fun hM => ?_)
          · skip
            exact hM
          · skip
            exact hQ () _ _ hM hW.out rep_v
def M_Table_init (x_rounds : (Bool × List (Bool × List (Int × Int)))) (KM : (List (List (Int × Int))) → Prop) : Prop :=
  (M_check_rounds x_rounds fun r1 => (x_rounds.2.length < 100000 ∧ mapC (fun (x25 : (Bool × List (Int × Int))) (k18 : (List (Int × Int)) → Prop) => (x25.2.length < 100000 ∧ mapC (fun (x50 : (Int × Int)) (k43 : (Int × Int) → Prop) => (k43 (x50.1, x50.2))) x25.2 [] fun ys80 => (∀ ys84 : List (Int × Int), ys84.Perm ys80 → ys84.Pairwise lePI → (k18 ys84)))) x_rounds.2 [] fun ys100 => (KM ys100)))
def sp_Table_init (A : Ad) : Sp := fun vs H Q _ => ∃ (ms : List Addr) (p_ dx_ : Addr) (v_rounds : V) (x_rounds : (Bool × List (Bool × List (Int × Int)))) (KM : (List (List (Int × Int))) → Prop), vs = [.ref p_, v_rounds] ∧ Wd ms [] [] H H ∧ p_ ∈ ms ∧ H p_ = some (.ins A.c_Table dx_ []) ∧ rep ms H (eSq (fun y_ : (Bool × List (Int × Int)) => (eSq (fun y_ : (Int × Int) => (D.tup [(D.v (V.int y_.1)), (D.v (V.int y_.2))])) y_)) x_rounds) v_rounds ∧ M_Table_init x_rounds KM ∧ ∀ (r : (List (List (Int × Int)))) (us : List V) (H1 : Hp), KM r → KpI p_ H H1 → H1 p_ = some (.ins A.c_Table dx_ (List.zip ns_Table us)) → ns_Table.length = us.length → repL ms H1 [(D.lst (r.map (fun y_ : (List (Int × Int)) => (D.lst (y_.map (fun y_ : (Int × Int) => (D.tup [(D.v (V.int y_.1)), (D.v (V.int y_.2))])))))))] us → Q .non H1
set_option maxHeartbeats 16000000 in
theorem ok_Table_init {P : Program} {w : World} {K : PySem.W.Frag} {mg : Str → Option Value} {base : Heap} {A : Ad} (T : Txt w K mg A) : FnOk P w K mg base CX0 5 A.a_Table_init A.d_Table_init ["self", "rounds"] (sp_Table_init A) := by
  refine T.F_Table_init.ok sc_Table_init (fun vs H Q E h => ?_) (fun cdv A_ outer s_ H_0 vs Q E hr h => ?_)
  · obtain ⟨ms, p_, dx_, v_rounds, x_rounds, KM, rfl, _⟩ := h
    rfl
  · obtain ⟨ms, p_, dx_, v_rounds, x_rounds, KM, rfl, hW, pm_, hp, h_rounds, hM, hQ⟩ := h
    unfold M_Table_init at hM
    have hK := ki_refl (p := p_) (H := H_0)
    replace hp : H_0 p_ = some (.ins A.c_Table dx_ (List.zip ([] : List Str) ([] : List V))) := hp
    refine ⟨_, (pss_cons (ps_expr (pe_call (ok_check_rounds T) (hr.mono (by decide)) (by rfl) T.g_check_rounds T.F_check_rounds.kp T.b_check_rounds .nil pass0 (pa_cons (pv 1) pa_nil))) (pss_one (ps_fld (pv 0) (pe_lc (own := [("meetings", 2)]) (g := gName 2) rfl sc_Table_init.nd (pi_seqK (K := K) rfl (pv 1)) (blkOk_by (N := ["self", "rounds", "meetings", "home", "away"]) (sc := defScope s_Table_init) (by decide +kernel)) (fun _ _ _ _ _ => pg_name (i := 2) sc_Table_init.nd rfl (by first | exact Or.inl rfl | exact Or.inr rfl)) (fun _ _ _ _ _ => pts_nil) (fun _ _ _ _ _ => (pe_callB (cr_sortedPK (K := K) rfl) (by rfl) T.z_sorted (by decide +kernel) (pa_cons (pe_lc (own := [("home", 3), ("away", 4)]) (g := (gTup K 2 (gCons (gName 3) (gCons (gName 4) gNil)))) rfl sc_Table_init.nd (pi_seqK (K := K) rfl (pv 2)) (blkOk_rel (N := ["self", "rounds", "meetings", "home", "away"]) rfl (by kernel_rfl)) (fun _ _ _ _ _ => (pg_tup rfl (pgs_cons (pg_name (i := 3) sc_Table_init.nd rfl (by first | exact Or.inl rfl | exact Or.inr rfl)) (pgs_cons (pg_name (i := 4) sc_Table_init.nd rfl (by first | exact Or.inl rfl | exact Or.inr rfl)) pgs_nil)))) (fun _ _ _ _ _ => pts_nil) (fun _ _ _ _ _ => (pe_tup (pa_cons (pv 3) (pa_cons (pv 4) pa_nil))))) pa_nil)))) rfl))), ?_⟩
    refine ⟨_, rfl, ?_⟩
    refine ⟨ms, _, x_rounds, _, rfl, hW.enter0, h_rounds, hM, fun r1 u4 H5 hM e3 h2 => ?_⟩
    replace h_rounds := rep_ext e3 h_rounds
    replace hp := Rx.Ext.keep e3 hp
    replace hW := hW.ret0 e3
    obtain rfl := of_v h2
    refine ⟨_, rfl, ?_⟩
    apply rep_iterSq (f := (fun y_ : (Bool × List (Int × Int)) => (eSq (fun y_ : (Int × Int) => (D.tup [(D.v (V.int y_.1)), (D.v (V.int y_.2))])) y_))) (m := x_rounds) h_rounds
    intro a6 J11 _ P12 PL13
    refine fun L14 nl15 => ?_
    have nm29 := nm_new hW nl15
    refine lc_seqG (L := L14) (fun n_ ys_ h_ => Wd (L14 :: ms) [] [] H_0 h_ ∧ Keep (L14 :: ms) H5 h_ ∧ MutO (L14 :: ms) [] H_0 h_ L14 (D.lst (ys_.map (fun y_ : (List (Int × Int)) => (D.lst (y_.map (fun y_ : (Int × Int) => (D.tup [(D.v (V.int y_.1)), (D.v (V.int y_.2))]))))))) ∧ ys_.length ≤ n_ ∧ h_ p_ = some (.ins A.c_Table dx_ (List.zip ([] : List Str) ([] : List V)))) (items := x_rounds.2) (e := (fun y_ : (Bool × List (Int × Int)) => (eSq (fun y_ : (Int × Int) => (D.tup [(D.v (V.int y_.1)), (D.v (V.int y_.2))])) y_))) (PL13 _ nl15) (fun _ _ _ q_ => q_.2.1) hM ⟨wd_cell hW nl15, keep_cell nl15 Keep.refl, mo_newL (ds := []) hW nl15 repL_nil, Nat.le_refl _, Rx.Ext.keep (Rx.Ext.new nl15) hp⟩ ?_ ?_
    · skip
      rintro x25 u26 n16 ys17 k18 H30 hn ⟨hW, hk19, mu20, ln21, hp⟩ h27 hM Nx24 hN22
      replace h_rounds := rep_keep hk19 (rep_new nl15 h_rounds)
      refine ⟨rfl, ?_⟩
      refine tyes_of ?_
      refine ⟨_, rfl, ?_⟩
      apply rep_iterSq (f := (fun y_ : (Int × Int) => (D.tup [(D.v (V.int y_.1)), (D.v (V.int y_.2))]))) (m := x25) h27
      intro a31 J36 _ P37 PL38
      refine fun L39 nl40 => ?_
      have nm54 := nm_new hW nl40
      have kn55 := keep_none (w := hW) nl40 hk19
      have ne56 := mo_ne nl40 mu20
      refine lc_seqG (L := L39) (fun n_ ys_ h_ => Wd (L39 :: (L14 :: ms)) [] [] H_0 h_ ∧ Keep (L39 :: (L14 :: ms)) H30 h_ ∧ MutO (L39 :: (L14 :: ms)) [] H_0 h_ L39 (D.lst (ys_.map (fun y_ : (Int × Int) => (D.tup [(D.v (V.int y_.1)), (D.v (V.int y_.2))])))) ∧ ys_.length ≤ n_ ∧ MutO (L39 :: (L14 :: ms)) [] H_0 h_ L14 (D.lst (ys17.map (fun y_ : (List (Int × Int)) => (D.lst (y_.map (fun y_ : (Int × Int) => (D.tup [(D.v (V.int y_.1)), (D.v (V.int y_.2))]))))))) ∧ h_ p_ = some (.ins A.c_Table dx_ (List.zip ([] : List Str) ([] : List V)))) (items := x25.2) (e := (fun y_ : (Int × Int) => (D.tup [(D.v (V.int y_.1)), (D.v (V.int y_.2))]))) (PL38 _ nl40) (fun _ _ _ q_ => q_.2.1) hM ⟨wd_cell hW nl40, keep_cell nl40 Keep.refl, mo_newL (ds := []) hW nl40 repL_nil, Nat.le_refl _, mo_cell nl40 mu20, Rx.Ext.keep (Rx.Ext.new nl40) hp⟩ ?_ ?_
      · skip
        clear mu20
        rintro x50 u51 n41 ys42 k43 H57 hn ⟨hW, hk44, mu45, ln46, mu58, hp⟩ h52 hM Nx49 hN47
        replace h_rounds := rep_keep hk44 (rep_new nl40 h_rounds)
        replace hk19 := Keep.trans (Keep.new hk19) hk44
        replace h27 := rep_keep hk44 (rep_new nl40 h27)
        apply rep_gtup h52 rfl
        intro vs59 hv60
        obtain ⟨u61, us62, rfl, h63, hv64⟩ := repL_uncons hv60
        obtain rfl := of_v h63
        obtain ⟨u65, us66, rfl, h67, hv68⟩ := repL_uncons hv64
        obtain rfl := of_v h67
        obtain rfl := repL_empty hv68
        refine ⟨_, _, rfl, ?_⟩
        refine ⟨_, _, rfl, ?_⟩
        refine ⟨rfl, ?_⟩
        refine ⟨rfl, ?_⟩
        refine tyes_of ?_
        refine ⟨_, rfl, ?_⟩
        refine ⟨_, rfl, ?_⟩
        refine ⟨(by show 2 ≤ sizeLine; decide), ?_⟩
        intro p69 n73
        have e70 := Rx.Ext.new (H := H57) (o := (HO.tup [V.int x50.1, V.int x50.2])) n73
        have hp71 : upd H57 p69 (HO.tup [V.int x50.1, V.int x50.2]) p69 = some (HO.tup [V.int x50.1, V.int x50.2]) := upd_same
        generalize upd H57 p69 (HO.tup [V.int x50.1, V.int x50.2]) = H74 at e70 hp71 ⊢
        have h72 : rep (L39 :: (L14 :: ms)) H74 (D.tup [(D.v (V.int x50.1)), (D.v (V.int x50.2))]) (.ref p69) := rep_tup_mk hW n73 e70 hp71 (repL_cons rep_v (repL_cons rep_v repL_nil))
        replace h_rounds := rep_ext e70 h_rounds
        replace hk19 := keep_ext e70 hk19
        replace h27 := rep_ext e70 h27
        replace hk44 := keep_ext e70 hk44
        replace h52 := rep_ext e70 h52
        replace mu58 := mo_ext e70 mu58
        replace mu45 := mo_ext e70 mu45
        replace hp := Rx.Ext.keep e70 hp
        replace hW := hW.ret0 e70
        refine mo_end mu45 hn (by rw [List.length_map]; exact ln46) fun vs75 hr76 => ?_
        have mk78 := mo_setL mu45 (repL_snoc (e := (fun y_ : (Int × Int) => (D.tup [(D.v (V.int y_.1)), (D.v (V.int y_.2))]))) (xs := ys42) (y := (x50.1, x50.2)) hr76 h72)
        replace mu58 := mo_put (o := .lst (vs75 ++ [(V.ref p69)])) mu45.im ne56 mu58
        replace h_rounds := rep_put (o := .lst (vs75 ++ [(V.ref p69)])) mu45.im h_rounds
        replace hk19 := keep_put (o := .lst (vs75 ++ [(V.ref p69)])) mu45.im hk19
        replace h27 := rep_put (o := .lst (vs75 ++ [(V.ref p69)])) mu45.im h27
        replace hk44 := keep_put (o := .lst (vs75 ++ [(V.ref p69)])) mu45.im hk44
        replace h52 := rep_put (o := .lst (vs75 ++ [(V.ref p69)])) mu45.im h52
        replace h72 := rep_put (o := .lst (vs75 ++ [(V.ref p69)])) mu45.im h72
        replace hp := at_put (o := .lst (vs75 ++ [(V.ref p69)])) hp mu45
        replace hW := wd_put (o := .lst (vs75 ++ [(V.ref p69)])) hW mu45
        replace mu45 := mk78
        generalize upd H74 L39 (.lst (vs75 ++ [(V.ref p69)])) = H79 at *
        replace mu45 : MutO (L39 :: (L14 :: ms)) [] H_0 H79 L39 (D.lst ((ys42 ++ [(x50.1, x50.2)]).map (fun y_ : (Int × Int) => (D.tup [(D.v (V.int y_.1)), (D.v (V.int y_.2))])))) := mu45
        clear mk78
        exact hN47 (x50.1, x50.2) _ hM ⟨hW, hk44, mu45, by rw [List.length_append]; exact Nat.add_le_add_right ln46 1, mu58, hp⟩
      · skip
        clear mu20
        rintro n41 ys80 H81 hM ⟨hW, hk44, mu45, ln46, mu82, hp⟩
        replace h_rounds := rep_keep hk44 (rep_new nl40 h_rounds)
        replace hk19 := Keep.trans (Keep.new hk19) hk44
        replace h27 := rep_keep hk44 (rep_new nl40 h27)
        clear hk44 ln46
        have h83 := mo_rep_dr dr_here nm54 mu45
        replace hW := wd_dr dr_here mu45.hp hW
        replace h_rounds := rep_dr dr_here h_rounds
        replace hk19 := keep_dr dr_here kn55 hk19
        replace h27 := rep_dr dr_here h27
        replace mu82 := mo_dr dr_here ne56 mu82
        clear mu45
        apply rep_sortP (xs := ys80) h83
        intro ys84 zs87 hpm85 hst86 hr88
        replace hM := hM ys84 hpm85 hst86
        intro p89 n93
        have e90 := Rx.Ext.new (H := H81) (o := (HO.lst (zs87))) n93
        have hp91 : upd H81 p89 (HO.lst (zs87)) p89 = some (HO.lst (zs87)) := upd_same
        generalize upd H81 p89 (HO.lst (zs87)) = H94 at e90 hp91 ⊢
        have h92 : rep (L14 :: ms) H94 (D.lst (ys84.map (fun y_ : (Int × Int) => (D.tup [(D.v (V.int y_.1)), (D.v (V.int y_.2))])))) (.ref p89) := rep_lst_mk hW n93 e90 hp91 hr88
        replace h_rounds := rep_ext e90 h_rounds
        replace hk19 := keep_ext e90 hk19
        replace h27 := rep_ext e90 h27
        replace h83 := rep_ext e90 h83
        replace mu82 := mo_ext e90 mu82
        replace hp := Rx.Ext.keep e90 hp
        replace hW := hW.ret0 e90
        refine mo_end mu82 hn (by rw [List.length_map]; exact ln21) fun vs95 hr96 => ?_
        have mk98 := mo_setL mu82 (repL_snoc (e := (fun y_ : (List (Int × Int)) => (D.lst (y_.map (fun y_ : (Int × Int) => (D.tup [(D.v (V.int y_.1)), (D.v (V.int y_.2))])))))) (xs := ys17) (y := ys84) hr96 h92)
        replace h_rounds := rep_put (o := .lst (vs95 ++ [(V.ref p89)])) mu82.im h_rounds
        replace hk19 := keep_put (o := .lst (vs95 ++ [(V.ref p89)])) mu82.im hk19
        replace h27 := rep_put (o := .lst (vs95 ++ [(V.ref p89)])) mu82.im h27
        replace h83 := rep_put (o := .lst (vs95 ++ [(V.ref p89)])) mu82.im h83
        replace h92 := rep_put (o := .lst (vs95 ++ [(V.ref p89)])) mu82.im h92
        replace hp := at_put (o := .lst (vs95 ++ [(V.ref p89)])) hp mu82
        replace hW := wd_put (o := .lst (vs95 ++ [(V.ref p89)])) hW mu82
        replace mu82 := mk98
        generalize upd H94 L14 (.lst (vs95 ++ [(V.ref p89)])) = H99 at *
        replace mu82 : MutO (L14 :: ms) [] H_0 H99 L14 (D.lst ((ys17 ++ [ys84]).map (fun y_ : (List (Int × Int)) => (D.lst (y_.map (fun y_ : (Int × Int) => (D.tup [(D.v (V.int y_.1)), (D.v (V.int y_.2))]))))))) := mu82
        clear mk98
        exact hN22 ys84 _ hM ⟨hW, hk19, mu82, by rw [List.length_append]; exact Nat.add_le_add_right ln21 1, hp⟩
    · skip
      rintro n16 ys100 H101 hM ⟨hW, hk19, mu20, ln21, hp⟩
      replace h_rounds := rep_keep hk19 (rep_new nl15 h_rounds)
      clear hk19 ln21
      have h102 := mo_rep_dr dr_here nm29 mu20
      replace hW := wd_dr dr_here mu20.hp hW
      replace h_rounds := rep_dr dr_here h_rounds
      clear mu20
      refine ⟨_, rfl, p_, A.c_Table, dx_, _, rfl, hp, T.cl_Table, T.na_Table__rounds, (by first | decide | simp), ?_⟩
      have z103 : putF ("_rounds" : Str) ((V.ref L14)) (List.zip ([] : List Str) ([] : List V)) = List.zip [("_rounds" : Str)] [(V.ref L14)] := putF_zip (ns := ([] : List Str)) (us := ([] : List V)) rfl (nin_of (by decide +kernel))
      replace h_rounds := rep_put (o := .ins A.c_Table dx_ (putF ("_rounds" : Str) ((V.ref L14)) (List.zip ([] : List Str) ([] : List V)))) pm_ h_rounds
      replace h102 := rep_put (o := .ins A.c_Table dx_ (putF ("_rounds" : Str) ((V.ref L14)) (List.zip ([] : List Str) ([] : List V)))) pm_ h102
      replace hK := ki_put (o := .ins A.c_Table dx_ (putF ("_rounds" : Str) ((V.ref L14)) (List.zip ([] : List Str) ([] : List V)))) hK hW
      replace hW := wd_at (p := p_) (o := .ins A.c_Table dx_ (putF ("_rounds" : Str) ((V.ref L14)) (List.zip ([] : List Str) ([] : List V)))) hW
      replace hp : upd H101 p_ (.ins A.c_Table dx_ (putF ("_rounds" : Str) ((V.ref L14)) (List.zip ([] : List Str) ([] : List V)))) p_ = some (.ins A.c_Table dx_ (putF ("_rounds" : Str) ((V.ref L14)) (List.zip ([] : List Str) ([] : List V)))) := upd_same
      generalize upd H101 p_ (.ins A.c_Table dx_ (putF ("_rounds" : Str) ((V.ref L14)) (List.zip ([] : List Str) ([] : List V)))) = H104 at *
      rw [z103] at hp
      exact hQ ys100 [(V.ref L14)] _ hM (ki_wd hK hW) hp rfl (repL_cons h102 repL_nil)
theorem make_Table_init {ms : List Addr} {ps : List PEn} {cs : List (Addr × List V)} {H0 H : Hp} {A : Ad} {v_rounds : V} {x_rounds : (Bool × List (Bool × List (Int × Int)))} {KM : (List (List (Int × Int))) → Prop} {Q : Addr → Hp → Prop} {E : XK} (hW : Wd ms ps cs H0 H) (h_rounds : rep ms H (eSq (fun y_ : (Bool × List (Int × Int)) => (eSq (fun y_ : (Int × Int) => (D.tup [(D.v (V.int y_.1)), (D.v (V.int y_.2))])) y_)) x_rounds) v_rounds) (hM : M_Table_init x_rounds KM)
    (k : ∀ (x : Addr) (H1 : Hp) (r : (List (List (Int × Int)))), KM r → Rx.Ext H H1 → rep ms H1 (eTable A r) (.ref x) → Q x H1) :
    ∀ x dx, H x = none → H dx = none → dx ≠ x → sp_Table_init A (.ref x :: ([v_rounds] ++ [])) (upd (upd H dx (.own x)) x (.ins A.c_Table dx [])) (fun v H2 => v = .non ∧ Q x H2) E := by
  intro x dx nx ndx ne
  exact ⟨x :: ms, x, dx, v_rounds, x_rounds, KM, rfl, wd_new hW nx ndx, List.mem_cons_self, upd_same, mem_new nx h_rounds ndx, hM, fun r us H1 hr hK hp hl hu => ⟨rfl, k x H1 r hr (ext_new hK nx ndx) (rep_insW hW nx hp hl hu)⟩⟩
def sp_Table_initB (A : Ad) : Sp := fun vs H Q _ => ∃ (ms m2 : List Addr) (p_ dx_ : Addr) (v_rounds : V) (x_rounds : (Bool × List (Bool × List (Int × Int)))) (KM : (List (List (Int × Int))) → Prop), vs = [.ref p_, v_rounds] ∧ Wd ms [] [] H H ∧ (∀ a ∈ m2, a ∈ ms) ∧ p_ ∈ m2 ∧ H p_ = some (.ins A.c_Table dx_ []) ∧ rep m2 H (eSq (fun y_ : (Bool × List (Int × Int)) => (eSq (fun y_ : (Int × Int) => (D.tup [(D.v (V.int y_.1)), (D.v (V.int y_.2))])) y_)) x_rounds) v_rounds ∧ M_Table_init x_rounds KM ∧ ∀ (r : (List (List (Int × Int)))) (us : List V) (H1 : Hp), KM r → KpI p_ H H1 → H1 p_ = some (.ins A.c_Table dx_ (List.zip ns_Table us)) → ns_Table.length = us.length → repL ms H1 [(D.lst (r.map (fun y_ : (List (Int × Int)) => (D.lst (y_.map (fun y_ : (Int × Int) => (D.tup [(D.v (V.int y_.1)), (D.v (V.int y_.2))])))))))] us → Q .non H1
set_option maxHeartbeats 16000000 in
theorem ok_Table_initB {P : Program} {w : World} {K : PySem.W.Frag} {mg : Str → Option Value} {base : Heap} {A : Ad} (T : Txt w K mg A) : FnOk P w K mg base CX0 5 A.a_Table_init A.d_Table_init ["self", "rounds"] (sp_Table_initB A) := by
  refine T.F_Table_init.ok sc_Table_init (fun vs H Q E h => ?_) (fun cdv A_ outer s_ H_0 vs Q E hr h => ?_)
  · obtain ⟨ms, m2, p_, dx_, v_rounds, x_rounds, KM, rfl, _⟩ := h
    rfl
  · obtain ⟨ms, m2, p_, dx_, v_rounds, x_rounds, KM, rfl, hW, sb, pm_, hp, h_rounds, hM, hQ⟩ := h
    unfold M_Table_init at hM
    have hW2 : Wd m2 [] [] H_0 H_0 := wd_sub sb (fun a h => by simp [Rx.ad] at h) hW
    have hK := ki_refl (p := p_) (H := H_0)
    replace hp : H_0 p_ = some (.ins A.c_Table dx_ (List.zip ([] : List Str) ([] : List V))) := hp
    refine ⟨_, (pss_cons (ps_expr (pe_call (ok_check_rounds T) (hr.mono (by decide)) (by rfl) T.g_check_rounds T.F_check_rounds.kp T.b_check_rounds .nil pass0 (pa_cons (pv 1) pa_nil))) (pss_one (ps_fld (pv 0) (pe_lc (own := [("meetings", 2)]) (g := gName 2) rfl sc_Table_init.nd (pi_seqK (K := K) rfl (pv 1)) (blkOk_by (N := ["self", "rounds", "meetings", "home", "away"]) (sc := defScope s_Table_init) (by decide +kernel)) (fun _ _ _ _ _ => pg_name (i := 2) sc_Table_init.nd rfl (by first | exact Or.inl rfl | exact Or.inr rfl)) (fun _ _ _ _ _ => pts_nil) (fun _ _ _ _ _ => (pe_callB (cr_sortedPK (K := K) rfl) (by rfl) T.z_sorted (by decide +kernel) (pa_cons (pe_lc (own := [("home", 3), ("away", 4)]) (g := (gTup K 2 (gCons (gName 3) (gCons (gName 4) gNil)))) rfl sc_Table_init.nd (pi_seqK (K := K) rfl (pv 2)) (blkOk_rel (N := ["self", "rounds", "meetings", "home", "away"]) rfl (by kernel_rfl)) (fun _ _ _ _ _ => (pg_tup rfl (pgs_cons (pg_name (i := 3) sc_Table_init.nd rfl (by first | exact Or.inl rfl | exact Or.inr rfl)) (pgs_cons (pg_name (i := 4) sc_Table_init.nd rfl (by first | exact Or.inl rfl | exact Or.inr rfl)) pgs_nil)))) (fun _ _ _ _ _ => pts_nil) (fun _ _ _ _ _ => (pe_tup (pa_cons (pv 3) (pa_cons (pv 4) pa_nil))))) pa_nil)))) rfl))), ?_⟩
    refine ⟨_, rfl, ?_⟩
    refine ⟨m2, _, x_rounds, _, rfl, hW2, h_rounds, hM, fun r1 u4 H5 hM e3 h2 => ?_⟩
    replace h_rounds := rep_ext e3 h_rounds
    replace hp := Rx.Ext.keep e3 hp
    replace hW := hW.ret0 e3
    obtain rfl := of_v h2
    refine ⟨_, rfl, ?_⟩
    apply rep_iterSq (f := (fun y_ : (Bool × List (Int × Int)) => (eSq (fun y_ : (Int × Int) => (D.tup [(D.v (V.int y_.1)), (D.v (V.int y_.2))])) y_))) (m := x_rounds) h_rounds
    intro a6 J11 _ P12 PL13
    refine fun L14 nl15 => ?_
    have nm29 := nm_new hW nl15
    refine lc_seqG (L := L14) (fun n_ ys_ h_ => Wd (L14 :: ms) [] [] H_0 h_ ∧ Keep (L14 :: m2) H5 h_ ∧ MutO (L14 :: ms) [] H_0 h_ L14 (D.lst (ys_.map (fun y_ : (List (Int × Int)) => (D.lst (y_.map (fun y_ : (Int × Int) => (D.tup [(D.v (V.int y_.1)), (D.v (V.int y_.2))]))))))) ∧ ys_.length ≤ n_ ∧ h_ p_ = some (.ins A.c_Table dx_ (List.zip ([] : List Str) ([] : List V)))) (items := x_rounds.2) (e := (fun y_ : (Bool × List (Int × Int)) => (eSq (fun y_ : (Int × Int) => (D.tup [(D.v (V.int y_.1)), (D.v (V.int y_.2))])) y_))) (PL13 _ nl15) (fun _ _ _ q_ => q_.2.1) hM ⟨wd_cell hW nl15, keep_cell nl15 Keep.refl, mo_newL (ds := []) hW nl15 repL_nil, Nat.le_refl _, Rx.Ext.keep (Rx.Ext.new nl15) hp⟩ ?_ ?_
    · skip
      rintro x25 u26 n16 ys17 k18 H30 hn ⟨hW, hk19, mu20, ln21, hp⟩ h27 hM Nx24 hN22
      replace h_rounds := rep_keep hk19 (rep_new nl15 h_rounds)
      refine ⟨rfl, ?_⟩
      refine tyes_of ?_
      refine ⟨_, rfl, ?_⟩
      apply rep_iterSq (f := (fun y_ : (Int × Int) => (D.tup [(D.v (V.int y_.1)), (D.v (V.int y_.2))]))) (m := x25) h27
      intro a31 J36 _ P37 PL38
      refine fun L39 nl40 => ?_
      have nm54 := nm_new hW nl40
      have kn55 := keep_none (w := wd_sub (ms' := L14 :: m2) (fun a h => (List.mem_cons.mp h).elim (fun z => by rw [z]; exact List.mem_cons_self) fun z => List.mem_cons_of_mem _ (sb a z)) (fun a h => by simp [Rx.ad] at h) hW) nl40 hk19
      have ne56 := mo_ne nl40 mu20
      refine lc_seqG (L := L39) (fun n_ ys_ h_ => Wd (L39 :: (L14 :: ms)) [] [] H_0 h_ ∧ Keep (L39 :: (L14 :: m2)) H30 h_ ∧ MutO (L39 :: (L14 :: ms)) [] H_0 h_ L39 (D.lst (ys_.map (fun y_ : (Int × Int) => (D.tup [(D.v (V.int y_.1)), (D.v (V.int y_.2))])))) ∧ ys_.length ≤ n_ ∧ MutO (L39 :: (L14 :: ms)) [] H_0 h_ L14 (D.lst (ys17.map (fun y_ : (List (Int × Int)) => (D.lst (y_.map (fun y_ : (Int × Int) => (D.tup [(D.v (V.int y_.1)), (D.v (V.int y_.2))]))))))) ∧ h_ p_ = some (.ins A.c_Table dx_ (List.zip ([] : List Str) ([] : List V)))) (items := x25.2) (e := (fun y_ : (Int × Int) => (D.tup [(D.v (V.int y_.1)), (D.v (V.int y_.2))]))) (PL38 _ nl40) (fun _ _ _ q_ => q_.2.1) hM ⟨wd_cell hW nl40, keep_cell nl40 Keep.refl, mo_newL (ds := []) hW nl40 repL_nil, Nat.le_refl _, mo_cell nl40 mu20, Rx.Ext.keep (Rx.Ext.new nl40) hp⟩ ?_ ?_
      · skip
        clear mu20
        rintro x50 u51 n41 ys42 k43 H57 hn ⟨hW, hk44, mu45, ln46, mu58, hp⟩ h52 hM Nx49 hN47
        replace h_rounds := rep_keep hk44 (rep_new nl40 h_rounds)
        replace hk19 := Keep.trans (Keep.new hk19) hk44
        replace h27 := rep_keep hk44 (rep_new nl40 h27)
        apply rep_gtup h52 rfl
        intro vs59 hv60
        obtain ⟨u61, us62, rfl, h63, hv64⟩ := repL_uncons hv60
        obtain rfl := of_v h63
        obtain ⟨u65, us66, rfl, h67, hv68⟩ := repL_uncons hv64
        obtain rfl := of_v h67
        obtain rfl := repL_empty hv68
        refine ⟨_, _, rfl, ?_⟩
        refine ⟨_, _, rfl, ?_⟩
        refine ⟨rfl, ?_⟩
        refine ⟨rfl, ?_⟩
        refine tyes_of ?_
        refine ⟨_, rfl, ?_⟩
        refine ⟨_, rfl, ?_⟩
        refine ⟨(by show 2 ≤ sizeLine; decide), ?_⟩
        intro p69 n73
        have e70 := Rx.Ext.new (H := H57) (o := (HO.tup [V.int x50.1, V.int x50.2])) n73
        have hp71 : upd H57 p69 (HO.tup [V.int x50.1, V.int x50.2]) p69 = some (HO.tup [V.int x50.1, V.int x50.2]) := upd_same
        generalize upd H57 p69 (HO.tup [V.int x50.1, V.int x50.2]) = H74 at e70 hp71 ⊢
        have h72 : rep (L39 :: (L14 :: ms)) H74 (D.tup [(D.v (V.int x50.1)), (D.v (V.int x50.2))]) (.ref p69) := rep_tup_mk hW n73 e70 hp71 (repL_cons rep_v (repL_cons rep_v repL_nil))
        replace h_rounds := rep_ext e70 h_rounds
        replace hk19 := keep_ext e70 hk19
        replace h27 := rep_ext e70 h27
        replace hk44 := keep_ext e70 hk44
        replace h52 := rep_ext e70 h52
        replace mu58 := mo_ext e70 mu58
        replace mu45 := mo_ext e70 mu45
        replace hp := Rx.Ext.keep e70 hp
        replace hW := hW.ret0 e70
        refine mo_end mu45 hn (by rw [List.length_map]; exact ln46) fun vs75 hr76 => ?_
        have mk78 := mo_setL mu45 (repL_snoc (e := (fun y_ : (Int × Int) => (D.tup [(D.v (V.int y_.1)), (D.v (V.int y_.2))]))) (xs := ys42) (y := (x50.1, x50.2)) hr76 h72)
        replace mu58 := mo_put (o := .lst (vs75 ++ [(V.ref p69)])) mu45.im ne56 mu58
        replace h_rounds := rep_put (o := .lst (vs75 ++ [(V.ref p69)])) List.mem_cons_self h_rounds
        replace hk19 := keep_put (o := .lst (vs75 ++ [(V.ref p69)])) List.mem_cons_self hk19
        replace h27 := rep_put (o := .lst (vs75 ++ [(V.ref p69)])) List.mem_cons_self h27
        replace hk44 := keep_put (o := .lst (vs75 ++ [(V.ref p69)])) List.mem_cons_self hk44
        replace h52 := rep_put (o := .lst (vs75 ++ [(V.ref p69)])) List.mem_cons_self h52
        replace h72 := rep_put (o := .lst (vs75 ++ [(V.ref p69)])) mu45.im h72
        replace hp := at_put (o := .lst (vs75 ++ [(V.ref p69)])) hp mu45
        replace hW := wd_put (o := .lst (vs75 ++ [(V.ref p69)])) hW mu45
        replace mu45 := mk78
        generalize upd H74 L39 (.lst (vs75 ++ [(V.ref p69)])) = H79 at *
        replace mu45 : MutO (L39 :: (L14 :: ms)) [] H_0 H79 L39 (D.lst ((ys42 ++ [(x50.1, x50.2)]).map (fun y_ : (Int × Int) => (D.tup [(D.v (V.int y_.1)), (D.v (V.int y_.2))])))) := mu45
        clear mk78
        exact hN47 (x50.1, x50.2) _ hM ⟨hW, hk44, mu45, by rw [List.length_append]; exact Nat.add_le_add_right ln46 1, mu58, hp⟩
      · skip
        clear mu20
        rintro n41 ys80 H81 hM ⟨hW, hk44, mu45, ln46, mu82, hp⟩
        replace h_rounds := rep_keep hk44 (rep_new nl40 h_rounds)
        replace hk19 := Keep.trans (Keep.new hk19) hk44
        replace h27 := rep_keep hk44 (rep_new nl40 h27)
        clear hk44 ln46
        have h83 := mo_rep_dr dr_here nm54 mu45
        replace hW := wd_dr dr_here mu45.hp hW
        replace h_rounds := rep_dr dr_here h_rounds
        replace hk19 := keep_dr dr_here kn55 hk19
        replace h27 := rep_dr dr_here h27
        replace mu82 := mo_dr dr_here ne56 mu82
        clear mu45
        apply rep_sortP (xs := ys80) h83
        intro ys84 zs87 hpm85 hst86 hr88
        replace hM := hM ys84 hpm85 hst86
        intro p89 n93
        have e90 := Rx.Ext.new (H := H81) (o := (HO.lst (zs87))) n93
        have hp91 : upd H81 p89 (HO.lst (zs87)) p89 = some (HO.lst (zs87)) := upd_same
        generalize upd H81 p89 (HO.lst (zs87)) = H94 at e90 hp91 ⊢
        have h92 : rep (L14 :: ms) H94 (D.lst (ys84.map (fun y_ : (Int × Int) => (D.tup [(D.v (V.int y_.1)), (D.v (V.int y_.2))])))) (.ref p89) := rep_lst_mk hW n93 e90 hp91 hr88
        replace h_rounds := rep_ext e90 h_rounds
        replace hk19 := keep_ext e90 hk19
        replace h27 := rep_ext e90 h27
        replace h83 := rep_ext e90 h83
        replace mu82 := mo_ext e90 mu82
        replace hp := Rx.Ext.keep e90 hp
        replace hW := hW.ret0 e90
        refine mo_end mu82 hn (by rw [List.length_map]; exact ln21) fun vs95 hr96 => ?_
        have mk98 := mo_setL mu82 (repL_snoc (e := (fun y_ : (List (Int × Int)) => (D.lst (y_.map (fun y_ : (Int × Int) => (D.tup [(D.v (V.int y_.1)), (D.v (V.int y_.2))])))))) (xs := ys17) (y := ys84) hr96 h92)
        replace h_rounds := rep_put (o := .lst (vs95 ++ [(V.ref p89)])) List.mem_cons_self h_rounds
        replace hk19 := keep_put (o := .lst (vs95 ++ [(V.ref p89)])) List.mem_cons_self hk19
        replace h27 := rep_put (o := .lst (vs95 ++ [(V.ref p89)])) List.mem_cons_self h27
        replace h83 := rep_put (o := .lst (vs95 ++ [(V.ref p89)])) mu82.im h83
        replace h92 := rep_put (o := .lst (vs95 ++ [(V.ref p89)])) mu82.im h92
        replace hp := at_put (o := .lst (vs95 ++ [(V.ref p89)])) hp mu82
        replace hW := wd_put (o := .lst (vs95 ++ [(V.ref p89)])) hW mu82
        replace mu82 := mk98
        generalize upd H94 L14 (.lst (vs95 ++ [(V.ref p89)])) = H99 at *
        replace mu82 : MutO (L14 :: ms) [] H_0 H99 L14 (D.lst ((ys17 ++ [ys84]).map (fun y_ : (List (Int × Int)) => (D.lst (y_.map (fun y_ : (Int × Int) => (D.tup [(D.v (V.int y_.1)), (D.v (V.int y_.2))]))))))) := mu82
        clear mk98
        exact hN22 ys84 _ hM ⟨hW, hk19, mu82, by rw [List.length_append]; exact Nat.add_le_add_right ln21 1, hp⟩
    · skip
      rintro n16 ys100 H101 hM ⟨hW, hk19, mu20, ln21, hp⟩
      replace h_rounds := rep_keep hk19 (rep_new nl15 h_rounds)
      clear hk19 ln21
      have h102 := mo_rep_dr dr_here nm29 mu20
      replace hW := wd_dr dr_here mu20.hp hW
      replace h_rounds := rep_dr dr_here h_rounds
      clear mu20
      refine ⟨_, rfl, p_, A.c_Table, dx_, _, rfl, hp, T.cl_Table, T.na_Table__rounds, (by first | decide | simp), ?_⟩
      have z103 : putF ("_rounds" : Str) ((V.ref L14)) (List.zip ([] : List Str) ([] : List V)) = List.zip [("_rounds" : Str)] [(V.ref L14)] := putF_zip (ns := ([] : List Str)) (us := ([] : List V)) rfl (nin_of (by decide +kernel))
      replace h102 := rep_put (o := .ins A.c_Table dx_ (putF ("_rounds" : Str) ((V.ref L14)) (List.zip ([] : List Str) ([] : List V)))) (sb _ pm_) h102
      replace hK := ki_put (o := .ins A.c_Table dx_ (putF ("_rounds" : Str) ((V.ref L14)) (List.zip ([] : List Str) ([] : List V)))) hK hW
      replace hW := wd_at (p := p_) (o := .ins A.c_Table dx_ (putF ("_rounds" : Str) ((V.ref L14)) (List.zip ([] : List Str) ([] : List V)))) hW
      replace hp : upd H101 p_ (.ins A.c_Table dx_ (putF ("_rounds" : Str) ((V.ref L14)) (List.zip ([] : List Str) ([] : List V)))) p_ = some (.ins A.c_Table dx_ (putF ("_rounds" : Str) ((V.ref L14)) (List.zip ([] : List Str) ([] : List V)))) := upd_same
      generalize upd H101 p_ (.ins A.c_Table dx_ (putF ("_rounds" : Str) ((V.ref L14)) (List.zip ([] : List Str) ([] : List V)))) = H104 at *
      rw [z103] at hp
      exact hQ ys100 [(V.ref L14)] _ hM (ki_wd hK hW) hp rfl (repL_cons h102 repL_nil)
theorem make_Table_initB {ms m2 : List Addr} {ps : List PEn} {cs : List (Addr × List V)} {H0 H : Hp} {A : Ad} {v_rounds : V} {x_rounds : (Bool × List (Bool × List (Int × Int)))} {KM : (List (List (Int × Int))) → Prop} {Q : Addr → Hp → Prop} {E : XK} (hW : Wd ms ps cs H0 H) (sb : ∀ a ∈ m2, a ∈ ms) (h_rounds : rep m2 H (eSq (fun y_ : (Bool × List (Int × Int)) => (eSq (fun y_ : (Int × Int) => (D.tup [(D.v (V.int y_.1)), (D.v (V.int y_.2))])) y_)) x_rounds) v_rounds) (hM : M_Table_init x_rounds KM)
    (k : ∀ (x : Addr) (H1 : Hp) (r : (List (List (Int × Int)))), KM r → Rx.Ext H H1 → rep ms H1 (eTable A r) (.ref x) → Q x H1) :
    ∀ x dx, H x = none → H dx = none → dx ≠ x → sp_Table_initB A (.ref x :: ([v_rounds] ++ [])) (upd (upd H dx (.own x)) x (.ins A.c_Table dx [])) (fun v H2 => v = .non ∧ Q x H2) E := by
  intro x dx nx ndx ne
  exact ⟨x :: ms, x :: m2, x, dx, v_rounds, x_rounds, KM, rfl, wd_new hW nx ndx, (fun a h => (List.mem_cons.mp h).elim (fun z => by rw [z]; exact List.mem_cons_self) fun z => List.mem_cons_of_mem _ (sb a z)), List.mem_cons_self, upd_same, mem_new nx h_rounds ndx, hM, fun r us H1 hr hK hp hl hu => ⟨rfl, k x H1 r hr (ext_new hK nx ndx) (rep_insW hW nx hp hl hu)⟩⟩
/-! ### what is passed or told is emptied: its own lists alone are others behind it -/
def M_empty (x : Bool × List (Bool × List (Int × Int))) (KM : Unit → Prop) : Prop := KM ()
def sp_empty (A : Ad) : Sp := fun vs H Q _ => ∃ (v : V) (As : List Addr), vs = [v] ∧ Own2 H v As ∧ ∀ H1, Emp As H H1 → Q .non H1
theorem emp_refl {As : List Addr} {H : Hp} {v : V} (o : Own2 H v As) : Emp As H H := ⟨fun _ _ => rfl, o.lst⟩
theorem emp_clear {As : List Addr} {H H' : Hp} {b : Addr} (m : b ∈ As) (e : Emp As H H') : Emp As H (upd H' b (.lst [])) := by
  refine ⟨fun c n => ?_, fun a h => ?_⟩
  · rw [upd_ne fun z => n (by rw [z]; exact m)]
    exact e.out c n
  · by_cases c : a = b
    · rw [c]
      exact ⟨[], upd_same⟩
    · rw [upd_ne c]
      exact e.lst a h
theorem own_no {As : List Addr} {H : Hp} {v : V} {b : Addr} {ws : List V} (o : Own2 H v As) (h : H b = some (.tup ws)) : b ∉ As := fun m => by
  obtain ⟨xs, k⟩ := o.lst b m
  rw [k] at h
  cases h
set_option maxHeartbeats 16000000 in
theorem ok_empty {P : Program} {w : World} {K : PySem.W.Frag} {mg : Str → Option Value} {base : Heap} {A : Ad} (T : Txt w K mg A) : FnOk P w K mg base CX0 1 A.a_empty A.d_empty ["_law_some"] (sp_empty A) := by
  refine T.F_empty.ok sc_empty (fun vs H Q E h => ?_) (fun cdv A_ outer s_ H_0 vs Q E hr h => ?_)
  · obtain ⟨v, As, rfl, _⟩ := h
    rfl
  · obtain ⟨v, As, rfl, own, hQ⟩ := h
    obtain ⟨p, us, rfl, hp, hi⟩ := own.at_
    refine ⟨_, pss_cons (ps_for PassesOwn.never rfl (pi_seqK (K := K) rfl (pv 0)) (pg_name (i := 1) sc_empty.nd rfl (by first | exact Or.inl rfl | exact Or.inr rfl)) (pss_one (ps_if (pt_val (pe_callB (call_isiK (K := K) rfl) (by rfl) T.z_isinstance (by decide +kernel) (pa_cons (pv 1) (pa_cons (pe_bltn (v := .ty "list") (by rfl) T.z_list (by decide +kernel) rfl) pa_nil)))) (pss_one (ps_expr (pe_bmN (K := K) rfl PySem.F.plainAttrs_list PySem.F.slot_list_clear PySem.F.type_list_clear mt_clearO (pv 1)))) pss_nil)))
      (pss_one (ps_if (pt_val (pe_callB (call_isiK (K := K) rfl) (by rfl) T.z_isinstance (by decide +kernel) (pa_cons (pv 0) (pa_cons (pe_bltn (v := .ty "list") (by rfl) T.z_list (by decide +kernel) rfl) pa_nil)))) (pss_one (ps_expr (pe_bmN (K := K) rfl PySem.F.plainAttrs_list PySem.F.slot_list_clear PySem.F.type_list_clear mt_clearO (pv 0)))) pss_nil)), ?_⟩
    have e0 := emp_refl own
    have turn : ∀ (i : Nat) (x : V) (σ : L2.St) (H' : Hp) (Nx : L2.St → Hp → Prop), us[i]? = some x → (∃ w, σ = [some (.ref p), w] ∧ Emp As H_0 H' ∧ H' p = H_0 p) → (∀ σ' H2, (∃ w, σ' = [some (.ref p), w] ∧ Emp As H_0 H2 ∧ H2 p = H_0 p) → Nx σ' H2) →
        ∃ b, x = .ref b ∧ ((b ∈ As ∧ ∃ ws, H' b = some (.lst ws) ∧ Nx [some (.ref p), some (.ref b)] (upd H' b (.lst []))) ∨ ∃ ws, H' b = some (.tup ws) ∧ Nx [some (.ref p), some (.ref b)] H') := by
      rintro i x σ H' Nx hx ⟨w, rfl, e, hp'⟩ k
      obtain ⟨b, rfl, ne, hb⟩ := hi x (List.mem_of_getElem? hx)
      refine ⟨b, rfl, ?_⟩
      rcases hb with ⟨m, ws, hb⟩ | ⟨ws, hb⟩
      · obtain ⟨xs, hx'⟩ := e.lst b m
        exact .inl ⟨m, xs, hx', k _ _ ⟨_, rfl, emp_clear m e, by rw [upd_ne ne.symm]; exact hp'⟩⟩
      · exact .inr ⟨ws, by rw [e.out b (own_no own hb)]; exact hb, k _ _ ⟨_, rfl, e, hp'⟩⟩
    rcases hp with ⟨pm, hp⟩ | hp
    · refine ⟨_, rfl, p, rfl, Itl K p, .inl ⟨rfl, us, .inl (.inl hp)⟩, ?_⟩
      refine for_list (xs := us) (fun _ σ H' => ∃ w, σ = [some (.ref p), w] ∧ Emp As H_0 H' ∧ H' p = H_0 p) ⟨_, rfl, e0, rfl⟩ (fun i σ H' _ z => ?_) (fun i x σ H' hx z => ?_) (fun σ H' z => ?_)
      · obtain ⟨w, _, _, z⟩ := z
        exact .inl (.inl (z.trans hp))
      · have zz := z
        obtain ⟨w, rfl, e, hp'⟩ := z
        obtain ⟨b, rfl, hb⟩ := turn i x _ H' _ hx zz fun _ _ h => h
        refine ⟨_, rfl, ?_⟩
        rcases hb with ⟨m, ws, hb, k⟩ | ⟨ws, hb, k⟩
        · refine ⟨_, _, _, _, true, rfl, .ty _, .base (.lst hb), kit_ty (by decide +kernel), ?_⟩
          refine ⟨_, rfl, ?_⟩
          refine iteT ?_
          refine ⟨_, rfl, .inl ⟨rfl, ws, .inl (.inl hb)⟩, _, _, rfl, rfl, hb, k⟩
        · refine ⟨_, _, _, _, false, rfl, .ty _, .base (.tup hb), kit_ty (by decide +kernel), ?_⟩
          refine ⟨_, rfl, ?_⟩
          exact iteF k
      · obtain ⟨w, rfl, e, hp'⟩ := z
        refine ⟨_, rfl, ?_⟩
        refine ⟨_, _, _, _, true, rfl, .ty _, .base (.lst (hp'.trans hp)), kit_ty (by decide +kernel), ?_⟩
        refine ⟨_, rfl, ?_⟩
        refine iteT ?_
        exact ⟨_, rfl, .inl ⟨rfl, us, .inl (.inl (hp'.trans hp))⟩, _, _, rfl, rfl, hp'.trans hp, hQ _ (emp_clear pm e)⟩
    · refine ⟨_, rfl, p, rfl, Itt K p, .inr ⟨rfl, us, .inl (.inl hp)⟩, ?_⟩
      refine for_tup (xs := us) (fun _ σ H' => ∃ w, σ = [some (.ref p), w] ∧ Emp As H_0 H' ∧ H' p = H_0 p) ⟨_, rfl, e0, rfl⟩ (fun i σ H' _ z => ?_) (fun i x σ H' hx z => ?_) (fun σ H' z => ?_)
      · obtain ⟨w, _, _, z⟩ := z
        exact .inl (.inl (z.trans hp))
      · have zz := z
        obtain ⟨w, rfl, e, hp'⟩ := z
        obtain ⟨b, rfl, hb⟩ := turn i x _ H' _ hx zz fun _ _ h => h
        refine ⟨_, rfl, ?_⟩
        rcases hb with ⟨m, ws, hb, k⟩ | ⟨ws, hb, k⟩
        · refine ⟨_, _, _, _, true, rfl, .ty _, .base (.lst hb), kit_ty (by decide +kernel), ?_⟩
          refine ⟨_, rfl, ?_⟩
          refine iteT ?_
          refine ⟨_, rfl, .inl ⟨rfl, ws, .inl (.inl hb)⟩, _, _, rfl, rfl, hb, k⟩
        · refine ⟨_, _, _, _, false, rfl, .ty _, .base (.tup hb), kit_ty (by decide +kernel), ?_⟩
          refine ⟨_, rfl, ?_⟩
          exact iteF k
      · obtain ⟨w, rfl, e, hp'⟩ := z
        refine ⟨_, rfl, ?_⟩
        refine ⟨_, _, _, _, false, rfl, .ty _, .base (.tup (hp'.trans hp)), kit_ty (by decide +kernel), ?_⟩
        refine ⟨_, rfl, ?_⟩
        exact iteF (hQ _ e)

def M_Table_size (x_self : (List (List (Int × Int)))) (KM : Int → Prop) : Prop :=
  (0 ≤ (0 : Int) ∧ ∃ g4 : Int.toNat (0 : Int) < x_self.length, ∀ x6, x6 = x_self[Int.toNat (0 : Int)]'g4 → (KM ((2 : Int) * (x6.length : Int))))
def sp_Table_size (A : Ad) : Sp := fun vs H Q _ => ∃ (ms : List Addr) (v_self : V) (x_self : (List (List (Int × Int)))) (KM : Int → Prop), vs = [v_self] ∧ Wd ms [] [] H H ∧ rep ms H (eTable A x_self) v_self ∧ M_Table_size x_self KM ∧ ∀ (r : Int) (u : V) (H1 : Hp), KM r → Ret [] H H1 → rep ms H1 (D.v (V.int r)) u → Q u H1
set_option maxHeartbeats 16000000 in
theorem ok_Table_size {P : Program} {w : World} {K : PySem.W.Frag} {mg : Str → Option Value} {base : Heap} {A : Ad} (T : Txt w K mg A) : FnOk P w K mg base CX0 1 A.a_Table_size A.d_Table_size ["self"] (sp_Table_size A) := by
  refine T.F_Table_size.ok sc_Table_size (fun vs H Q E h => ?_) (fun cdv A_ outer s_ H_0 vs Q E hr h => ?_)
  · obtain ⟨ms, v_self, x_self, KM, rfl, _⟩ := h
    rfl
  · obtain ⟨ms, v_self, x_self, KM, rfl, hW, h_self, hM, hQ⟩ := h
    unfold M_Table_size at hM
    refine ⟨_, (pss_one (ps_ret (pe_op op_mul pe_int (pe_callB (call_lenK (K := K) rfl) (by rfl) T.z_len PySem.boot_len (pa_cons (pe_ix (ix_listK (K := K) rfl) (pe_fld (pv 0) rfl) pe_int (fun _ _ => rfl)) pa_nil))))), ?_⟩
    refine ⟨_, rfl, ?_⟩
    apply rep_fld (j := 0) h_self T.cl_Table T.na_Table__rounds nd_Table rfl rfl
    intro u2 h1
    obtain ⟨g3, g4, hM⟩ := hM
    apply rep_ixL (e := (fun y_ : (List (Int × Int)) => (D.lst (y_.map (fun y_ : (Int × Int) => (D.tup [(D.v (V.int y_.1)), (D.v (V.int y_.2))])))))) (xs := x_self) h1 g3 g4
    intro u7 h5
    obtain ⟨x6, x6e⟩ : ∃ x_, x_ = x_self[Int.toNat (0 : Int)]'g4 := ⟨_, rfl⟩
    rw [← x6e] at h5
    replace hM := hM x6 x6e
    apply rep_lenL (e := (fun y_ : (Int × Int) => (D.tup [(D.v (V.int y_.1)), (D.v (V.int y_.2))]))) (xs := x6) h5
    refine ⟨_, _, rfl, rfl, .inl ⟨by decide, by decide⟩, ?_⟩
    exact hQ ((2 : Int) * (x6.length : Int)) _ _ hM hW.out rep_v
def M_Table_len (x_self : (List (List (Int × Int)))) (KM : Int → Prop) : Prop :=
  (KM (x_self.length : Int))
def sp_Table_len (A : Ad) : Sp := fun vs H Q _ => ∃ (ms : List Addr) (v_self : V) (x_self : (List (List (Int × Int)))) (KM : Int → Prop), vs = [v_self] ∧ Wd ms [] [] H H ∧ rep ms H (eTable A x_self) v_self ∧ M_Table_len x_self KM ∧ ∀ (r : Int) (u : V) (H1 : Hp), KM r → Ret [] H H1 → rep ms H1 (D.v (V.int r)) u → Q u H1
set_option maxHeartbeats 16000000 in
theorem ok_Table_len {P : Program} {w : World} {K : PySem.W.Frag} {mg : Str → Option Value} {base : Heap} {A : Ad} (T : Txt w K mg A) : FnOk P w K mg base CX0 1 A.a_Table_len A.d_Table_len ["self"] (sp_Table_len A) := by
  refine T.F_Table_len.ok sc_Table_len (fun vs H Q E h => ?_) (fun cdv A_ outer s_ H_0 vs Q E hr h => ?_)
  · obtain ⟨ms, v_self, x_self, KM, rfl, _⟩ := h
    rfl
  · obtain ⟨ms, v_self, x_self, KM, rfl, hW, h_self, hM, hQ⟩ := h
    unfold M_Table_len at hM
    refine ⟨_, (pss_one (ps_ret (pe_callB (call_lenK (K := K) rfl) (by rfl) T.z_len PySem.boot_len (pa_cons (pe_fld (pv 0) rfl) pa_nil)))), ?_⟩
    refine ⟨_, rfl, ?_⟩
    apply rep_fld (j := 0) h_self T.cl_Table T.na_Table__rounds nd_Table rfl rfl
    intro u2 h1
    apply rep_lenL (e := (fun y_ : (List (Int × Int)) => (D.lst (y_.map (fun y_ : (Int × Int) => (D.tup [(D.v (V.int y_.1)), (D.v (V.int y_.2))])))))) (xs := x_self) h1
    exact hQ (x_self.length : Int) _ _ hM hW.out rep_v
def M_Table_rounds (x_self : (List (List (Int × Int)))) (KM : (List (List (Int × Int))) → Prop) : Prop :=
  (x_self.length < 100000 ∧ mapC (fun (x19 : (List (Int × Int))) (k12 : (List (Int × Int)) → Prop) => (k12 x19)) x_self [] fun ys39 => (KM ys39))
def sp_Table_rounds (A : Ad) : Sp := fun vs H Q _ => ∃ (ms : List Addr) (v_self : V) (x_self : (List (List (Int × Int)))) (KM : (List (List (Int × Int))) → Prop), vs = [v_self] ∧ Wd ms [] [] H H ∧ rep ms H (eTable A x_self) v_self ∧ M_Table_rounds x_self KM ∧ ∀ (r : (List (List (Int × Int)))) (u : V) (H1 : Hp), KM r → Ret [] H H1 → rep ms H1 (D.lst (r.map (fun y_ : (List (Int × Int)) => (D.lst (y_.map (fun y_ : (Int × Int) => (D.tup [(D.v (V.int y_.1)), (D.v (V.int y_.2))]))))))) u → Q u H1
set_option maxHeartbeats 16000000 in
theorem ok_Table_rounds {P : Program} {w : World} {K : PySem.W.Frag} {mg : Str → Option Value} {base : Heap} {A : Ad} (T : Txt w K mg A) : FnOk P w K mg base CX0 1 A.a_Table_rounds A.d_Table_rounds ["self"] (sp_Table_rounds A) := by
  refine T.F_Table_rounds.ok sc_Table_rounds (fun vs H Q E h => ?_) (fun cdv A_ outer s_ H_0 vs Q E hr h => ?_)
  · obtain ⟨ms, v_self, x_self, KM, rfl, _⟩ := h
    rfl
  · obtain ⟨ms, v_self, x_self, KM, rfl, hW, h_self, hM, hQ⟩ := h
    unfold M_Table_rounds at hM
    refine ⟨_, (pss_one (ps_ret (pe_lc (own := [("meetings", 1)]) (g := gName 1) rfl sc_Table_rounds.nd (pi_list (pe_fld (pv 0) rfl)) (blkOk_by (N := ["self", "meetings"]) (sc := defScope s_Table_rounds) (by decide +kernel)) (fun _ _ _ _ _ => pg_name (i := 1) sc_Table_rounds.nd rfl (by first | exact Or.inl rfl | exact Or.inr rfl)) (fun _ _ _ _ _ => pts_nil) (fun _ _ _ _ _ => (pe_callTy (call_list_ofK (K := K) rfl) (by rfl) T.z_list (by decide +kernel) (pa_cons (pv 1) pa_nil)))))), ?_⟩
    refine ⟨_, rfl, ?_⟩
    apply rep_fld (j := 0) h_self T.cl_Table T.na_Table__rounds nd_Table rfl rfl
    intro u2 h1
    apply rep_iter h1
    intro a3 xs4 _ an5 hp6 hl7
    refine fun L8 nl9 => ?_
    have nm23 := nm_new hW nl9
    refine lc_listG (L := L8) (fun n_ ys_ h_ => Wd (L8 :: ms) [] [] H_0 h_ ∧ Keep (L8 :: ms) H_0 h_ ∧ MutO (L8 :: ms) [] H_0 h_ L8 (D.lst (ys_.map (fun y_ : (List (Int × Int)) => (D.lst (y_.map (fun y_ : (Int × Int) => (D.tup [(D.v (V.int y_.1)), (D.v (V.int y_.2))]))))))) ∧ ys_.length ≤ n_) (items := x_self) (e := (fun y_ : (List (Int × Int)) => (D.lst (y_.map (fun y_ : (Int × Int) => (D.tup [(D.v (V.int y_.1)), (D.v (V.int y_.2))])))))) an5 hp6 hl7 nl9 (fun _ _ _ q_ => q_.2.1) hM ⟨wd_cell hW nl9, keep_cell nl9 Keep.refl, mo_newL (ds := []) hW nl9 repL_nil, Nat.le_refl _⟩ ?_ ?_
    · skip
      rintro x19 u20 n10 ys11 k12 H24 hn ⟨hW, hk13, mu14, ln15⟩ h21 hM Nx18 hN16
      replace h_self := rep_keep hk13 (rep_new nl9 h_self)
      replace h1 := rep_keep hk13 (rep_new nl9 h1)
      refine ⟨rfl, ?_⟩
      refine tyes_of ?_
      refine ⟨_, rfl, ?_⟩
      apply rep_listL h21
      intro ys25 hr26
      intro p27 n28
      have e29 := Rx.Ext.new (H := H24) (o := (HO.lst ys25)) n28
      have hp30 : upd H24 p27 (HO.lst ys25) p27 = some (HO.lst ys25) := upd_same
      generalize upd H24 p27 (HO.lst ys25) = H33 at e29 hp30 ⊢
      have h31 : rep (L8 :: ms) H33 (D.lst (x19.map (fun y_ : (Int × Int) => (D.tup [(D.v (V.int y_.1)), (D.v (V.int y_.2))])))) (.ref p27) := rep_lst_mk hW n28 e29 hp30 hr26
      replace h_self := rep_ext e29 h_self
      replace h1 := rep_ext e29 h1
      replace hk13 := keep_ext e29 hk13
      replace h21 := rep_ext e29 h21
      replace mu14 := mo_ext e29 mu14
      replace hW := hW.ret0 e29
      refine mo_end mu14 hn (by rw [List.length_map]; exact ln15) fun vs34 hr35 => ?_
      have mk37 := mo_setL mu14 (repL_snoc (e := (fun y_ : (List (Int × Int)) => (D.lst (y_.map (fun y_ : (Int × Int) => (D.tup [(D.v (V.int y_.1)), (D.v (V.int y_.2))])))))) (xs := ys11) (y := x19) hr35 h31)
      replace h_self := rep_put (o := .lst (vs34 ++ [(V.ref p27)])) mu14.im h_self
      replace h1 := rep_put (o := .lst (vs34 ++ [(V.ref p27)])) mu14.im h1
      replace hk13 := keep_put (o := .lst (vs34 ++ [(V.ref p27)])) mu14.im hk13
      replace h21 := rep_put (o := .lst (vs34 ++ [(V.ref p27)])) mu14.im h21
      replace h31 := rep_put (o := .lst (vs34 ++ [(V.ref p27)])) mu14.im h31
      replace hW := wd_put (o := .lst (vs34 ++ [(V.ref p27)])) hW mu14
      replace mu14 := mk37
      generalize upd H33 L8 (.lst (vs34 ++ [(V.ref p27)])) = H38 at *
      replace mu14 : MutO (L8 :: ms) [] H_0 H38 L8 (D.lst ((ys11 ++ [x19]).map (fun y_ : (List (Int × Int)) => (D.lst (y_.map (fun y_ : (Int × Int) => (D.tup [(D.v (V.int y_.1)), (D.v (V.int y_.2))]))))))) := mu14
      clear mk37
      exact hN16 x19 _ hM ⟨hW, hk13, mu14, by rw [List.length_append]; exact Nat.add_le_add_right ln15 1⟩
    · skip
      rintro n10 ys39 H40 hM ⟨hW, hk13, mu14, ln15⟩
      replace h_self := rep_keep hk13 (rep_new nl9 h_self)
      replace h1 := rep_keep hk13 (rep_new nl9 h1)
      clear hk13 ln15
      have h41 := mo_rep_dr dr_here nm23 mu14
      replace hW := wd_dr dr_here mu14.hp hW
      replace h_self := rep_dr dr_here h_self
      replace h1 := rep_dr dr_here h1
      clear mu14
      exact hQ ys39 _ _ hM hW.out h41
def sp_Table_roundsB (A : Ad) : Sp := fun vs H Q _ => ∃ (ms : List Addr) (v_self : V) (x_self : (List (List (Int × Int)))) (KM : (List (List (Int × Int))) → Prop), vs = [v_self] ∧ Wd ms [] [] H H ∧ rep ms H (eTable A x_self) v_self ∧ M_Table_rounds x_self KM ∧ ∀ (r : (List (List (Int × Int)))) (u : V) (H1 : Hp), KM r → Ret [] H H1 → rep ms H1 (D.lst (r.map (fun y_ : (List (Int × Int)) => (D.lst (y_.map (fun y_ : (Int × Int) => (D.tup [(D.v (V.int y_.1)), (D.v (V.int y_.2))]))))))) u → Fr2 H H1 u → Q u H1
set_option maxHeartbeats 16000000 in
theorem ok_Table_roundsB {P : Program} {w : World} {K : PySem.W.Frag} {mg : Str → Option Value} {base : Heap} {A : Ad} (T : Txt w K mg A) : FnOk P w K mg base CX0 1 A.a_Table_rounds A.d_Table_rounds ["self"] (sp_Table_roundsB A) := by
  refine T.F_Table_rounds.ok sc_Table_rounds (fun vs H Q E h => ?_) (fun cdv A_ outer s_ H_0 vs Q E hr h => ?_)
  · obtain ⟨ms, v_self, x_self, KM, rfl, _⟩ := h
    rfl
  · obtain ⟨ms, v_self, x_self, KM, rfl, hW, h_self, hM, hQ⟩ := h
    unfold M_Table_rounds at hM
    refine ⟨_, (pss_one (ps_ret (pe_lc (own := [("meetings", 1)]) (g := gName 1) rfl sc_Table_rounds.nd (pi_list (pe_fld (pv 0) rfl)) (blkOk_by (N := ["self", "meetings"]) (sc := defScope s_Table_rounds) (by decide +kernel)) (fun _ _ _ _ _ => pg_name (i := 1) sc_Table_rounds.nd rfl (by first | exact Or.inl rfl | exact Or.inr rfl)) (fun _ _ _ _ _ => pts_nil) (fun _ _ _ _ _ => (pe_callTy (call_list_ofK (K := K) rfl) (by rfl) T.z_list (by decide +kernel) (pa_cons (pv 1) pa_nil)))))), ?_⟩
    refine ⟨_, rfl, ?_⟩
    apply rep_fld (j := 0) h_self T.cl_Table T.na_Table__rounds nd_Table rfl rfl
    intro u2 h1
    apply rep_iter h1
    intro a3 xs4 _ an5 hp6 hl7
    refine fun L8 nl9 => ?_
    have nm23 := nm_new hW nl9
    refine lc_listG (L := L8) (fun n_ ys_ h_ => Wd (L8 :: ms) [] [] H_0 h_ ∧ Keep (L8 :: ms) H_0 h_ ∧ MutO (L8 :: ms) [] H_0 h_ L8 (D.lst (ys_.map (fun y_ : (List (Int × Int)) => (D.lst (y_.map (fun y_ : (Int × Int) => (D.tup [(D.v (V.int y_.1)), (D.v (V.int y_.2))]))))))) ∧ ys_.length ≤ n_ ∧ FrL H_0 h_ L8) (items := x_self) (e := (fun y_ : (List (Int × Int)) => (D.lst (y_.map (fun y_ : (Int × Int) => (D.tup [(D.v (V.int y_.1)), (D.v (V.int y_.2))])))))) an5 hp6 hl7 nl9 (fun _ _ _ q_ => q_.2.1) hM ⟨wd_cell hW nl9, keep_cell nl9 Keep.refl, mo_newL (ds := []) hW nl9 repL_nil, Nat.le_refl _, frl_nil⟩ ?_ ?_
    · skip
      rintro x19 u20 n10 ys11 k12 H24 hn ⟨hW, hk13, mu14, ln15, fr0⟩ h21 hM Nx18 hN16
      replace h_self := rep_keep hk13 (rep_new nl9 h_self)
      replace h1 := rep_keep hk13 (rep_new nl9 h1)
      refine ⟨rfl, ?_⟩
      refine tyes_of ?_
      refine ⟨_, rfl, ?_⟩
      apply rep_listL h21
      intro ys25 hr26
      intro p27 n28
      have z9 := none0 hW n28
      have ne9 : p27 ≠ L8 := fun z => mo_ne n28 mu14 z.symm
      have e29 := Rx.Ext.new (H := H24) (o := (HO.lst ys25)) n28
      have hp30 : upd H24 p27 (HO.lst ys25) p27 = some (HO.lst ys25) := upd_same
      generalize upd H24 p27 (HO.lst ys25) = H33 at e29 hp30 ⊢
      have h31 : rep (L8 :: ms) H33 (D.lst (x19.map (fun y_ : (Int × Int) => (D.tup [(D.v (V.int y_.1)), (D.v (V.int y_.2))])))) (.ref p27) := rep_lst_mk hW n28 e29 hp30 hr26
      replace h_self := rep_ext e29 h_self
      replace h1 := rep_ext e29 h1
      replace hk13 := keep_ext e29 hk13
      replace h21 := rep_ext e29 h21
      replace mu14 := mo_ext e29 mu14
      replace fr0 := frl_ext e29 fr0
      replace hW := hW.ret0 e29
      refine mo_endE mu14 hn (by rw [List.length_map]; exact ln15) fun vs34 hv9 hr35 => ?_
      replace fr0 := frl_snoc hv9 fr0 (fr1_lst ne9 z9 hp30)
      clear hv9
      have mk37 := mo_setL mu14 (repL_snoc (e := (fun y_ : (List (Int × Int)) => (D.lst (y_.map (fun y_ : (Int × Int) => (D.tup [(D.v (V.int y_.1)), (D.v (V.int y_.2))])))))) (xs := ys11) (y := x19) hr35 h31)
      replace h_self := rep_put (o := .lst (vs34 ++ [(V.ref p27)])) mu14.im h_self
      replace h1 := rep_put (o := .lst (vs34 ++ [(V.ref p27)])) mu14.im h1
      replace hk13 := keep_put (o := .lst (vs34 ++ [(V.ref p27)])) mu14.im hk13
      replace h21 := rep_put (o := .lst (vs34 ++ [(V.ref p27)])) mu14.im h21
      replace h31 := rep_put (o := .lst (vs34 ++ [(V.ref p27)])) mu14.im h31
      replace hW := wd_put (o := .lst (vs34 ++ [(V.ref p27)])) hW mu14
      replace mu14 := mk37
      generalize upd H33 L8 (.lst (vs34 ++ [(V.ref p27)])) = H38 at *
      replace mu14 : MutO (L8 :: ms) [] H_0 H38 L8 (D.lst ((ys11 ++ [x19]).map (fun y_ : (List (Int × Int)) => (D.lst (y_.map (fun y_ : (Int × Int) => (D.tup [(D.v (V.int y_.1)), (D.v (V.int y_.2))]))))))) := mu14
      clear mk37
      exact hN16 x19 _ hM ⟨hW, hk13, mu14, by rw [List.length_append]; exact Nat.add_le_add_right ln15 1, fr0⟩
    · skip
      rintro n10 ys39 H40 hM ⟨hW, hk13, mu14, ln15, fr0⟩
      have z0 := mu14.h0
      replace h_self := rep_keep hk13 (rep_new nl9 h_self)
      replace h1 := rep_keep hk13 (rep_new nl9 h1)
      clear hk13 ln15
      have h41 := mo_rep_dr dr_here nm23 mu14
      replace hW := wd_dr dr_here mu14.hp hW
      replace h_self := rep_dr dr_here h_self
      replace h1 := rep_dr dr_here h1
      clear mu14
      exact hQ ys39 _ _ hM hW.out h41 (frl_fr2 z0 fr0)
def M_is_count (x_value : Int) (KM : Bool → Prop) : Prop :=
  (M_is_integer x_value fun r1 => (if r1 = true then (KM (decide ((0 : Int) ≤ x_value))) else (KM false)))
def sp_is_count (A : Ad) : Sp := fun vs H Q _ => ∃ (ms : List Addr) (x_value : Int) (KM : Bool → Prop), vs = [V.int x_value] ∧ Wd ms [] [] H H ∧ M_is_count x_value KM ∧ ∀ (r : Bool) (u : V) (H1 : Hp), KM r → Ret [] H H1 → rep ms H1 (D.v (V.bl r)) u → Q u H1
set_option maxHeartbeats 16000000 in
theorem ok_is_count {P : Program} {w : World} {K : PySem.W.Frag} {mg : Str → Option Value} {base : Heap} {A : Ad} (T : Txt w K mg A) : FnOk P w K mg base CX0 2 A.a_is_count A.d_is_count ["value"] (sp_is_count A) := by
  refine T.F_is_count.ok sc_is_count (fun vs H Q E h => ?_) (fun cdv A_ outer s_ H_0 vs Q E hr h => ?_)
  · obtain ⟨ms, x_value, KM, rfl, _⟩ := h
    rfl
  · obtain ⟨ms, x_value, KM, rfl, hW, hM, hQ⟩ := h
    unfold M_is_count at hM
    refine ⟨_, (pss_one (ps_ret (pe_and (pe_call (ok_is_integer T) (hr.mono (by decide)) (by rfl) T.g_is_integer T.F_is_integer.kp T.b_is_integer .nil pass0 (pa_cons (pv 0) pa_nil)) (pe_one (pe_cmpR op_ge (pv 0) pe_int (nomark _)))))), ?_⟩
    refine ⟨_, rfl, ?_⟩
    refine ⟨ms, x_value, _, rfl, hW.enter0, hM, fun r1 u4 H5 hM e3 h2 => ?_⟩
    replace hW := hW.ret0 e3
    obtain rfl := of_v h2
    refine ⟨_, rfl, ?_⟩
    refine ite3 hM (fun hM => ?_) (fun hM => ?_)
    · skip
      refine ⟨_, rfl, ?_⟩
      refine ⟨_, _, rfl, rfl, ?_⟩
      exact hQ (decide ((0 : Int) ≤ x_value)) _ _ hM hW.out rep_v
    · skip
      exact hQ false _ _ hM hW.out rep_v
def M_check_day (x_day : Int) (x_rounds : Int) (KM : Unit → Prop) : Prop :=
  (M_is_count x_day fun r1 => (if (!r1) = true then False else (if (decide (x_rounds ≤ x_day)) = true then False else (KM ()))))
def sp_check_day (A : Ad) : Sp := fun vs H Q _ => ∃ (ms : List Addr) (x_day : Int) (x_rounds : Int) (KM : Unit → Prop), vs = [V.int x_day, V.int x_rounds] ∧ Wd ms [] [] H H ∧ M_check_day x_day x_rounds KM ∧ ∀ (r : Unit) (u : V) (H1 : Hp), KM r → Ret [] H H1 → rep ms H1 (D.v V.non) u → Q u H1
set_option maxHeartbeats 16000000 in
theorem ok_check_day {P : Program} {w : World} {K : PySem.W.Frag} {mg : Str → Option Value} {base : Heap} {A : Ad} (T : Txt w K mg A) : FnOk P w K mg base CX0 3 A.a_check_day A.d_check_day ["day", "rounds"] (sp_check_day A) := by
  refine T.F_check_day.ok sc_check_day (fun vs H Q E h => ?_) (fun cdv A_ outer s_ H_0 vs Q E hr h => ?_)
  · obtain ⟨ms, x_day, x_rounds, KM, rfl, _⟩ := h
    rfl
  · obtain ⟨ms, x_day, x_rounds, KM, rfl, hW, hM, hQ⟩ := h
    unfold M_check_day at hM
    refine ⟨_, (pss_one (ps_if (PW.pt (pw_or (pt_not (pt_val (pe_call (ok_is_count T) (hr.mono (by decide)) (by rfl) T.g_is_count T.F_is_count.kp T.b_is_count .nil pass0 (pa_cons (pv 0) pa_nil)))) (pw_or1 (pt_cmpR op_ge (pv 0) (pv 1) (nomark _))))) (pss_one ps_never) pss_nil)), ?_⟩
    refine ⟨_, rfl, ?_⟩
    refine ⟨ms, x_day, _, rfl, hW.enter0, hM, fun r1 u4 H5 hM e3 h2 => ?_⟩
    replace hW := hW.ret0 e3
    obtain rfl := of_v h2
    refine ⟨_, rfl, ?_⟩
    refine ite3 hM (fun hM => ?_) (fun hM => ?_)
    · skip
      refine iteT ?_
      exact hM
    · skip
      refine ⟨_, rfl, ?_⟩
      refine ⟨_, rfl, ?_⟩
      refine ⟨_, _, rfl, rfl, ?_⟩
      refine ⟨_, rfl, ?_⟩
      refine ite3 hM (fun hM => ?_) (fun hM => ?_)
      · skip
        exact hM
      · skip
        exact hQ () _ _ hM hW.out rep_v
def M_Table_meetings (x_self : (List (List (Int × Int)))) (x_day : Int) (KM : (List (Int × Int)) → Prop) : Prop :=
  (M_check_day x_day (x_self.length : Int) fun r3 => (0 ≤ x_day ∧ ∃ g11 : Int.toNat x_day < x_self.length, ∀ x13, x13 = x_self[Int.toNat x_day]'g11 → (KM x13)))
def sp_Table_meetings (A : Ad) : Sp := fun vs H Q _ => ∃ (ms : List Addr) (v_self : V) (x_self : (List (List (Int × Int)))) (x_day : Int) (KM : (List (Int × Int)) → Prop), vs = [v_self, V.int x_day] ∧ Wd ms [] [] H H ∧ rep ms H (eTable A x_self) v_self ∧ M_Table_meetings x_self x_day KM ∧ ∀ (r : (List (Int × Int))) (u : V) (H1 : Hp), KM r → Ret [] H H1 → rep ms H1 (D.lst (r.map (fun y_ : (Int × Int) => (D.tup [(D.v (V.int y_.1)), (D.v (V.int y_.2))])))) u → (∀ p_, u = V.ref p_ → H p_ = none) → Q u H1
set_option maxHeartbeats 16000000 in
theorem ok_Table_meetings {P : Program} {w : World} {K : PySem.W.Frag} {mg : Str → Option Value} {base : Heap} {A : Ad} (T : Txt w K mg A) : FnOk P w K mg base CX0 4 A.a_Table_meetings A.d_Table_meetings ["self", "day"] (sp_Table_meetings A) := by
  refine T.F_Table_meetings.ok sc_Table_meetings (fun vs H Q E h => ?_) (fun cdv A_ outer s_ H_0 vs Q E hr h => ?_)
  · obtain ⟨ms, v_self, x_self, x_day, KM, rfl, _⟩ := h
    rfl
  · obtain ⟨ms, v_self, x_self, x_day, KM, rfl, hW, h_self, hM, hQ⟩ := h
    unfold M_Table_meetings at hM
    refine ⟨_, (pss_cons (ps_expr (pe_call (ok_check_day T) (hr.mono (by decide)) (by rfl) T.g_check_day T.F_check_day.kp T.b_check_day .nil pass0 (pa_cons (pv 1) (pa_cons (pe_callB (call_lenK (K := K) rfl) (by rfl) T.z_len PySem.boot_len (pa_cons (pe_fld (pv 0) rfl) pa_nil)) pa_nil)))) (pss_one (ps_ret (pe_callTy (call_list_ofK (K := K) rfl) (by rfl) T.z_list (by decide +kernel) (pa_cons (pe_ix (ix_listK (K := K) rfl) (pe_fld (pv 0) rfl) (pv 1) (fun _ _ => rfl)) pa_nil))))), ?_⟩
    refine ⟨_, rfl, ?_⟩
    refine ⟨_, rfl, ?_⟩
    apply rep_fld (j := 0) h_self T.cl_Table T.na_Table__rounds nd_Table rfl rfl
    intro u2 h1
    apply rep_lenL (e := (fun y_ : (List (Int × Int)) => (D.lst (y_.map (fun y_ : (Int × Int) => (D.tup [(D.v (V.int y_.1)), (D.v (V.int y_.2))])))))) (xs := x_self) h1
    refine ⟨ms, x_day, (x_self.length : Int), _, rfl, hW.enter0, hM, fun r3 u6 H7 hM e5 h4 => ?_⟩
    replace h_self := rep_ext e5 h_self
    replace h1 := rep_ext e5 h1
    replace hW := hW.ret0 e5
    obtain rfl := of_v h4
    refine ⟨_, rfl, ?_⟩
    apply rep_fld (j := 0) h_self T.cl_Table T.na_Table__rounds nd_Table rfl rfl
    intro u9 h8
    refine ⟨_, rfl, ?_⟩
    obtain ⟨g10, g11, hM⟩ := hM
    apply rep_ixL (e := (fun y_ : (List (Int × Int)) => (D.lst (y_.map (fun y_ : (Int × Int) => (D.tup [(D.v (V.int y_.1)), (D.v (V.int y_.2))])))))) (xs := x_self) h8 g10 g11
    intro u14 h12
    obtain ⟨x13, x13e⟩ : ∃ x_, x_ = x_self[Int.toNat x_day]'g11 := ⟨_, rfl⟩
    rw [← x13e] at h12
    replace hM := hM x13 x13e
    apply rep_listL h12
    intro ys15 hr16
    intro p17 n18
    have e19 := Rx.Ext.new (H := H7) (o := (HO.lst ys15)) n18
    have hp20 : upd H7 p17 (HO.lst ys15) p17 = some (HO.lst ys15) := upd_same
    generalize upd H7 p17 (HO.lst ys15) = H23 at e19 hp20 ⊢
    have hfr_ := wd_none hW n18
    have h21 : rep ms H23 (D.lst (x13.map (fun y_ : (Int × Int) => (D.tup [(D.v (V.int y_.1)), (D.v (V.int y_.2))])))) (.ref p17) := rep_lst_mk hW n18 e19 hp20 hr16
    replace h_self := rep_ext e19 h_self
    replace h1 := rep_ext e19 h1
    replace h8 := rep_ext e19 h8
    replace h12 := rep_ext e19 h12
    replace hW := hW.ret0 e19
    exact hQ x13 _ _ hM hW.out h21 (fun _ z_ => by cases z_; exact hfr_)
def M_sorted (x_days_here : (List (List (Int × Int)))) (KM : (List (List (Int × Int))) → Prop) : Prop :=
  (x_days_here.length < 100000 ∧ mapC (fun (x17 : (List (Int × Int))) (k10 : (List (Int × Int)) → Prop) => (x17.length < 100000 ∧ mapC (fun (x39 : (Int × Int)) (k32 : (Int × Int) → Prop) => (k32 (x39.1, x39.2))) x17 [] fun ys69 => (∀ ys73 : List (Int × Int), ys73.Perm ys69 → ys73.Pairwise lePI → (k10 ys73)))) x_days_here [] fun ys89 => (KM ys89))
def sp_sorted (A : Ad) : Sp := fun vs H Q _ => ∃ (ms : List Addr) (v_days_here : V) (x_days_here : (List (List (Int × Int)))) (KM : (List (List (Int × Int))) → Prop), vs = [v_days_here] ∧ Wd ms [] [] H H ∧ rep ms H (D.lst (x_days_here.map (fun y_ : (List (Int × Int)) => (D.lst (y_.map (fun y_ : (Int × Int) => (D.tup [(D.v (V.int y_.1)), (D.v (V.int y_.2))]))))))) v_days_here ∧ M_sorted x_days_here KM ∧ ∀ (r : (List (List (Int × Int)))) (u : V) (H1 : Hp), KM r → Ret [] H H1 → rep ms H1 (D.lst (r.map (fun y_ : (List (Int × Int)) => (D.lst (y_.map (fun y_ : (Int × Int) => (D.tup [(D.v (V.int y_.1)), (D.v (V.int y_.2))]))))))) u → Q u H1
set_option maxHeartbeats 16000000 in
theorem ok_sorted {P : Program} {w : World} {K : PySem.W.Frag} {mg : Str → Option Value} {base : Heap} {A : Ad} (T : Txt w K mg A) : FnOk P w K mg base CX0 1 A.a_sorted A.d_sorted ["_law_days_here"] (sp_sorted A) := by
  refine T.F_sorted.ok sc_sorted (fun vs H Q E h => ?_) (fun cdv A_ outer s_ H_0 vs Q E hr h => ?_)
  · obtain ⟨ms, v_days_here, x_days_here, KM, rfl, _⟩ := h
    rfl
  · obtain ⟨ms, v_days_here, x_days_here, KM, rfl, hW, h_days_here, hM, hQ⟩ := h
    unfold M_sorted at hM
    refine ⟨_, (pss_one (ps_ret (pe_lc (own := [("_law_meets", 1)]) (g := gName 1) rfl sc_sorted.nd (pi_list (pv 0)) (blkOk_by (N := ["_law_days_here", "_law_meets", "_law_home", "_law_away"]) (sc := defScope s_sorted) (by decide +kernel)) (fun _ _ _ _ _ => pg_name (i := 1) sc_sorted.nd rfl (by first | exact Or.inl rfl | exact Or.inr rfl)) (fun _ _ _ _ _ => pts_nil) (fun _ _ _ _ _ => (pe_callB (cr_sortedPK (K := K) rfl) (by rfl) T.z_sorted (by decide +kernel) (pa_cons (pe_lc (own := [("_law_home", 2), ("_law_away", 3)]) (g := (gTup K 2 (gCons (gName 2) (gCons (gName 3) gNil)))) rfl sc_sorted.nd (pi_listK (K := K) rfl (pv 1)) (blkOk_rel (N := ["_law_days_here", "_law_meets", "_law_home", "_law_away"]) rfl (by kernel_rfl)) (fun _ _ _ _ _ => (pg_tup rfl (pgs_cons (pg_name (i := 2) sc_sorted.nd rfl (by first | exact Or.inl rfl | exact Or.inr rfl)) (pgs_cons (pg_name (i := 3) sc_sorted.nd rfl (by first | exact Or.inl rfl | exact Or.inr rfl)) pgs_nil)))) (fun _ _ _ _ _ => pts_nil) (fun _ _ _ _ _ => (pe_tup (pa_cons (pe_callTy call_int1 (by rfl) T.z_int (by decide +kernel) (pa_cons (pv 2) pa_nil)) (pa_cons (pe_callTy call_int1 (by rfl) T.z_int (by decide +kernel) (pa_cons (pv 3) pa_nil)) pa_nil))))) pa_nil)))))), ?_⟩
    refine ⟨_, rfl, ?_⟩
    apply rep_iter h_days_here
    intro a1 xs2 _ an3 hp4 hl5
    refine fun L6 nl7 => ?_
    have nm21 := nm_new hW nl7
    refine lc_listG (L := L6) (fun n_ ys_ h_ => Wd (L6 :: ms) [] [] H_0 h_ ∧ Keep (L6 :: ms) H_0 h_ ∧ MutO (L6 :: ms) [] H_0 h_ L6 (D.lst (ys_.map (fun y_ : (List (Int × Int)) => (D.lst (y_.map (fun y_ : (Int × Int) => (D.tup [(D.v (V.int y_.1)), (D.v (V.int y_.2))]))))))) ∧ ys_.length ≤ n_) (items := x_days_here) (e := (fun y_ : (List (Int × Int)) => (D.lst (y_.map (fun y_ : (Int × Int) => (D.tup [(D.v (V.int y_.1)), (D.v (V.int y_.2))])))))) an3 hp4 hl5 nl7 (fun _ _ _ q_ => q_.2.1) hM ⟨wd_cell hW nl7, keep_cell nl7 Keep.refl, mo_newL (ds := []) hW nl7 repL_nil, Nat.le_refl _⟩ ?_ ?_
    · skip
      rintro x17 u18 n8 ys9 k10 H22 hn ⟨hW, hk11, mu12, ln13⟩ h19 hM Nx16 hN14
      replace h_days_here := rep_keep hk11 (rep_new nl7 h_days_here)
      refine ⟨rfl, ?_⟩
      refine tyes_of ?_
      refine ⟨_, rfl, ?_⟩
      apply rep_iter h19
      intro a23 xs24 _ an25 hp26 hl27
      refine fun L28 nl29 => ?_
      have nm43 := nm_new hW nl29
      have kn44 := keep_none (w := hW) nl29 hk11
      have ne45 := mo_ne nl29 mu12
      refine lc_listG (L := L28) (fun n_ ys_ h_ => Wd (L28 :: (L6 :: ms)) [] [] H_0 h_ ∧ Keep (L28 :: (L6 :: ms)) H22 h_ ∧ MutO (L28 :: (L6 :: ms)) [] H_0 h_ L28 (D.lst (ys_.map (fun y_ : (Int × Int) => (D.tup [(D.v (V.int y_.1)), (D.v (V.int y_.2))])))) ∧ ys_.length ≤ n_ ∧ MutO (L28 :: (L6 :: ms)) [] H_0 h_ L6 (D.lst (ys9.map (fun y_ : (List (Int × Int)) => (D.lst (y_.map (fun y_ : (Int × Int) => (D.tup [(D.v (V.int y_.1)), (D.v (V.int y_.2))])))))))) (items := x17) (e := (fun y_ : (Int × Int) => (D.tup [(D.v (V.int y_.1)), (D.v (V.int y_.2))]))) an25 hp26 hl27 nl29 (fun _ _ _ q_ => q_.2.1) hM ⟨wd_cell hW nl29, keep_cell nl29 Keep.refl, mo_newL (ds := []) hW nl29 repL_nil, Nat.le_refl _, mo_cell nl29 mu12⟩ ?_ ?_
      · skip
        clear mu12
        rintro x39 u40 n30 ys31 k32 H46 hn ⟨hW, hk33, mu34, ln35, mu47⟩ h41 hM Nx38 hN36
        replace h_days_here := rep_keep hk33 (rep_new nl29 h_days_here)
        replace hk11 := Keep.trans (Keep.new hk11) hk33
        replace h19 := rep_keep hk33 (rep_new nl29 h19)
        apply rep_gtup h41 rfl
        intro vs48 hv49
        obtain ⟨u50, us51, rfl, h52, hv53⟩ := repL_uncons hv49
        obtain rfl := of_v h52
        obtain ⟨u54, us55, rfl, h56, hv57⟩ := repL_uncons hv53
        obtain rfl := of_v h56
        obtain rfl := repL_empty hv57
        refine ⟨_, _, rfl, ?_⟩
        refine ⟨_, _, rfl, ?_⟩
        refine ⟨rfl, ?_⟩
        refine ⟨rfl, ?_⟩
        refine tyes_of ?_
        refine ⟨_, rfl, ?_⟩
        refine .inl ⟨_, rfl, ?_⟩
        refine ⟨_, rfl, ?_⟩
        refine .inl ⟨_, rfl, ?_⟩
        refine ⟨(by show 2 ≤ sizeLine; decide), ?_⟩
        intro p58 n62
        have e59 := Rx.Ext.new (H := H46) (o := (HO.tup [V.int x39.1, V.int x39.2])) n62
        have hp60 : upd H46 p58 (HO.tup [V.int x39.1, V.int x39.2]) p58 = some (HO.tup [V.int x39.1, V.int x39.2]) := upd_same
        generalize upd H46 p58 (HO.tup [V.int x39.1, V.int x39.2]) = H63 at e59 hp60 ⊢
        have h61 : rep (L28 :: (L6 :: ms)) H63 (D.tup [(D.v (V.int x39.1)), (D.v (V.int x39.2))]) (.ref p58) := rep_tup_mk hW n62 e59 hp60 (repL_cons rep_v (repL_cons rep_v repL_nil))
        replace h_days_here := rep_ext e59 h_days_here
        replace hk11 := keep_ext e59 hk11
        replace h19 := rep_ext e59 h19
        replace hk33 := keep_ext e59 hk33
        replace h41 := rep_ext e59 h41
        replace mu47 := mo_ext e59 mu47
        replace mu34 := mo_ext e59 mu34
        replace hW := hW.ret0 e59
        refine mo_end mu34 hn (by rw [List.length_map]; exact ln35) fun vs64 hr65 => ?_
        have mk67 := mo_setL mu34 (repL_snoc (e := (fun y_ : (Int × Int) => (D.tup [(D.v (V.int y_.1)), (D.v (V.int y_.2))]))) (xs := ys31) (y := (x39.1, x39.2)) hr65 h61)
        replace mu47 := mo_put (o := .lst (vs64 ++ [(V.ref p58)])) mu34.im ne45 mu47
        replace h_days_here := rep_put (o := .lst (vs64 ++ [(V.ref p58)])) mu34.im h_days_here
        replace hk11 := keep_put (o := .lst (vs64 ++ [(V.ref p58)])) mu34.im hk11
        replace h19 := rep_put (o := .lst (vs64 ++ [(V.ref p58)])) mu34.im h19
        replace hk33 := keep_put (o := .lst (vs64 ++ [(V.ref p58)])) mu34.im hk33
        replace h41 := rep_put (o := .lst (vs64 ++ [(V.ref p58)])) mu34.im h41
        replace h61 := rep_put (o := .lst (vs64 ++ [(V.ref p58)])) mu34.im h61
        replace hW := wd_put (o := .lst (vs64 ++ [(V.ref p58)])) hW mu34
        replace mu34 := mk67
        generalize upd H63 L28 (.lst (vs64 ++ [(V.ref p58)])) = H68 at *
        replace mu34 : MutO (L28 :: (L6 :: ms)) [] H_0 H68 L28 (D.lst ((ys31 ++ [(x39.1, x39.2)]).map (fun y_ : (Int × Int) => (D.tup [(D.v (V.int y_.1)), (D.v (V.int y_.2))])))) := mu34
        clear mk67
        exact hN36 (x39.1, x39.2) _ hM ⟨hW, hk33, mu34, by rw [List.length_append]; exact Nat.add_le_add_right ln35 1, mu47⟩
      · skip
        clear mu12
        rintro n30 ys69 H70 hM ⟨hW, hk33, mu34, ln35, mu71⟩
        replace h_days_here := rep_keep hk33 (rep_new nl29 h_days_here)
        replace hk11 := Keep.trans (Keep.new hk11) hk33
        replace h19 := rep_keep hk33 (rep_new nl29 h19)
        clear hk33 ln35
        have h72 := mo_rep_dr dr_here nm43 mu34
        replace hW := wd_dr dr_here mu34.hp hW
        replace h_days_here := rep_dr dr_here h_days_here
        replace hk11 := keep_dr dr_here kn44 hk11
        replace h19 := rep_dr dr_here h19
        replace mu71 := mo_dr dr_here ne45 mu71
        clear mu34
        apply rep_sortP (xs := ys69) h72
        intro ys73 zs76 hpm74 hst75 hr77
        replace hM := hM ys73 hpm74 hst75
        intro p78 n82
        have e79 := Rx.Ext.new (H := H70) (o := (HO.lst (zs76))) n82
        have hp80 : upd H70 p78 (HO.lst (zs76)) p78 = some (HO.lst (zs76)) := upd_same
        generalize upd H70 p78 (HO.lst (zs76)) = H83 at e79 hp80 ⊢
        have h81 : rep (L6 :: ms) H83 (D.lst (ys73.map (fun y_ : (Int × Int) => (D.tup [(D.v (V.int y_.1)), (D.v (V.int y_.2))])))) (.ref p78) := rep_lst_mk hW n82 e79 hp80 hr77
        replace h_days_here := rep_ext e79 h_days_here
        replace hk11 := keep_ext e79 hk11
        replace h19 := rep_ext e79 h19
        replace h72 := rep_ext e79 h72
        replace mu71 := mo_ext e79 mu71
        replace hW := hW.ret0 e79
        refine mo_end mu71 hn (by rw [List.length_map]; exact ln13) fun vs84 hr85 => ?_
        have mk87 := mo_setL mu71 (repL_snoc (e := (fun y_ : (List (Int × Int)) => (D.lst (y_.map (fun y_ : (Int × Int) => (D.tup [(D.v (V.int y_.1)), (D.v (V.int y_.2))])))))) (xs := ys9) (y := ys73) hr85 h81)
        replace h_days_here := rep_put (o := .lst (vs84 ++ [(V.ref p78)])) mu71.im h_days_here
        replace hk11 := keep_put (o := .lst (vs84 ++ [(V.ref p78)])) mu71.im hk11
        replace h19 := rep_put (o := .lst (vs84 ++ [(V.ref p78)])) mu71.im h19
        replace h72 := rep_put (o := .lst (vs84 ++ [(V.ref p78)])) mu71.im h72
        replace h81 := rep_put (o := .lst (vs84 ++ [(V.ref p78)])) mu71.im h81
        replace hW := wd_put (o := .lst (vs84 ++ [(V.ref p78)])) hW mu71
        replace mu71 := mk87
        generalize upd H83 L6 (.lst (vs84 ++ [(V.ref p78)])) = H88 at *
        replace mu71 : MutO (L6 :: ms) [] H_0 H88 L6 (D.lst ((ys9 ++ [ys73]).map (fun y_ : (List (Int × Int)) => (D.lst (y_.map (fun y_ : (Int × Int) => (D.tup [(D.v (V.int y_.1)), (D.v (V.int y_.2))]))))))) := mu71
        clear mk87
        exact hN14 ys73 _ hM ⟨hW, hk11, mu71, by rw [List.length_append]; exact Nat.add_le_add_right ln13 1⟩
    · skip
      rintro n8 ys89 H90 hM ⟨hW, hk11, mu12, ln13⟩
      replace h_days_here := rep_keep hk11 (rep_new nl7 h_days_here)
      clear hk11 ln13
      have h91 := mo_rep_dr dr_here nm21 mu12
      replace hW := wd_dr dr_here mu12.hp hW
      replace h_days_here := rep_dr dr_here h_days_here
      clear mu12
      exact hQ ys89 _ _ hM hW.out h91
def M_Table_repr (x_self : (List (List (Int × Int)))) (KM : Str → Prop) : Prop :=
  ((Str.empty ++ ("Table(" : Str)).length ≤ sizeLine ∧ ((plainD (D.lst (x_self.map (fun y_ : (List (Int × Int)) => (D.lst (y_.map (fun y_ : (Int × Int) => (D.tup [(D.v (V.int y_.1)), (D.v (V.int y_.2))]))))))) = true ∧ (pyOf (D.lst (x_self.map (fun y_ : (List (Int × Int)) => (D.lst (y_.map (fun y_ : (Int × Int) => (D.tup [(D.v (V.int y_.1)), (D.v (V.int y_.2))])))))))).showable = true ∧ (pyOf (D.lst (x_self.map (fun y_ : (List (Int × Int)) => (D.lst (y_.map (fun y_ : (Int × Int) => (D.tup [(D.v (V.int y_.1)), (D.v (V.int y_.2))])))))))).hasDict = false ∧ (pyOf (D.lst (x_self.map (fun y_ : (List (Int × Int)) => (D.lst (y_.map (fun y_ : (Int × Int) => (D.tup [(D.v (V.int y_.1)), (D.v (V.int y_.2))])))))))).depth ≤ 60 ∧ (pyOf (D.lst (x_self.map (fun y_ : (List (Int × Int)) => (D.lst (y_.map (fun y_ : (Int × Int) => (D.tup [(D.v (V.int y_.1)), (D.v (V.int y_.2))])))))))).shown.length ≤ sizeLine) ∧ (((Str.empty ++ ("Table(" : Str)) ++ (pyOf (D.lst (x_self.map (fun y_ : (List (Int × Int)) => (D.lst (y_.map (fun y_ : (Int × Int) => (D.tup [(D.v (V.int y_.1)), (D.v (V.int y_.2))])))))))).shown).length ≤ sizeLine ∧ ((((Str.empty ++ ("Table(" : Str)) ++ (pyOf (D.lst (x_self.map (fun y_ : (List (Int × Int)) => (D.lst (y_.map (fun y_ : (Int × Int) => (D.tup [(D.v (V.int y_.1)), (D.v (V.int y_.2))])))))))).shown) ++ (")" : Str)).length ≤ sizeLine ∧ (KM (((Str.empty ++ ("Table(" : Str)) ++ (pyOf (D.lst (x_self.map (fun y_ : (List (Int × Int)) => (D.lst (y_.map (fun y_ : (Int × Int) => (D.tup [(D.v (V.int y_.1)), (D.v (V.int y_.2))])))))))).shown) ++ (")" : Str)))))))
def sp_Table_repr (A : Ad) : Sp := fun vs H Q _ => ∃ (ms : List Addr) (v_self : V) (x_self : (List (List (Int × Int)))) (KM : Str → Prop), vs = [v_self] ∧ Wd ms [] [] H H ∧ rep ms H (eTable A x_self) v_self ∧ M_Table_repr x_self KM ∧ ∀ (r : Str) (u : V) (H1 : Hp), KM r → Ret [] H H1 → rep ms H1 (D.v (V.str r)) u → Q u H1
set_option maxHeartbeats 16000000 in
theorem ok_Table_repr {P : Program} {w : World} {K : PySem.W.Frag} {mg : Str → Option Value} {base : Heap} {A : Ad} (T : Txt w K mg A) : FnG P w K mg base 1 A.a_Table_repr A.d_Table_repr ["self"] (sp_Table_repr A) := by
  refine okG T.F_Table_repr sc_Table_repr (fun vs H Q E h => ?_) (fun cdv A_ outer s_ H_0 vs Q E gu hr h => ?_)
  · obtain ⟨ms, v_self, x_self, KM, rfl, _⟩ := h
    rfl
  · obtain ⟨ms, v_self, x_self, KM, rfl, hW, h_self, hM, hQ⟩ := h
    unfold M_Table_repr at hM
    refine ⟨_, (pss_one (ps_ret (pe_joinedF (.cons pe_str (.cons (pe_fmtD (K := K) rfl gu hr (pe_fld (pv 0) rfl)) (.cons pe_str .nil)))))), ?_⟩
    obtain ⟨g1, hM⟩ := hM
    refine ⟨_, rfl, g1, ?_⟩
    refine ⟨_, rfl, ?_⟩
    apply rep_fld (j := 0) h_self T.cl_Table T.na_Table__rounds nd_Table rfl rfl
    intro u3 h2
    obtain ⟨g4, hM⟩ := hM
    apply rep_fmtD (d := (D.lst (x_self.map (fun y_ : (List (Int × Int)) => (D.lst (y_.map (fun y_ : (Int × Int) => (D.tup [(D.v (V.int y_.1)), (D.v (V.int y_.2))])))))))) h2 (rep_refL h2) g4
    obtain ⟨g5, hM⟩ := hM
    refine ⟨_, rfl, g5, ?_⟩
    obtain ⟨g6, hM⟩ := hM
    refine ⟨_, rfl, g6, ?_⟩
    exact hQ (((Str.empty ++ ("Table(" : Str)) ++ (pyOf (D.lst (x_self.map (fun y_ : (List (Int × Int)) => (D.lst (y_.map (fun y_ : (Int × Int) => (D.tup [(D.v (V.int y_.1)), (D.v (V.int y_.2))])))))))).shown) ++ (")" : Str)) _ _ hM hW.out rep_v
def M_check_team (x_team : Int) (x_teams : Int) (KM : Unit → Prop) : Prop :=
  (M_is_count x_team fun r1 => (if (!r1) = true then False else (if (decide (x_teams ≤ x_team)) = true then False else (KM ()))))
def sp_check_team (A : Ad) : Sp := fun vs H Q _ => ∃ (ms : List Addr) (x_team : Int) (x_teams : Int) (KM : Unit → Prop), vs = [V.int x_team, V.int x_teams] ∧ Wd ms [] [] H H ∧ M_check_team x_team x_teams KM ∧ ∀ (r : Unit) (u : V) (H1 : Hp), KM r → Ret [] H H1 → rep ms H1 (D.v V.non) u → Q u H1
set_option maxHeartbeats 16000000 in
theorem ok_check_team {P : Program} {w : World} {K : PySem.W.Frag} {mg : Str → Option Value} {base : Heap} {A : Ad} (T : Txt w K mg A) : FnOk P w K mg base CX0 3 A.a_check_team A.d_check_team ["team", "teams"] (sp_check_team A) := by
  refine T.F_check_team.ok sc_check_team (fun vs H Q E h => ?_) (fun cdv A_ outer s_ H_0 vs Q E hr h => ?_)
  · obtain ⟨ms, x_team, x_teams, KM, rfl, _⟩ := h
    rfl
  · obtain ⟨ms, x_team, x_teams, KM, rfl, hW, hM, hQ⟩ := h
    unfold M_check_team at hM
    refine ⟨_, (pss_one (ps_if (PW.pt (pw_or (pt_not (pt_val (pe_call (ok_is_count T) (hr.mono (by decide)) (by rfl) T.g_is_count T.F_is_count.kp T.b_is_count .nil pass0 (pa_cons (pv 0) pa_nil)))) (pw_or1 (pt_cmpR op_ge (pv 0) (pv 1) (nomark _))))) (pss_one ps_never) pss_nil)), ?_⟩
    refine ⟨_, rfl, ?_⟩
    refine ⟨ms, x_team, _, rfl, hW.enter0, hM, fun r1 u4 H5 hM e3 h2 => ?_⟩
    replace hW := hW.ret0 e3
    obtain rfl := of_v h2
    refine ⟨_, rfl, ?_⟩
    refine ite3 hM (fun hM => ?_) (fun hM => ?_)
    · skip
      refine iteT ?_
      exact hM
    · skip
      refine ⟨_, rfl, ?_⟩
      refine ⟨_, rfl, ?_⟩
      refine ⟨_, _, rfl, rfl, ?_⟩
      refine ⟨_, rfl, ?_⟩
      refine ite3 hM (fun hM => ?_) (fun hM => ?_)
      · skip
        exact hM
      · skip
        exact hQ () _ _ hM hW.out rep_v
def M_mark_in (x_meetings : (List (Int × Int))) (x_team : Int) (KM : Str → Prop) : Prop :=
  (∃ KB1 : Str → Prop, (x_meetings.length < 100000 ∧ mapC (fun (x20 : (Int × Int)) (k13 : Int → Prop) => (k13 x20.1)) x_meetings [] fun ys34 => (if (inV (V.int x_team) (ys34.map V.int)) = true then (KB1 ("h" : Str)) else (KB1 ("a" : Str)))) ∧ ∀ r37 : Str, KB1 r37 → (KM r37))
def sp_mark_in (A : Ad) : Sp := fun vs H Q _ => ∃ (ms : List Addr) (v_meetings : V) (x_meetings : (List (Int × Int))) (x_team : Int) (KM : Str → Prop), vs = [v_meetings, V.int x_team] ∧ Wd ms [] [] H H ∧ rep ms H (D.lst (x_meetings.map (fun y_ : (Int × Int) => (D.tup [(D.v (V.int y_.1)), (D.v (V.int y_.2))])))) v_meetings ∧ M_mark_in x_meetings x_team KM ∧ ∀ (r : Str) (u : V) (H1 : Hp), KM r → Ret [] H H1 → rep ms H1 (D.v (V.str r)) u → Q u H1
set_option maxHeartbeats 16000000 in
theorem ok_mark_in {P : Program} {w : World} {K : PySem.W.Frag} {mg : Str → Option Value} {base : Heap} {A : Ad} (T : Txt w K mg A) : FnOk P w K mg base CX0 1 A.a_mark_in A.d_mark_in ["meetings", "team"] (sp_mark_in A) := by
  refine T.F_mark_in.ok sc_mark_in (fun vs H Q E h => ?_) (fun cdv A_ outer s_ H_0 vs Q E hr h => ?_)
  · obtain ⟨ms, v_meetings, x_meetings, x_team, KM, rfl, _⟩ := h
    rfl
  · obtain ⟨ms, v_meetings, x_meetings, x_team, KM, rfl, hW, h_meetings, hM, hQ⟩ := h
    unfold M_mark_in at hM
    refine ⟨_, (pss_one (ps_ret (pe_up (pe_ifExp (pt_cmpR (op_inSK (K := K) rfl) (pv 1) (pe_lc (own := [("meeting", 2)]) (g := gName 2) rfl sc_mark_in.nd (pi_list (pv 0)) (blkOk_by (N := ["meetings", "team", "meeting"]) (sc := defScope s_mark_in) (by decide +kernel)) (fun _ _ _ _ _ => pg_name (i := 2) sc_mark_in.nd rfl (by first | exact Or.inl rfl | exact Or.inr rfl)) (fun _ _ _ _ _ => pts_nil) (fun _ _ _ _ _ => (pe_ix (ix_tupK (K := K) rfl) (pv 2) pe_int (fun _ _ => rfl)))) (by rfl)) pe_str pe_str)))), ?_⟩
    obtain ⟨KB1, hM, hKKB1⟩ := hM
    refine ⟨fun v H1 => ∃ r : Str, KB1 r ∧ Wd ms [] [] H_0 H1 ∧ Keep ms H_0 H1 ∧ rep ms H1 (D.v (V.str r)) v, ?_, ?_⟩
    · skip
      have hj3 := Keep.refl (ms := ms) (H := H_0)
      refine ⟨_, rfl, ?_⟩
      refine ⟨_, rfl, ?_⟩
      apply rep_iter h_meetings
      intro a4 xs5 _ an6 hp7 hl8
      refine fun L9 nl10 => ?_
      have nm24 := nm_new hW nl10
      have kn25 := keep_none (w := hW) nl10 hj3
      refine lc_listG (L := L9) (fun n_ ys_ h_ => Wd (L9 :: ms) [] [] H_0 h_ ∧ Keep (L9 :: ms) H_0 h_ ∧ MutO (L9 :: ms) [] H_0 h_ L9 (D.lst (ys_.map (fun y_ : Int => (D.v (V.int y_))))) ∧ ys_.length ≤ n_) (items := x_meetings) (e := (fun y_ : (Int × Int) => (D.tup [(D.v (V.int y_.1)), (D.v (V.int y_.2))]))) an6 hp7 hl8 nl10 (fun _ _ _ q_ => q_.2.1) hM ⟨wd_cell hW nl10, keep_cell nl10 Keep.refl, mo_newL (ds := []) hW nl10 repL_nil, Nat.le_refl _⟩ ?_ ?_
      · skip
        rintro x20 u21 n11 ys12 k13 H26 hn ⟨hW, hk14, mu15, ln16⟩ h22 hM Nx19 hN17
        replace h_meetings := rep_keep hk14 (rep_new nl10 h_meetings)
        replace hj3 := Keep.trans (Keep.new hj3) hk14
        refine ⟨rfl, ?_⟩
        refine tyes_of ?_
        refine ⟨_, rfl, ?_⟩
        apply rep_ixT 0 h22 rfl rfl
        intro u28 h27
        obtain rfl := of_v h27
        refine mo_end mu15 hn (by rw [List.length_map]; exact ln16) fun vs29 hr30 => ?_
        have mk32 := mo_setL mu15 (repL_snoc (e := (fun y_ : Int => (D.v (V.int y_)))) (xs := ys12) (y := x20.1) hr30 rep_v)
        replace h_meetings := rep_put (o := .lst (vs29 ++ [V.int x20.1])) mu15.im h_meetings
        replace hj3 := keep_put (o := .lst (vs29 ++ [V.int x20.1])) mu15.im hj3
        replace hk14 := keep_put (o := .lst (vs29 ++ [V.int x20.1])) mu15.im hk14
        replace h22 := rep_put (o := .lst (vs29 ++ [V.int x20.1])) mu15.im h22
        replace hW := wd_put (o := .lst (vs29 ++ [V.int x20.1])) hW mu15
        replace mu15 := mk32
        generalize upd H26 L9 (.lst (vs29 ++ [V.int x20.1])) = H33 at *
        replace mu15 : MutO (L9 :: ms) [] H_0 H33 L9 (D.lst ((ys12 ++ [x20.1]).map (fun y_ : Int => (D.v (V.int y_))))) := mu15
        clear mk32
        exact hN17 x20.1 _ hM ⟨hW, hk14, mu15, by rw [List.length_append]; exact Nat.add_le_add_right ln16 1⟩
      · skip
        rintro n11 ys34 H35 hM ⟨hW, hk14, mu15, ln16⟩
        replace h_meetings := rep_keep hk14 (rep_new nl10 h_meetings)
        replace hj3 := Keep.trans (Keep.new hj3) hk14
        clear hk14 ln16
        have h36 := mo_rep_dr dr_here nm24 mu15
        replace hW := wd_dr dr_here mu15.hp hW
        replace h_meetings := rep_dr dr_here h_meetings
        replace hj3 := keep_dr dr_here kn25 hj3
        clear mu15
        apply rep_inL (f := V.int) (xs := ys34) h36 rfl (fun _ => rfl)
        refine ⟨_, rfl, ?_⟩
        refine ite3 hM (fun hM => ?_) (fun hM => ?_)
        · skip
          exact ⟨("h" : Str), hM, hW, hj3, rep_v⟩
        · skip
          exact ⟨("a" : Str), hM, hW, hj3, rep_v⟩
    · skip
      rintro u39 Hj2 ⟨r37, hr, hW, hj3, h38⟩
      replace hM := hKKB1 r37 hr
      replace h_meetings := rep_keep hj3 h_meetings
      obtain rfl := of_v h38
      exact hQ r37 _ _ hM hW.out rep_v
def M_Table_row_of (x_self : (List (List (Int × Int)))) (x_team : Int) (KM : Str → Prop) : Prop :=
  (M_Table_size x_self fun r2 => (M_check_team x_team r2 fun r7 => (x_self.length < 100000 ∧ mapC (fun (x30 : (List (Int × Int))) (k23 : Str → Prop) => (M_mark_in x30 x_team fun r36 => (k23 r36))) x_self [] fun ys46 => ((ys46.map (·.length)).sum + ys46.length * ("" : Str).length ≤ 16777216 ∧ (KM (Txt.join ("" : Str) ys46))))))
def sp_Table_row_of (A : Ad) : Sp := fun vs H Q _ => ∃ (ms : List Addr) (v_self : V) (x_self : (List (List (Int × Int)))) (x_team : Int) (KM : Str → Prop), vs = [v_self, V.int x_team] ∧ Wd ms [] [] H H ∧ rep ms H (eTable A x_self) v_self ∧ M_Table_row_of x_self x_team KM ∧ ∀ (r : Str) (u : V) (H1 : Hp), KM r → Ret [] H H1 → rep ms H1 (D.v (V.str r)) u → Q u H1
set_option maxHeartbeats 16000000 in
theorem ok_Table_row_of {P : Program} {w : World} {K : PySem.W.Frag} {mg : Str → Option Value} {base : Heap} {A : Ad} (T : Txt w K mg A) : FnOk P w K mg base CX0 4 A.a_Table_row_of A.d_Table_row_of ["self", "team"] (sp_Table_row_of A) := by
  refine T.F_Table_row_of.ok sc_Table_row_of (fun vs H Q E h => ?_) (fun cdv A_ outer s_ H_0 vs Q E hr h => ?_)
  · obtain ⟨ms, v_self, x_self, x_team, KM, rfl, _⟩ := h
    rfl
  · obtain ⟨ms, v_self, x_self, x_team, KM, rfl, hW, h_self, hM, hQ⟩ := h
    unfold M_Table_row_of at hM
    refine ⟨_, (pss_cons (ps_expr (pe_call (ok_check_team T) (hr.mono (by decide)) (by rfl) T.g_check_team T.F_check_team.kp T.b_check_team .nil pass0 (pa_cons (pv 1) (pa_cons (pe_prop (pv 0) T.cl_Table T.p_Table_size (ok_Table_size T) (hr.mono (by decide)) T.b_Table_size .nil pass0 rfl) pa_nil)))) (pss_one (ps_ret (pe_joinK (K := K) rfl pe_str (pe_lc (own := [("meetings", 2)]) (g := gName 2) rfl sc_Table_row_of.nd (pi_list (pe_fld (pv 0) rfl)) (blkOk_by (N := ["self", "team", "meetings"]) (sc := defScope s_Table_row_of) (by decide +kernel)) (fun _ _ _ _ _ => pg_name (i := 2) sc_Table_row_of.nd rfl (by first | exact Or.inl rfl | exact Or.inr rfl)) (fun _ _ _ _ _ => pts_nil) (fun _ _ _ _ _ => (pe_call (ok_mark_in T) (hr.mono (by decide)) (by rfl) T.g_mark_in T.F_mark_in.kp T.b_mark_in .nil pass0 (pa_cons (pv 2) (pa_cons (pv 1) pa_nil))))))))), ?_⟩
    refine ⟨_, rfl, ?_⟩
    refine ⟨_, rfl, ?_⟩
    apply rep_prop h_self
    intro _ h1
    refine ⟨ms, _, x_self, _, rfl, hW.enter0, h1, hM, fun r2 u5 H6 hM e4 h3 => ?_⟩
    replace h_self := rep_ext e4 h_self
    replace hW := hW.ret0 e4
    obtain rfl := of_v h3
    refine ⟨ms, x_team, r2, _, rfl, hW.enter0, hM, fun r7 u10 H11 hM e9 h8 => ?_⟩
    replace h_self := rep_ext e9 h_self
    replace hW := hW.ret0 e9
    obtain rfl := of_v h8
    refine ⟨⟨_, rfl⟩, ?_⟩
    refine ⟨_, rfl, ?_⟩
    apply rep_fld (j := 0) h_self T.cl_Table T.na_Table__rounds nd_Table rfl rfl
    intro u13 h12
    apply rep_iter h12
    intro a14 xs15 _ an16 hp17 hl18
    refine fun L19 nl20 => ?_
    have nm34 := nm_new hW nl20
    refine lc_listG (L := L19) (fun n_ ys_ h_ => Wd (L19 :: ms) [] [] H_0 h_ ∧ Keep (L19 :: ms) H11 h_ ∧ MutO (L19 :: ms) [] H_0 h_ L19 (D.lst (ys_.map (fun y_ : Str => (D.v (V.str y_))))) ∧ ys_.length ≤ n_) (items := x_self) (e := (fun y_ : (List (Int × Int)) => (D.lst (y_.map (fun y_ : (Int × Int) => (D.tup [(D.v (V.int y_.1)), (D.v (V.int y_.2))])))))) an16 hp17 hl18 nl20 (fun _ _ _ q_ => q_.2.1) hM ⟨wd_cell hW nl20, keep_cell nl20 Keep.refl, mo_newL (ds := []) hW nl20 repL_nil, Nat.le_refl _⟩ ?_ ?_
    · skip
      rintro x30 u31 n21 ys22 k23 H35 hn ⟨hW, hk24, mu25, ln26⟩ h32 hM Nx29 hN27
      replace h_self := rep_keep hk24 (rep_new nl20 h_self)
      replace h12 := rep_keep hk24 (rep_new nl20 h12)
      refine ⟨rfl, ?_⟩
      refine tyes_of ?_
      refine ⟨_, rfl, ?_⟩
      refine ⟨_, rfl, ?_⟩
      refine ⟨(L19 :: ms), _, x30, x_team, _, rfl, hW.enter0, h32, hM, fun r36 u39 H40 hM e38 h37 => ?_⟩
      replace h_self := rep_ext e38 h_self
      replace h12 := rep_ext e38 h12
      replace hk24 := keep_ext e38 hk24
      replace h32 := rep_ext e38 h32
      replace mu25 := mo_ext e38 mu25
      replace hW := hW.ret0 e38
      obtain rfl := of_v h37
      refine mo_end mu25 hn (by rw [List.length_map]; exact ln26) fun vs41 hr42 => ?_
      have mk44 := mo_setL mu25 (repL_snoc (e := (fun y_ : Str => (D.v (V.str y_)))) (xs := ys22) (y := r36) hr42 rep_v)
      replace h_self := rep_put (o := .lst (vs41 ++ [V.str r36])) mu25.im h_self
      replace h12 := rep_put (o := .lst (vs41 ++ [V.str r36])) mu25.im h12
      replace hk24 := keep_put (o := .lst (vs41 ++ [V.str r36])) mu25.im hk24
      replace h32 := rep_put (o := .lst (vs41 ++ [V.str r36])) mu25.im h32
      replace hW := wd_put (o := .lst (vs41 ++ [V.str r36])) hW mu25
      replace mu25 := mk44
      generalize upd H40 L19 (.lst (vs41 ++ [V.str r36])) = H45 at *
      replace mu25 : MutO (L19 :: ms) [] H_0 H45 L19 (D.lst ((ys22 ++ [r36]).map (fun y_ : Str => (D.v (V.str y_))))) := mu25
      clear mk44
      exact hN27 r36 _ hM ⟨hW, hk24, mu25, by rw [List.length_append]; exact Nat.add_le_add_right ln26 1⟩
    · skip
      rintro n21 ys46 H47 hM ⟨hW, hk24, mu25, ln26⟩
      replace h_self := rep_keep hk24 (rep_new nl20 h_self)
      replace h12 := rep_keep hk24 (rep_new nl20 h12)
      clear hk24 ln26
      have h48 := mo_rep_dr dr_here nm34 mu25
      replace hW := wd_dr dr_here mu25.hp hW
      replace h_self := rep_dr dr_here h_self
      replace h12 := rep_dr dr_here h12
      clear mu25
      obtain ⟨g49, hM⟩ := hM
      apply rep_join (a := ("" : Str)) (ys := ys46) h48 g49
      exact hQ (Txt.join ("" : Str) ys46) _ _ hM hW.out rep_v
def M_row (x_days_here : (List (List (Int × Int)))) (x_who : Int) (KM : Str → Prop) : Prop :=
  (x_days_here.length < 100000 ∧ mapC (fun (x17 : (List (Int × Int))) (k10 : Str → Prop) => (∃ KB23 : Str → Prop, (x17.length < 100000 ∧ mapC (fun (x42 : (Int × Int)) (k35 : Int → Prop) => (k35 x42.1)) x17 [] fun ys67 => (if (inV (V.int x_who) (ys67.map V.int)) = true then (KB23 ("h" : Str)) else (KB23 ("a" : Str)))) ∧ ∀ r71 : Str, KB23 r71 → (k10 r71))) x_days_here [] fun ys80 => ((ys80.map (·.length)).sum + ys80.length * ("" : Str).length ≤ 16777216 ∧ (KM (Txt.join ("" : Str) ys80))))
def sp_row (A : Ad) : Sp := fun vs H Q _ => ∃ (ms : List Addr) (v_days_here : V) (x_days_here : (List (List (Int × Int)))) (x_who : Int) (KM : Str → Prop), vs = [v_days_here, V.int x_who] ∧ Wd ms [] [] H H ∧ rep ms H (D.lst (x_days_here.map (fun y_ : (List (Int × Int)) => (D.lst (y_.map (fun y_ : (Int × Int) => (D.tup [(D.v (V.int y_.1)), (D.v (V.int y_.2))]))))))) v_days_here ∧ M_row x_days_here x_who KM ∧ ∀ (r : Str) (u : V) (H1 : Hp), KM r → Ret [] H H1 → rep ms H1 (D.v (V.str r)) u → Q u H1
set_option maxHeartbeats 16000000 in
theorem ok_row {P : Program} {w : World} {K : PySem.W.Frag} {mg : Str → Option Value} {base : Heap} {A : Ad} (T : Txt w K mg A) : FnOk P w K mg base CX0 1 A.a_row A.d_row ["_law_days_here", "_law_who"] (sp_row A) := by
  refine T.F_row.ok sc_row (fun vs H Q E h => ?_) (fun cdv A_ outer s_ H_0 vs Q E hr h => ?_)
  · obtain ⟨ms, v_days_here, x_days_here, x_who, KM, rfl, _⟩ := h
    rfl
  · obtain ⟨ms, v_days_here, x_days_here, x_who, KM, rfl, hW, h_days_here, hM, hQ⟩ := h
    unfold M_row at hM
    refine ⟨_, (pss_one (ps_ret (pe_joinK (K := K) rfl pe_str (pe_lc (own := [("_law_meets", 2)]) (g := gName 2) rfl sc_row.nd (pi_list (pv 0)) (blkOk_by (N := ["_law_days_here", "_law_who", "_law_meets", "_law_home", "_law_away"]) (sc := defScope s_row) (by decide +kernel)) (fun _ _ _ _ _ => pg_name (i := 2) sc_row.nd rfl (by first | exact Or.inl rfl | exact Or.inr rfl)) (fun _ _ _ _ _ => pts_nil) (fun _ _ _ _ _ => (pe_up (pe_ifExp (pt_cmpR (op_inSK (K := K) rfl) (pv 1) (pe_lc (own := [("_law_home", 3), ("_law_away", 4)]) (g := (gTup K 2 (gCons (gName 3) (gCons (gName 4) gNil)))) rfl sc_row.nd (pi_listK (K := K) rfl (pv 2)) (blkOk_rel (N := ["_law_days_here", "_law_who", "_law_meets", "_law_home", "_law_away"]) rfl (by kernel_rfl)) (fun _ _ _ _ _ => (pg_tup rfl (pgs_cons (pg_name (i := 3) sc_row.nd rfl (by first | exact Or.inl rfl | exact Or.inr rfl)) (pgs_cons (pg_name (i := 4) sc_row.nd rfl (by first | exact Or.inl rfl | exact Or.inr rfl)) pgs_nil)))) (fun _ _ _ _ _ => pts_nil) (fun _ _ _ _ _ => (pv 3))) (by rfl)) pe_str pe_str))))))), ?_⟩
    refine ⟨⟨_, rfl⟩, ?_⟩
    refine ⟨_, rfl, ?_⟩
    apply rep_iter h_days_here
    intro a1 xs2 _ an3 hp4 hl5
    refine fun L6 nl7 => ?_
    have nm21 := nm_new hW nl7
    refine lc_listG (L := L6) (fun n_ ys_ h_ => Wd (L6 :: ms) [] [] H_0 h_ ∧ Keep (L6 :: ms) H_0 h_ ∧ MutO (L6 :: ms) [] H_0 h_ L6 (D.lst (ys_.map (fun y_ : Str => (D.v (V.str y_))))) ∧ ys_.length ≤ n_) (items := x_days_here) (e := (fun y_ : (List (Int × Int)) => (D.lst (y_.map (fun y_ : (Int × Int) => (D.tup [(D.v (V.int y_.1)), (D.v (V.int y_.2))])))))) an3 hp4 hl5 nl7 (fun _ _ _ q_ => q_.2.1) hM ⟨wd_cell hW nl7, keep_cell nl7 Keep.refl, mo_newL (ds := []) hW nl7 repL_nil, Nat.le_refl _⟩ ?_ ?_
    · skip
      rintro x17 u18 n8 ys9 k10 H22 hn ⟨hW, hk11, mu12, ln13⟩ h19 hM Nx16 hN14
      replace h_days_here := rep_keep hk11 (rep_new nl7 h_days_here)
      refine ⟨rfl, ?_⟩
      refine tyes_of ?_
      obtain ⟨KB23, hM, hKKB23⟩ := hM
      refine ⟨fun v H1 => ∃ r : Str, KB23 r ∧ Wd (L6 :: ms) [] [] H_0 H1 ∧ Keep (L6 :: ms) H22 H1 ∧ rep (L6 :: ms) H1 (D.v (V.str r)) v ∧ MutO (L6 :: ms) [] H_0 H1 L6 (D.lst (ys9.map (fun y_ : Str => (D.v (V.str y_))))), ?_, ?_⟩
      · skip
        have hj25 := Keep.refl (ms := (L6 :: ms)) (H := H22)
        refine ⟨_, rfl, ?_⟩
        refine ⟨_, rfl, ?_⟩
        apply rep_iter h19
        intro a26 xs27 _ an28 hp29 hl30
        refine fun L31 nl32 => ?_
        have nm46 := nm_new hW nl32
        have kn47 := keep_none (w := hW) nl32 hk11
        have kn48 := keep_none (w := hW) nl32 hj25
        have ne49 := mo_ne nl32 mu12
        refine lc_listG (L := L31) (fun n_ ys_ h_ => Wd (L31 :: (L6 :: ms)) [] [] H_0 h_ ∧ Keep (L31 :: (L6 :: ms)) H22 h_ ∧ MutO (L31 :: (L6 :: ms)) [] H_0 h_ L31 (D.lst (ys_.map (fun y_ : Int => (D.v (V.int y_))))) ∧ ys_.length ≤ n_ ∧ MutO (L31 :: (L6 :: ms)) [] H_0 h_ L6 (D.lst (ys9.map (fun y_ : Str => (D.v (V.str y_)))))) (items := x17) (e := (fun y_ : (Int × Int) => (D.tup [(D.v (V.int y_.1)), (D.v (V.int y_.2))]))) an28 hp29 hl30 nl32 (fun _ _ _ q_ => q_.2.1) hM ⟨wd_cell hW nl32, keep_cell nl32 Keep.refl, mo_newL (ds := []) hW nl32 repL_nil, Nat.le_refl _, mo_cell nl32 mu12⟩ ?_ ?_
        · skip
          clear mu12
          rintro x42 u43 n33 ys34 k35 H50 hn ⟨hW, hk36, mu37, ln38, mu51⟩ h44 hM Nx41 hN39
          replace h_days_here := rep_keep hk36 (rep_new nl32 h_days_here)
          replace hk11 := Keep.trans (Keep.new hk11) hk36
          replace h19 := rep_keep hk36 (rep_new nl32 h19)
          replace hj25 := Keep.trans (Keep.new hj25) hk36
          apply rep_gtup h44 rfl
          intro vs52 hv53
          obtain ⟨u54, us55, rfl, h56, hv57⟩ := repL_uncons hv53
          obtain rfl := of_v h56
          obtain ⟨u58, us59, rfl, h60, hv61⟩ := repL_uncons hv57
          obtain rfl := of_v h60
          obtain rfl := repL_empty hv61
          refine ⟨_, _, rfl, ?_⟩
          refine ⟨_, _, rfl, ?_⟩
          refine ⟨rfl, ?_⟩
          refine ⟨rfl, ?_⟩
          refine tyes_of ?_
          refine ⟨_, rfl, ?_⟩
          refine mo_end mu37 hn (by rw [List.length_map]; exact ln38) fun vs62 hr63 => ?_
          have mk65 := mo_setL mu37 (repL_snoc (e := (fun y_ : Int => (D.v (V.int y_)))) (xs := ys34) (y := x42.1) hr63 rep_v)
          replace mu51 := mo_put (o := .lst (vs62 ++ [V.int x42.1])) mu37.im ne49 mu51
          replace h_days_here := rep_put (o := .lst (vs62 ++ [V.int x42.1])) mu37.im h_days_here
          replace hk11 := keep_put (o := .lst (vs62 ++ [V.int x42.1])) mu37.im hk11
          replace h19 := rep_put (o := .lst (vs62 ++ [V.int x42.1])) mu37.im h19
          replace hj25 := keep_put (o := .lst (vs62 ++ [V.int x42.1])) mu37.im hj25
          replace hk36 := keep_put (o := .lst (vs62 ++ [V.int x42.1])) mu37.im hk36
          replace h44 := rep_put (o := .lst (vs62 ++ [V.int x42.1])) mu37.im h44
          replace hW := wd_put (o := .lst (vs62 ++ [V.int x42.1])) hW mu37
          replace mu37 := mk65
          generalize upd H50 L31 (.lst (vs62 ++ [V.int x42.1])) = H66 at *
          replace mu37 : MutO (L31 :: (L6 :: ms)) [] H_0 H66 L31 (D.lst ((ys34 ++ [x42.1]).map (fun y_ : Int => (D.v (V.int y_))))) := mu37
          clear mk65
          exact hN39 x42.1 _ hM ⟨hW, hk36, mu37, by rw [List.length_append]; exact Nat.add_le_add_right ln38 1, mu51⟩
        · skip
          clear mu12
          rintro n33 ys67 H68 hM ⟨hW, hk36, mu37, ln38, mu69⟩
          replace h_days_here := rep_keep hk36 (rep_new nl32 h_days_here)
          replace hk11 := Keep.trans (Keep.new hk11) hk36
          replace h19 := rep_keep hk36 (rep_new nl32 h19)
          replace hj25 := Keep.trans (Keep.new hj25) hk36
          clear hk36 ln38
          have h70 := mo_rep_dr dr_here nm46 mu37
          replace hW := wd_dr dr_here mu37.hp hW
          replace h_days_here := rep_dr dr_here h_days_here
          replace hk11 := keep_dr dr_here kn47 hk11
          replace h19 := rep_dr dr_here h19
          replace hj25 := keep_dr dr_here kn48 hj25
          replace mu69 := mo_dr dr_here ne49 mu69
          clear mu37
          apply rep_inL (f := V.int) (xs := ys67) h70 rfl (fun _ => rfl)
          refine ⟨_, rfl, ?_⟩
          refine ite3 hM (fun hM => ?_) (fun hM => ?_)
          · skip
            exact ⟨("h" : Str), hM, hW, hj25, rep_v, mu69⟩
          · skip
            exact ⟨("a" : Str), hM, hW, hj25, rep_v, mu69⟩
      · skip
        clear mu12
        rintro u73 Hj24 ⟨r71, hr, hW, hj25, h72, mu74⟩
        replace hM := hKKB23 r71 hr
        replace h_days_here := rep_keep hj25 h_days_here
        replace hk11 := Keep.trans hk11 hj25
        replace h19 := rep_keep hj25 h19
        obtain rfl := of_v h72
        refine mo_end mu74 hn (by rw [List.length_map]; exact ln13) fun vs75 hr76 => ?_
        have mk78 := mo_setL mu74 (repL_snoc (e := (fun y_ : Str => (D.v (V.str y_)))) (xs := ys9) (y := r71) hr76 rep_v)
        replace h_days_here := rep_put (o := .lst (vs75 ++ [V.str r71])) mu74.im h_days_here
        replace hk11 := keep_put (o := .lst (vs75 ++ [V.str r71])) mu74.im hk11
        replace h19 := rep_put (o := .lst (vs75 ++ [V.str r71])) mu74.im h19
        replace hW := wd_put (o := .lst (vs75 ++ [V.str r71])) hW mu74
        replace mu74 := mk78
        generalize upd Hj24 L6 (.lst (vs75 ++ [V.str r71])) = H79 at *
        replace mu74 : MutO (L6 :: ms) [] H_0 H79 L6 (D.lst ((ys9 ++ [r71]).map (fun y_ : Str => (D.v (V.str y_))))) := mu74
        clear mk78
        exact hN14 r71 _ hM ⟨hW, hk11, mu74, by rw [List.length_append]; exact Nat.add_le_add_right ln13 1⟩
    · skip
      rintro n8 ys80 H81 hM ⟨hW, hk11, mu12, ln13⟩
      replace h_days_here := rep_keep hk11 (rep_new nl7 h_days_here)
      clear hk11 ln13
      have h82 := mo_rep_dr dr_here nm21 mu12
      replace hW := wd_dr dr_here mu12.hp hW
      replace h_days_here := rep_dr dr_here h_days_here
      clear mu12
      obtain ⟨g83, hM⟩ := hM
      apply rep_join (a := ("" : Str)) (ys := ys80) h82 g83
      exact hQ (Txt.join ("" : Str) ys80) _ _ hM hW.out rep_v
def M_is (x_made : (List (List (Int × Int)))) (x_days_here : (List (List (Int × Int)))) (x_many_here : Int) (KM : Bool → Prop) : Prop :=
  (M_Table_size x_made fun r2 => (M_Table_len x_made fun r7 => ((0 ≤ r7 ∧ r7 < 4611686018427387904) ∧ (M_Table_rounds x_made fun r13 => ((rangeI (0 : Int) (x_days_here.length : Int)).length < 100000 ∧ mapC (fun (x29 : Int) (k22 : (List (Int × Int)) → Prop) => (M_Table_meetings x_made x29 fun r35 => (k22 r35))) (rangeI (0 : Int) (x_days_here.length : Int)) [] fun ys46 => ((plainX (D.lst (([(D.v (V.int r2)), (D.v (V.int r7)), (D.lst (r13.map (fun y_ : (List (Int × Int)) => (D.lst (y_.map (fun y_ : (Int × Int) => (D.tup [(D.v (V.int y_.1)), (D.v (V.int y_.2))]))))))), (D.lst (ys46.map (fun y_ : (List (Int × Int)) => (D.lst (y_.map (fun y_ : (Int × Int) => (D.tup [(D.v (V.int y_.1)), (D.v (V.int y_.2))])))))))] : List D).map (fun y_ : D => y_))) = true ∧ (pyX (D.lst (([(D.v (V.int r2)), (D.v (V.int r7)), (D.lst (r13.map (fun y_ : (List (Int × Int)) => (D.lst (y_.map (fun y_ : (Int × Int) => (D.tup [(D.v (V.int y_.1)), (D.v (V.int y_.2))]))))))), (D.lst (ys46.map (fun y_ : (List (Int × Int)) => (D.lst (y_.map (fun y_ : (Int × Int) => (D.tup [(D.v (V.int y_.1)), (D.v (V.int y_.2))])))))))] : List D).map (fun y_ : D => y_)))).showable = true ∧ (pyX (D.lst (([(D.v (V.int r2)), (D.v (V.int r7)), (D.lst (r13.map (fun y_ : (List (Int × Int)) => (D.lst (y_.map (fun y_ : (Int × Int) => (D.tup [(D.v (V.int y_.1)), (D.v (V.int y_.2))]))))))), (D.lst (ys46.map (fun y_ : (List (Int × Int)) => (D.lst (y_.map (fun y_ : (Int × Int) => (D.tup [(D.v (V.int y_.1)), (D.v (V.int y_.2))])))))))] : List D).map (fun y_ : D => y_)))).depth ≤ 60 ∧ (pyX (D.lst (([(D.v (V.int r2)), (D.v (V.int r7)), (D.lst (r13.map (fun y_ : (List (Int × Int)) => (D.lst (y_.map (fun y_ : (Int × Int) => (D.tup [(D.v (V.int y_.1)), (D.v (V.int y_.2))]))))))), (D.lst (ys46.map (fun y_ : (List (Int × Int)) => (D.lst (y_.map (fun y_ : (Int × Int) => (D.tup [(D.v (V.int y_.1)), (D.v (V.int y_.2))])))))))] : List D).map (fun y_ : D => y_)))).shown.length ≤ sizeLine) ∧ (M_sorted x_days_here fun r56 => (M_sorted x_days_here fun r61 => ((plainX (D.lst (([(D.v (V.int x_many_here)), (D.v (V.int (x_days_here.length : Int))), (D.lst (r56.map (fun y_ : (List (Int × Int)) => (D.lst (y_.map (fun y_ : (Int × Int) => (D.tup [(D.v (V.int y_.1)), (D.v (V.int y_.2))]))))))), (D.lst (r61.map (fun y_ : (List (Int × Int)) => (D.lst (y_.map (fun y_ : (Int × Int) => (D.tup [(D.v (V.int y_.1)), (D.v (V.int y_.2))])))))))] : List D).map (fun y_ : D => y_))) = true ∧ (pyX (D.lst (([(D.v (V.int x_many_here)), (D.v (V.int (x_days_here.length : Int))), (D.lst (r56.map (fun y_ : (List (Int × Int)) => (D.lst (y_.map (fun y_ : (Int × Int) => (D.tup [(D.v (V.int y_.1)), (D.v (V.int y_.2))]))))))), (D.lst (r61.map (fun y_ : (List (Int × Int)) => (D.lst (y_.map (fun y_ : (Int × Int) => (D.tup [(D.v (V.int y_.1)), (D.v (V.int y_.2))])))))))] : List D).map (fun y_ : D => y_)))).showable = true ∧ (pyX (D.lst (([(D.v (V.int x_many_here)), (D.v (V.int (x_days_here.length : Int))), (D.lst (r56.map (fun y_ : (List (Int × Int)) => (D.lst (y_.map (fun y_ : (Int × Int) => (D.tup [(D.v (V.int y_.1)), (D.v (V.int y_.2))]))))))), (D.lst (r61.map (fun y_ : (List (Int × Int)) => (D.lst (y_.map (fun y_ : (Int × Int) => (D.tup [(D.v (V.int y_.1)), (D.v (V.int y_.2))])))))))] : List D).map (fun y_ : D => y_)))).depth ≤ 60 ∧ (pyX (D.lst (([(D.v (V.int x_many_here)), (D.v (V.int (x_days_here.length : Int))), (D.lst (r56.map (fun y_ : (List (Int × Int)) => (D.lst (y_.map (fun y_ : (Int × Int) => (D.tup [(D.v (V.int y_.1)), (D.v (V.int y_.2))]))))))), (D.lst (r61.map (fun y_ : (List (Int × Int)) => (D.lst (y_.map (fun y_ : (Int × Int) => (D.tup [(D.v (V.int y_.1)), (D.v (V.int y_.2))])))))))] : List D).map (fun y_ : D => y_)))).shown.length ≤ sizeLine) ∧ (if (!(decide (V.str (pyX (D.lst (([(D.v (V.int r2)), (D.v (V.int r7)), (D.lst (r13.map (fun y_ : (List (Int × Int)) => (D.lst (y_.map (fun y_ : (Int × Int) => (D.tup [(D.v (V.int y_.1)), (D.v (V.int y_.2))]))))))), (D.lst (ys46.map (fun y_ : (List (Int × Int)) => (D.lst (y_.map (fun y_ : (Int × Int) => (D.tup [(D.v (V.int y_.1)), (D.v (V.int y_.2))])))))))] : List D).map (fun y_ : D => y_)))).shown = V.str (pyX (D.lst (([(D.v (V.int x_many_here)), (D.v (V.int (x_days_here.length : Int))), (D.lst (r56.map (fun y_ : (List (Int × Int)) => (D.lst (y_.map (fun y_ : (Int × Int) => (D.tup [(D.v (V.int y_.1)), (D.v (V.int y_.2))]))))))), (D.lst (r61.map (fun y_ : (List (Int × Int)) => (D.lst (y_.map (fun y_ : (Int × Int) => (D.tup [(D.v (V.int y_.1)), (D.v (V.int y_.2))])))))))] : List D).map (fun y_ : D => y_)))).shown))) = true then (KM false) else (M_Table_repr x_made fun r73 => (M_sorted x_days_here fun r78 => ((plainD (D.lst (r78.map (fun y_ : (List (Int × Int)) => (D.lst (y_.map (fun y_ : (Int × Int) => (D.tup [(D.v (V.int y_.1)), (D.v (V.int y_.2))]))))))) = true ∧ (pyOf (D.lst (r78.map (fun y_ : (List (Int × Int)) => (D.lst (y_.map (fun y_ : (Int × Int) => (D.tup [(D.v (V.int y_.1)), (D.v (V.int y_.2))])))))))).showable = true ∧ (pyOf (D.lst (r78.map (fun y_ : (List (Int × Int)) => (D.lst (y_.map (fun y_ : (Int × Int) => (D.tup [(D.v (V.int y_.1)), (D.v (V.int y_.2))])))))))).hasDict = false ∧ (pyOf (D.lst (r78.map (fun y_ : (List (Int × Int)) => (D.lst (y_.map (fun y_ : (Int × Int) => (D.tup [(D.v (V.int y_.1)), (D.v (V.int y_.2))])))))))).depth ≤ 60 ∧ (pyOf (D.lst (r78.map (fun y_ : (List (Int × Int)) => (D.lst (y_.map (fun y_ : (Int × Int) => (D.tup [(D.v (V.int y_.1)), (D.v (V.int y_.2))])))))))).shown.length ≤ sizeLine) ∧ ((("Table(" : Str).length + (pyOf (D.lst (r78.map (fun y_ : (List (Int × Int)) => (D.lst (y_.map (fun y_ : (Int × Int) => (D.tup [(D.v (V.int y_.1)), (D.v (V.int y_.2))])))))))).shown.length ≤ sizeLine) ∧ (((("Table(" : Str) ++ (pyOf (D.lst (r78.map (fun y_ : (List (Int × Int)) => (D.lst (y_.map (fun y_ : (Int × Int) => (D.tup [(D.v (V.int y_.1)), (D.v (V.int y_.2))])))))))).shown).length + (")" : Str).length ≤ sizeLine) ∧ (if (!(decide (V.str r73 = V.str ((("Table(" : Str) ++ (pyOf (D.lst (r78.map (fun y_ : (List (Int × Int)) => (D.lst (y_.map (fun y_ : (Int × Int) => (D.tup [(D.v (V.int y_.1)), (D.v (V.int y_.2))])))))))).shown) ++ (")" : Str))))) = true then (KM false) else ((rangeI (0 : Int) x_many_here).length < 100000 ∧ mapC (fun (x97 : Int) (k90 : Str → Prop) => (M_Table_row_of x_made x97 fun r103 => (k90 r103))) (rangeI (0 : Int) x_many_here) [] fun ys113 => ((rangeI (0 : Int) x_many_here).length < 100000 ∧ mapC (fun (x127 : Int) (k120 : Str → Prop) => (M_row x_days_here x127 fun r133 => (k120 r133))) (rangeI (0 : Int) x_many_here) [] fun ys143 => (((plainD (D.lst (ys113.map (fun y_ : Str => (D.v (V.str y_))))) = true ∧ plainD (D.lst (ys143.map (fun y_ : Str => (D.v (V.str y_))))) = true ∧ SeqAt.shaped (pyOf (D.lst (ys113.map (fun y_ : Str => (D.v (V.str y_)))))) = true ∧ SeqAt.shaped (pyOf (D.lst (ys143.map (fun y_ : Str => (D.v (V.str y_)))))) = true)) ∧ (KM (PyData.eqv (pyOf (D.lst (ys113.map (fun y_ : Str => (D.v (V.str y_)))))) (pyOf (D.lst (ys143.map (fun y_ : Str => (D.v (V.str y_)))))))))))))))))))))))))))
def sp_is (A : Ad) : Sp := fun vs H Q _ => ∃ (ms : List Addr) (v_made : V) (v_days_here : V) (x_made : (List (List (Int × Int)))) (x_days_here : (List (List (Int × Int)))) (x_many_here : Int) (KM : Bool → Prop), vs = [v_made, v_days_here, V.int x_many_here] ∧ Wd ms [] [] H H ∧ rep ms H (eTable A x_made) v_made ∧ rep ms H (D.lst (x_days_here.map (fun y_ : (List (Int × Int)) => (D.lst (y_.map (fun y_ : (Int × Int) => (D.tup [(D.v (V.int y_.1)), (D.v (V.int y_.2))]))))))) v_days_here ∧ M_is x_made x_days_here x_many_here KM ∧ ∀ (r : Bool) (u : V) (H1 : Hp), KM r → Ret [] H H1 → rep ms H1 (D.v (V.bl r)) u → Q u H1
set_option maxHeartbeats 16000000 in
theorem ok_is {P : Program} {w : World} {K : PySem.W.Frag} {mg : Str → Option Value} {base : Heap} {A : Ad} (T : Txt w K mg A) : FnG P w K mg base 5 A.a_is A.d_is ["_law_made", "_law_days_here", "_law_many_here"] (sp_is A) := by
  refine okG T.F_is sc_is (fun vs H Q E h => ?_) (fun cdv A_ outer s_ H_0 vs Q E gu hr h => ?_)
  · obtain ⟨ms, v_made, v_days_here, x_made, x_days_here, x_many_here, KM, rfl, _⟩ := h
    rfl
  · obtain ⟨ms, v_made, v_days_here, x_made, x_days_here, x_many_here, KM, rfl, hW, h_made, h_days_here, hM, hQ⟩ := h
    unfold M_is at hM
    refine ⟨_, (pss_cons (ps_set (i := 3) sc_is.nd rfl (by first | exact Or.inl rfl | exact Or.inr rfl) (pe_lst (pa_cons (pe_prop (pv 0) T.cl_Table T.p_Table_size (ok_Table_size T) (hr.mono (by decide)) T.b_Table_size .nil pass0 rfl) (pa_cons (pe_callB (call_lenOwn (ok_Table_len T) (hr.mono (by decide)) T.ow_Table_len T.b_Table_len pass0) (by rfl) T.z_len PySem.boot_len (pa_cons (pv 0) pa_nil)) (pa_cons (pe_meth0 (pv 0) T.cl_Table T.m_Table_rounds (ok_Table_rounds T) (hr.mono (by decide)) T.b_Table_rounds .nil pass0) (pa_cons (pe_lc (own := [("_law_at", 4)]) (g := gName 4) rfl sc_is.nd (pi_rangeW1 (by rfl) T.z_range (pa_cons (pe_callB (call_lenK (K := K) rfl) (by rfl) T.z_len PySem.boot_len (pa_cons (pv 1) pa_nil)) pa_nil)) (blkOk_by (N := ["_law_made", "_law_days_here", "_law_many_here", "_law_told", "_law_at", "_law_who"]) (sc := defScope s_is) (by decide +kernel)) (fun _ _ _ _ _ => pg_name (i := 4) sc_is.nd rfl (by first | exact Or.inl rfl | exact Or.inr rfl)) (fun _ _ _ _ _ => pts_nil) (fun _ _ _ _ _ => (pe_meth (pv 0) T.cl_Table T.m_Table_meetings (ok_Table_meetings T) (hr.mono (by decide)) T.b_Table_meetings .nil pass0 (pa_cons (pv 4) pa_nil)))) pa_nil)))))) (pss_cons (ps_if (pt_cmpR op_ne (pe_callB (call_reprY (by exact gu) (by have h_ := units65 hr; exact h_)) (by rfl) T.z_repr (by decide +kernel) (pa_cons (pv 3) pa_nil)) (pe_callB (call_reprY (by exact gu) (by have h_ := units65 hr; exact h_)) (by rfl) T.z_repr (by decide +kernel) (pa_cons (pe_lst (pa_cons (pv 2) (pa_cons (pe_callB (call_lenK (K := K) rfl) (by rfl) T.z_len PySem.boot_len (pa_cons (pv 1) pa_nil)) (pa_cons (pe_call (ok_sorted T) (hr.mono (by decide)) (by rfl) T.g_sorted T.F_sorted.kp T.b_sorted .nil pass0 (pa_cons (pv 1) pa_nil)) (pa_cons (pe_call (ok_sorted T) (hr.mono (by decide)) (by rfl) T.g_sorted T.F_sorted.kp T.b_sorted .nil pass0 (pa_cons (pv 1) pa_nil)) pa_nil))))) pa_nil)) (nomark _)) (pss_one (ps_ret pe_bl)) pss_nil) (pss_cons (ps_if (pt_cmpR op_ne (pe_callB (call_reprOwnG (ok_Table_repr T) gu (hr.mono (by decide)) T.ow_Table_repr T.b_Table_repr) (by rfl) T.z_repr (by decide +kernel) (pa_cons (pv 0) pa_nil)) (pe_op op_add_str (pe_op op_add_str pe_str (pe_callB (call_reprAK (K := K) rfl gu hr) (by rfl) T.z_repr (by decide +kernel) (pa_cons (pe_call (ok_sorted T) (hr.mono (by decide)) (by rfl) T.g_sorted T.F_sorted.kp T.b_sorted .nil pass0 (pa_cons (pv 1) pa_nil)) pa_nil))) pe_str) (nomark _)) (pss_one (ps_ret pe_bl)) pss_nil) (pss_one (ps_ret (pe_cmpR (op_eqDK (K := K) rfl hr.units) (pe_lc (own := [("_law_who", 5)]) (g := gName 5) rfl sc_is.nd (pi_rangeW1 (by rfl) T.z_range (pa_cons (pv 2) pa_nil)) (blkOk_by (N := ["_law_made", "_law_days_here", "_law_many_here", "_law_told", "_law_at", "_law_who"]) (sc := defScope s_is) (by decide +kernel)) (fun _ _ _ _ _ => pg_name (i := 5) sc_is.nd rfl (by first | exact Or.inl rfl | exact Or.inr rfl)) (fun _ _ _ _ _ => pts_nil) (fun _ _ _ _ _ => (pe_meth (pv 0) T.cl_Table T.m_Table_row_of (ok_Table_row_of T) (hr.mono (by decide)) T.b_Table_row_of .nil pass0 (pa_cons (pv 5) pa_nil)))) (pe_lc (own := [("_law_who", 5)]) (g := gName 5) rfl sc_is.nd (pi_rangeW1 (by rfl) T.z_range (pa_cons (pv 2) pa_nil)) (blkOk_by (N := ["_law_made", "_law_days_here", "_law_many_here", "_law_told", "_law_at", "_law_who"]) (sc := defScope s_is) (by decide +kernel)) (fun _ _ _ _ _ => pg_name (i := 5) sc_is.nd rfl (by first | exact Or.inl rfl | exact Or.inr rfl)) (fun _ _ _ _ _ => pts_nil) (fun _ _ _ _ _ => (pe_call (ok_row T) (hr.mono (by decide)) (by rfl) T.g_row T.F_row.kp T.b_row .nil pass0 (pa_cons (pv 1) (pa_cons (pv 5) pa_nil))))) (nomark _))))))), ?_⟩
    refine ⟨_, rfl, ?_⟩
    apply rep_prop h_made
    intro _ h1
    refine ⟨ms, _, x_made, _, rfl, hW.enter0, h1, hM, fun r2 u5 H6 hM e4 h3 => ?_⟩
    replace h_made := rep_ext e4 h_made
    replace h_days_here := rep_ext e4 h_days_here
    replace hW := hW.ret0 e4
    obtain rfl := of_v h3
    refine ⟨_, rfl, ?_⟩
    apply rep_ownLen h_made
    refine ⟨ms, _, x_made, _, rfl, hW.enter0, h_made, hM, fun r7 u10 H11 hM e9 h8 => ?_⟩
    replace h_made := rep_ext e9 h_made
    replace h_days_here := rep_ext e9 h_days_here
    replace hW := hW.ret0 e9
    obtain rfl := of_v h8
    obtain ⟨g12, hM⟩ := hM
    refine ⟨_, rfl, g12, ?_⟩
    refine ⟨_, rfl, ?_⟩
    apply rep_meth (m := "rounds") h_made (by decide +kernel)
    refine ⟨ms, _, x_made, _, rfl, hW.enter0, h_made, hM, fun r13 u16 H17 hM e15 h14 => ?_⟩
    replace h_made := rep_ext e15 h_made
    replace h_days_here := rep_ext e15 h_days_here
    replace hW := hW.ret0 e15
    refine ⟨_, rfl, ?_⟩
    apply rep_lenL (e := (fun y_ : (List (Int × Int)) => (D.lst (y_.map (fun y_ : (Int × Int) => (D.tup [(D.v (V.int y_.1)), (D.v (V.int y_.2))])))))) (xs := x_days_here) h_days_here
    refine ⟨_, rfl, ?_⟩
    refine fun L18 nl19 => ?_
    have nm33 := nm_new hW nl19
    refine lc_rangeG (L := L18) (fun n_ ys_ h_ => Wd (L18 :: ms) [] [] H_0 h_ ∧ Keep (L18 :: ms) H17 h_ ∧ MutO (L18 :: ms) [] H_0 h_ L18 (D.lst (ys_.map (fun y_ : (List (Int × Int)) => (D.lst (y_.map (fun y_ : (Int × Int) => (D.tup [(D.v (V.int y_.1)), (D.v (V.int y_.2))]))))))) ∧ ys_.length ≤ n_) (lo := (0 : Int)) (hi := (x_days_here.length : Int)) (N := Int.toNat (x_days_here.length : Int)) (by simp) hM ⟨wd_cell hW nl19, keep_cell nl19 Keep.refl, mo_newL (ds := []) hW nl19 repL_nil, Nat.le_refl _⟩ ?_ ?_
    · skip
      rintro x29  n20 ys21 k22 H34 hn ⟨hW, hk23, mu24, ln25⟩ hM Nx28 hN26
      replace h_made := rep_keep hk23 (rep_new nl19 h_made)
      replace h_days_here := rep_keep hk23 (rep_new nl19 h_days_here)
      replace h14 := rep_keep hk23 (rep_new nl19 h14)
      refine ⟨rfl, ?_⟩
      refine tyes_of ?_
      refine ⟨_, rfl, ?_⟩
      apply rep_meth (m := "meetings") h_made (by decide +kernel)
      refine ⟨_, rfl, ?_⟩
      refine ⟨(L18 :: ms), _, x_made, x29, _, rfl, hW.enter0, h_made, hM, fun r35 u38 H39 hM e37 h36 hfr40 => ?_⟩
      replace h_made := rep_ext e37 h_made
      replace h_days_here := rep_ext e37 h_days_here
      replace h14 := rep_ext e37 h14
      replace hk23 := keep_ext e37 hk23
      replace mu24 := mo_ext e37 mu24
      replace hW := hW.ret0 e37
      refine mo_end mu24 hn (by rw [List.length_map]; exact ln25) fun vs41 hr42 => ?_
      have mk44 := mo_setL mu24 (repL_snoc (e := (fun y_ : (List (Int × Int)) => (D.lst (y_.map (fun y_ : (Int × Int) => (D.tup [(D.v (V.int y_.1)), (D.v (V.int y_.2))])))))) (xs := ys21) (y := r35) hr42 h36)
      replace h_made := rep_put (o := .lst (vs41 ++ [u38])) mu24.im h_made
      replace h_days_here := rep_put (o := .lst (vs41 ++ [u38])) mu24.im h_days_here
      replace h14 := rep_put (o := .lst (vs41 ++ [u38])) mu24.im h14
      replace hk23 := keep_put (o := .lst (vs41 ++ [u38])) mu24.im hk23
      replace h36 := rep_put (o := .lst (vs41 ++ [u38])) mu24.im h36
      replace hW := wd_put (o := .lst (vs41 ++ [u38])) hW mu24
      replace mu24 := mk44
      generalize upd H39 L18 (.lst (vs41 ++ [u38])) = H45 at *
      replace mu24 : MutO (L18 :: ms) [] H_0 H45 L18 (D.lst ((ys21 ++ [r35]).map (fun y_ : (List (Int × Int)) => (D.lst (y_.map (fun y_ : (Int × Int) => (D.tup [(D.v (V.int y_.1)), (D.v (V.int y_.2))]))))))) := mu24
      clear mk44
      exact hN26 r35 _ hM ⟨hW, hk23, mu24, by rw [List.length_append]; exact Nat.add_le_add_right ln25 1⟩
    · skip
      rintro n20 ys46 H47 hM ⟨hW, hk23, mu24, ln25⟩
      replace h_made := rep_keep hk23 (rep_new nl19 h_made)
      replace h_days_here := rep_keep hk23 (rep_new nl19 h_days_here)
      replace h14 := rep_keep hk23 (rep_new nl19 h14)
      clear hk23 ln25
      have h48 := mo_rep_dr dr_here nm33 mu24
      replace hW := wd_dr dr_here mu24.hp hW
      replace h_made := rep_dr dr_here h_made
      replace h_days_here := rep_dr dr_here h_days_here
      replace h14 := rep_dr dr_here h14
      clear mu24
      refine ⟨(by show 4 ≤ sizeLine; decide), ?_⟩
      intro p49 n53
      have e50 := Rx.Ext.new (H := H47) (o := (HO.lst [V.int r2, V.int r7, u16, (V.ref L18)])) n53
      have hp51 : upd H47 p49 (HO.lst [V.int r2, V.int r7, u16, (V.ref L18)]) p49 = some (HO.lst [V.int r2, V.int r7, u16, (V.ref L18)]) := upd_same
      generalize upd H47 p49 (HO.lst [V.int r2, V.int r7, u16, (V.ref L18)]) = H54 at e50 hp51 ⊢
      have h52 : rep ms H54 (D.lst (([(D.v (V.int r2)), (D.v (V.int r7)), (D.lst (r13.map (fun y_ : (List (Int × Int)) => (D.lst (y_.map (fun y_ : (Int × Int) => (D.tup [(D.v (V.int y_.1)), (D.v (V.int y_.2))]))))))), (D.lst (ys46.map (fun y_ : (List (Int × Int)) => (D.lst (y_.map (fun y_ : (Int × Int) => (D.tup [(D.v (V.int y_.1)), (D.v (V.int y_.2))])))))))] : List D).map (fun y_ : D => y_))) (.ref p49) := rep_lst_mk hW n53 e50 hp51 (repL_cons rep_v (repL_cons rep_v (repL_cons h14 (repL_cons h48 repL_nil))))
      replace h_made := rep_ext e50 h_made
      replace h_days_here := rep_ext e50 h_days_here
      replace h14 := rep_ext e50 h14
      replace h48 := rep_ext e50 h48
      replace hW := hW.ret0 e50
      refine ⟨_, rfl, ?_⟩
      obtain ⟨g55, hM⟩ := hM
      refine rep_reprY (d := (D.lst (([(D.v (V.int r2)), (D.v (V.int r7)), (D.lst (r13.map (fun y_ : (List (Int × Int)) => (D.lst (y_.map (fun y_ : (Int × Int) => (D.tup [(D.v (V.int y_.1)), (D.v (V.int y_.2))]))))))), (D.lst (ys46.map (fun y_ : (List (Int × Int)) => (D.lst (y_.map (fun y_ : (Int × Int) => (D.tup [(D.v (V.int y_.1)), (D.v (V.int y_.2))])))))))] : List D).map (fun y_ : D => y_)))) h52 g55 ?_
      refine ⟨_, rfl, ?_⟩
      refine ⟨_, rfl, ?_⟩
      apply rep_lenL (e := (fun y_ : (List (Int × Int)) => (D.lst (y_.map (fun y_ : (Int × Int) => (D.tup [(D.v (V.int y_.1)), (D.v (V.int y_.2))])))))) (xs := x_days_here) h_days_here
      refine ⟨_, rfl, ?_⟩
      refine ⟨ms, _, x_days_here, _, rfl, hW.enter0, h_days_here, hM, fun r56 u59 H60 hM e58 h57 => ?_⟩
      replace h_made := rep_ext e58 h_made
      replace h_days_here := rep_ext e58 h_days_here
      replace h14 := rep_ext e58 h14
      replace h48 := rep_ext e58 h48
      replace h52 := rep_ext e58 h52
      replace hW := hW.ret0 e58
      refine ⟨_, rfl, ?_⟩
      refine ⟨ms, _, x_days_here, _, rfl, hW.enter0, h_days_here, hM, fun r61 u64 H65 hM e63 h62 => ?_⟩
      replace h_made := rep_ext e63 h_made
      replace h_days_here := rep_ext e63 h_days_here
      replace h14 := rep_ext e63 h14
      replace h48 := rep_ext e63 h48
      replace h52 := rep_ext e63 h52
      replace h57 := rep_ext e63 h57
      replace hW := hW.ret0 e63
      refine ⟨(by show 4 ≤ sizeLine; decide), ?_⟩
      intro p66 n70
      have e67 := Rx.Ext.new (H := H65) (o := (HO.lst [V.int x_many_here, V.int (x_days_here.length : Int), u59, u64])) n70
      have hp68 : upd H65 p66 (HO.lst [V.int x_many_here, V.int (x_days_here.length : Int), u59, u64]) p66 = some (HO.lst [V.int x_many_here, V.int (x_days_here.length : Int), u59, u64]) := upd_same
      generalize upd H65 p66 (HO.lst [V.int x_many_here, V.int (x_days_here.length : Int), u59, u64]) = H71 at e67 hp68 ⊢
      have h69 : rep ms H71 (D.lst (([(D.v (V.int x_many_here)), (D.v (V.int (x_days_here.length : Int))), (D.lst (r56.map (fun y_ : (List (Int × Int)) => (D.lst (y_.map (fun y_ : (Int × Int) => (D.tup [(D.v (V.int y_.1)), (D.v (V.int y_.2))]))))))), (D.lst (r61.map (fun y_ : (List (Int × Int)) => (D.lst (y_.map (fun y_ : (Int × Int) => (D.tup [(D.v (V.int y_.1)), (D.v (V.int y_.2))])))))))] : List D).map (fun y_ : D => y_))) (.ref p66) := rep_lst_mk hW n70 e67 hp68 (repL_cons rep_v (repL_cons rep_v (repL_cons h57 (repL_cons h62 repL_nil))))
      replace h_made := rep_ext e67 h_made
      replace h_days_here := rep_ext e67 h_days_here
      replace h14 := rep_ext e67 h14
      replace h48 := rep_ext e67 h48
      replace h52 := rep_ext e67 h52
      replace h57 := rep_ext e67 h57
      replace h62 := rep_ext e67 h62
      replace hW := hW.ret0 e67
      obtain ⟨g72, hM⟩ := hM
      refine rep_reprY (d := (D.lst (([(D.v (V.int x_many_here)), (D.v (V.int (x_days_here.length : Int))), (D.lst (r56.map (fun y_ : (List (Int × Int)) => (D.lst (y_.map (fun y_ : (Int × Int) => (D.tup [(D.v (V.int y_.1)), (D.v (V.int y_.2))]))))))), (D.lst (r61.map (fun y_ : (List (Int × Int)) => (D.lst (y_.map (fun y_ : (Int × Int) => (D.tup [(D.v (V.int y_.1)), (D.v (V.int y_.2))])))))))] : List D).map (fun y_ : D => y_)))) h69 g72 ?_
      refine ⟨rfl, ?_⟩
      refine ⟨_, rfl, ?_⟩
      refine ite3 hM (fun hM => ?_) (fun hM => ?_)
      · skip
        exact hQ false _ _ hM hW.out rep_v
      · skip
        refine ⟨_, rfl, ?_⟩
        apply rep_ownText h_made
        refine ⟨ms, _, x_made, _, rfl, hW.enter0, h_made, hM, fun r73 u76 H77 hM e75 h74 => ?_⟩
        replace h_made := rep_ext e75 h_made
        replace h_days_here := rep_ext e75 h_days_here
        replace h14 := rep_ext e75 h14
        replace h48 := rep_ext e75 h48
        replace h52 := rep_ext e75 h52
        replace h57 := rep_ext e75 h57
        replace h62 := rep_ext e75 h62
        replace h69 := rep_ext e75 h69
        replace hW := hW.ret0 e75
        obtain rfl := of_v h74
        refine ⟨_, rfl, ?_⟩
        refine ⟨_, rfl, ?_⟩
        refine ⟨ms, _, x_days_here, _, rfl, hW.enter0, h_days_here, hM, fun r78 u81 H82 hM e80 h79 => ?_⟩
        replace h_made := rep_ext e80 h_made
        replace h_days_here := rep_ext e80 h_days_here
        replace h14 := rep_ext e80 h14
        replace h48 := rep_ext e80 h48
        replace h52 := rep_ext e80 h52
        replace h57 := rep_ext e80 h57
        replace h62 := rep_ext e80 h62
        replace h69 := rep_ext e80 h69
        replace hW := hW.ret0 e80
        obtain ⟨g83, hM⟩ := hM
        apply rep_repr (d := (D.lst (r78.map (fun y_ : (List (Int × Int)) => (D.lst (y_.map (fun y_ : (Int × Int) => (D.tup [(D.v (V.int y_.1)), (D.v (V.int y_.2))])))))))) h79 g83.1 g83.2.1 g83.2.2.1 g83.2.2.2.1 g83.2.2.2.2
        obtain ⟨g84, hM⟩ := hM
        refine ⟨_, _, rfl, rfl, g84, ?_⟩
        obtain ⟨g85, hM⟩ := hM
        refine ⟨_, _, rfl, rfl, g85, ?_⟩
        refine ⟨rfl, ?_⟩
        refine ⟨_, rfl, ?_⟩
        refine ite3 hM (fun hM => ?_) (fun hM => ?_)
        · skip
          exact hQ false _ _ hM hW.out rep_v
        · skip
          refine ⟨_, rfl, ?_⟩
          refine ⟨_, rfl, ?_⟩
          refine fun L86 nl87 => ?_
          have nm101 := nm_new hW nl87
          refine lc_rangeG (L := L86) (fun n_ ys_ h_ => Wd (L86 :: ms) [] [] H_0 h_ ∧ Keep (L86 :: ms) H82 h_ ∧ MutO (L86 :: ms) [] H_0 h_ L86 (D.lst (ys_.map (fun y_ : Str => (D.v (V.str y_))))) ∧ ys_.length ≤ n_) (lo := (0 : Int)) (hi := x_many_here) (N := Int.toNat x_many_here) (by simp) hM ⟨wd_cell hW nl87, keep_cell nl87 Keep.refl, mo_newL (ds := []) hW nl87 repL_nil, Nat.le_refl _⟩ ?_ ?_
          · skip
            rintro x97  n88 ys89 k90 H102 hn ⟨hW, hk91, mu92, ln93⟩ hM Nx96 hN94
            replace h_made := rep_keep hk91 (rep_new nl87 h_made)
            replace h_days_here := rep_keep hk91 (rep_new nl87 h_days_here)
            replace h14 := rep_keep hk91 (rep_new nl87 h14)
            replace h48 := rep_keep hk91 (rep_new nl87 h48)
            replace h52 := rep_keep hk91 (rep_new nl87 h52)
            replace h57 := rep_keep hk91 (rep_new nl87 h57)
            replace h62 := rep_keep hk91 (rep_new nl87 h62)
            replace h69 := rep_keep hk91 (rep_new nl87 h69)
            replace h79 := rep_keep hk91 (rep_new nl87 h79)
            refine ⟨rfl, ?_⟩
            refine tyes_of ?_
            refine ⟨_, rfl, ?_⟩
            apply rep_meth (m := "row_of") h_made (by decide +kernel)
            refine ⟨_, rfl, ?_⟩
            refine ⟨(L86 :: ms), _, x_made, x97, _, rfl, hW.enter0, h_made, hM, fun r103 u106 H107 hM e105 h104 => ?_⟩
            replace h_made := rep_ext e105 h_made
            replace h_days_here := rep_ext e105 h_days_here
            replace h14 := rep_ext e105 h14
            replace h48 := rep_ext e105 h48
            replace h52 := rep_ext e105 h52
            replace h57 := rep_ext e105 h57
            replace h62 := rep_ext e105 h62
            replace h69 := rep_ext e105 h69
            replace h79 := rep_ext e105 h79
            replace hk91 := keep_ext e105 hk91
            replace mu92 := mo_ext e105 mu92
            replace hW := hW.ret0 e105
            obtain rfl := of_v h104
            refine mo_end mu92 hn (by rw [List.length_map]; exact ln93) fun vs108 hr109 => ?_
            have mk111 := mo_setL mu92 (repL_snoc (e := (fun y_ : Str => (D.v (V.str y_)))) (xs := ys89) (y := r103) hr109 rep_v)
            replace h_made := rep_put (o := .lst (vs108 ++ [V.str r103])) mu92.im h_made
            replace h_days_here := rep_put (o := .lst (vs108 ++ [V.str r103])) mu92.im h_days_here
            replace h14 := rep_put (o := .lst (vs108 ++ [V.str r103])) mu92.im h14
            replace h48 := rep_put (o := .lst (vs108 ++ [V.str r103])) mu92.im h48
            replace h52 := rep_put (o := .lst (vs108 ++ [V.str r103])) mu92.im h52
            replace h57 := rep_put (o := .lst (vs108 ++ [V.str r103])) mu92.im h57
            replace h62 := rep_put (o := .lst (vs108 ++ [V.str r103])) mu92.im h62
            replace h69 := rep_put (o := .lst (vs108 ++ [V.str r103])) mu92.im h69
            replace h79 := rep_put (o := .lst (vs108 ++ [V.str r103])) mu92.im h79
            replace hk91 := keep_put (o := .lst (vs108 ++ [V.str r103])) mu92.im hk91
            replace hW := wd_put (o := .lst (vs108 ++ [V.str r103])) hW mu92
            replace mu92 := mk111
            generalize upd H107 L86 (.lst (vs108 ++ [V.str r103])) = H112 at *
            replace mu92 : MutO (L86 :: ms) [] H_0 H112 L86 (D.lst ((ys89 ++ [r103]).map (fun y_ : Str => (D.v (V.str y_))))) := mu92
            clear mk111
            exact hN94 r103 _ hM ⟨hW, hk91, mu92, by rw [List.length_append]; exact Nat.add_le_add_right ln93 1⟩
          · skip
            rintro n88 ys113 H114 hM ⟨hW, hk91, mu92, ln93⟩
            replace h_made := rep_keep hk91 (rep_new nl87 h_made)
            replace h_days_here := rep_keep hk91 (rep_new nl87 h_days_here)
            replace h14 := rep_keep hk91 (rep_new nl87 h14)
            replace h48 := rep_keep hk91 (rep_new nl87 h48)
            replace h52 := rep_keep hk91 (rep_new nl87 h52)
            replace h57 := rep_keep hk91 (rep_new nl87 h57)
            replace h62 := rep_keep hk91 (rep_new nl87 h62)
            replace h69 := rep_keep hk91 (rep_new nl87 h69)
            replace h79 := rep_keep hk91 (rep_new nl87 h79)
            clear hk91 ln93
            have h115 := mo_rep_dr dr_here nm101 mu92
            replace hW := wd_dr dr_here mu92.hp hW
            replace h_made := rep_dr dr_here h_made
            replace h_days_here := rep_dr dr_here h_days_here
            replace h14 := rep_dr dr_here h14
            replace h48 := rep_dr dr_here h48
            replace h52 := rep_dr dr_here h52
            replace h57 := rep_dr dr_here h57
            replace h62 := rep_dr dr_here h62
            replace h69 := rep_dr dr_here h69
            replace h79 := rep_dr dr_here h79
            clear mu92
            refine ⟨_, rfl, ?_⟩
            refine ⟨_, rfl, ?_⟩
            refine fun L116 nl117 => ?_
            have nm131 := nm_new hW nl117
            refine lc_rangeG (L := L116) (fun n_ ys_ h_ => Wd (L116 :: ms) [] [] H_0 h_ ∧ Keep (L116 :: ms) H114 h_ ∧ MutO (L116 :: ms) [] H_0 h_ L116 (D.lst (ys_.map (fun y_ : Str => (D.v (V.str y_))))) ∧ ys_.length ≤ n_) (lo := (0 : Int)) (hi := x_many_here) (N := Int.toNat x_many_here) (by simp) hM ⟨wd_cell hW nl117, keep_cell nl117 Keep.refl, mo_newL (ds := []) hW nl117 repL_nil, Nat.le_refl _⟩ ?_ ?_
            · skip
              rintro x127  n118 ys119 k120 H132 hn ⟨hW, hk121, mu122, ln123⟩ hM Nx126 hN124
              replace h_made := rep_keep hk121 (rep_new nl117 h_made)
              replace h_days_here := rep_keep hk121 (rep_new nl117 h_days_here)
              replace h14 := rep_keep hk121 (rep_new nl117 h14)
              replace h48 := rep_keep hk121 (rep_new nl117 h48)
              replace h52 := rep_keep hk121 (rep_new nl117 h52)
              replace h57 := rep_keep hk121 (rep_new nl117 h57)
              replace h62 := rep_keep hk121 (rep_new nl117 h62)
              replace h69 := rep_keep hk121 (rep_new nl117 h69)
              replace h79 := rep_keep hk121 (rep_new nl117 h79)
              replace h115 := rep_keep hk121 (rep_new nl117 h115)
              refine ⟨rfl, ?_⟩
              refine tyes_of ?_
              refine ⟨_, rfl, ?_⟩
              refine ⟨_, rfl, ?_⟩
              refine ⟨(L116 :: ms), _, x_days_here, x127, _, rfl, hW.enter0, h_days_here, hM, fun r133 u136 H137 hM e135 h134 => ?_⟩
              replace h_made := rep_ext e135 h_made
              replace h_days_here := rep_ext e135 h_days_here
              replace h14 := rep_ext e135 h14
              replace h48 := rep_ext e135 h48
              replace h52 := rep_ext e135 h52
              replace h57 := rep_ext e135 h57
              replace h62 := rep_ext e135 h62
              replace h69 := rep_ext e135 h69
              replace h79 := rep_ext e135 h79
              replace h115 := rep_ext e135 h115
              replace hk121 := keep_ext e135 hk121
              replace mu122 := mo_ext e135 mu122
              replace hW := hW.ret0 e135
              obtain rfl := of_v h134
              refine mo_end mu122 hn (by rw [List.length_map]; exact ln123) fun vs138 hr139 => ?_
              have mk141 := mo_setL mu122 (repL_snoc (e := (fun y_ : Str => (D.v (V.str y_)))) (xs := ys119) (y := r133) hr139 rep_v)
              replace h_made := rep_put (o := .lst (vs138 ++ [V.str r133])) mu122.im h_made
              replace h_days_here := rep_put (o := .lst (vs138 ++ [V.str r133])) mu122.im h_days_here
              replace h14 := rep_put (o := .lst (vs138 ++ [V.str r133])) mu122.im h14
              replace h48 := rep_put (o := .lst (vs138 ++ [V.str r133])) mu122.im h48
              replace h52 := rep_put (o := .lst (vs138 ++ [V.str r133])) mu122.im h52
              replace h57 := rep_put (o := .lst (vs138 ++ [V.str r133])) mu122.im h57
              replace h62 := rep_put (o := .lst (vs138 ++ [V.str r133])) mu122.im h62
              replace h69 := rep_put (o := .lst (vs138 ++ [V.str r133])) mu122.im h69
              replace h79 := rep_put (o := .lst (vs138 ++ [V.str r133])) mu122.im h79
              replace h115 := rep_put (o := .lst (vs138 ++ [V.str r133])) mu122.im h115
              replace hk121 := keep_put (o := .lst (vs138 ++ [V.str r133])) mu122.im hk121
              replace hW := wd_put (o := .lst (vs138 ++ [V.str r133])) hW mu122
              replace mu122 := mk141
              generalize upd H137 L116 (.lst (vs138 ++ [V.str r133])) = H142 at *
              replace mu122 : MutO (L116 :: ms) [] H_0 H142 L116 (D.lst ((ys119 ++ [r133]).map (fun y_ : Str => (D.v (V.str y_))))) := mu122
              clear mk141
              exact hN124 r133 _ hM ⟨hW, hk121, mu122, by rw [List.length_append]; exact Nat.add_le_add_right ln123 1⟩
            · skip
              rintro n118 ys143 H144 hM ⟨hW, hk121, mu122, ln123⟩
              replace h_made := rep_keep hk121 (rep_new nl117 h_made)
              replace h_days_here := rep_keep hk121 (rep_new nl117 h_days_here)
              replace h14 := rep_keep hk121 (rep_new nl117 h14)
              replace h48 := rep_keep hk121 (rep_new nl117 h48)
              replace h52 := rep_keep hk121 (rep_new nl117 h52)
              replace h57 := rep_keep hk121 (rep_new nl117 h57)
              replace h62 := rep_keep hk121 (rep_new nl117 h62)
              replace h69 := rep_keep hk121 (rep_new nl117 h69)
              replace h79 := rep_keep hk121 (rep_new nl117 h79)
              replace h115 := rep_keep hk121 (rep_new nl117 h115)
              clear hk121 ln123
              have h145 := mo_rep_dr dr_here nm131 mu122
              replace hW := wd_dr dr_here mu122.hp hW
              replace h_made := rep_dr dr_here h_made
              replace h_days_here := rep_dr dr_here h_days_here
              replace h14 := rep_dr dr_here h14
              replace h48 := rep_dr dr_here h48
              replace h52 := rep_dr dr_here h52
              replace h57 := rep_dr dr_here h57
              replace h62 := rep_dr dr_here h62
              replace h69 := rep_dr dr_here h69
              replace h79 := rep_dr dr_here h79
              replace h115 := rep_dr dr_here h115
              clear mu122
              obtain ⟨g146, hM⟩ := hM
              apply rep_eqD (d := (D.lst (ys113.map (fun y_ : Str => (D.v (V.str y_)))))) (e := (D.lst (ys143.map (fun y_ : Str => (D.v (V.str y_)))))) h115 h145 g146.1 g146.2.1 g146.2.2.1 g146.2.2.2
              exact hQ (PyData.eqv (pyOf (D.lst (ys113.map (fun y_ : Str => (D.v (V.str y_)))))) (pyOf (D.lst (ys143.map (fun y_ : Str => (D.v (V.str y_))))))) _ _ hM hW.out rep_v
def M_check_pair (x_one : Int) (x_other : Int) (x_teams : Int) (KM : Unit → Prop) : Prop :=
  (M_check_team x_one x_teams fun r1 => (M_check_team x_other x_teams fun r6 => (if (decide (V.int x_one = V.int x_other)) = true then False else (KM ()))))
def sp_check_pair (A : Ad) : Sp := fun vs H Q _ => ∃ (ms : List Addr) (x_one : Int) (x_other : Int) (x_teams : Int) (KM : Unit → Prop), vs = [V.int x_one, V.int x_other, V.int x_teams] ∧ Wd ms [] [] H H ∧ M_check_pair x_one x_other x_teams KM ∧ ∀ (r : Unit) (u : V) (H1 : Hp), KM r → Ret [] H H1 → rep ms H1 (D.v V.non) u → Q u H1
set_option maxHeartbeats 16000000 in
theorem ok_check_pair {P : Program} {w : World} {K : PySem.W.Frag} {mg : Str → Option Value} {base : Heap} {A : Ad} (T : Txt w K mg A) : FnOk P w K mg base CX0 4 A.a_check_pair A.d_check_pair ["one", "other", "teams"] (sp_check_pair A) := by
  refine T.F_check_pair.ok sc_check_pair (fun vs H Q E h => ?_) (fun cdv A_ outer s_ H_0 vs Q E hr h => ?_)
  · obtain ⟨ms, x_one, x_other, x_teams, KM, rfl, _⟩ := h
    rfl
  · obtain ⟨ms, x_one, x_other, x_teams, KM, rfl, hW, hM, hQ⟩ := h
    unfold M_check_pair at hM
    refine ⟨_, (pss_cons (ps_expr (pe_call (ok_check_team T) (hr.mono (by decide)) (by rfl) T.g_check_team T.F_check_team.kp T.b_check_team .nil pass0 (pa_cons (pv 0) (pa_cons (pv 2) pa_nil)))) (pss_cons (ps_expr (pe_call (ok_check_team T) (hr.mono (by decide)) (by rfl) T.g_check_team T.F_check_team.kp T.b_check_team .nil pass0 (pa_cons (pv 1) (pa_cons (pv 2) pa_nil)))) (pss_one (ps_if (pt_cmpR op_eq (pv 0) (pv 1) (nomark _)) (pss_one ps_never) pss_nil)))), ?_⟩
    refine ⟨_, rfl, ?_⟩
    refine ⟨_, rfl, ?_⟩
    refine ⟨ms, x_one, x_teams, _, rfl, hW.enter0, hM, fun r1 u4 H5 hM e3 h2 => ?_⟩
    replace hW := hW.ret0 e3
    obtain rfl := of_v h2
    refine ⟨_, rfl, ?_⟩
    refine ⟨_, rfl, ?_⟩
    refine ⟨ms, x_other, x_teams, _, rfl, hW.enter0, hM, fun r6 u9 H10 hM e8 h7 => ?_⟩
    replace hW := hW.ret0 e8
    obtain rfl := of_v h7
    refine ⟨_, rfl, ?_⟩
    refine ⟨_, rfl, ?_⟩
    refine ⟨rfl, ?_⟩
    refine ⟨_, rfl, ?_⟩
    refine ite3 hM (fun hM => ?_) (fun hM => ?_)
    · skip
      exact hM
    · skip
      exact hQ () _ _ hM hW.out rep_v
def M_Table_met_in (x_self : (List (List (Int × Int)))) (x_one : Int) (x_other : Int) (KM : (List Int) → Prop) : Prop :=
  (M_Table_size x_self fun r2 => (M_check_pair x_one x_other r2 fun r7 => (((rangeI 0 (x_self.length : Int)).zip x_self).length < 100000 ∧ filC (fun (x30 : (Int × (List (Int × Int)))) (k23 : Option Int → Prop) => ((plainD (D.tup [(D.v (V.int (x_one, x_other).1)), (D.v (V.int (x_one, x_other).2))]) = true ∧ plainD (D.lst (x30.2.map (fun y_ : (Int × Int) => (D.tup [(D.v (V.int y_.1)), (D.v (V.int y_.2))])))) = true ∧ SeqAt.shaped (pyOf (D.tup [(D.v (V.int (x_one, x_other).1)), (D.v (V.int (x_one, x_other).2))])) = true ∧ SeqAt.shaped (pyOf (D.lst (x30.2.map (fun y_ : (Int × Int) => (D.tup [(D.v (V.int y_.1)), (D.v (V.int y_.2))]))))) = true) ∧ (if (inDv (D.tup [(D.v (V.int (x_one, x_other).1)), (D.v (V.int (x_one, x_other).2))]) (x30.2.map (fun y_ : (Int × Int) => (D.tup [(D.v (V.int y_.1)), (D.v (V.int y_.2))])))) = true then (k23 (some x30.1)) else ((plainD (D.tup [(D.v (V.int (x_other, x_one).1)), (D.v (V.int (x_other, x_one).2))]) = true ∧ plainD (D.lst (x30.2.map (fun y_ : (Int × Int) => (D.tup [(D.v (V.int y_.1)), (D.v (V.int y_.2))])))) = true ∧ SeqAt.shaped (pyOf (D.tup [(D.v (V.int (x_other, x_one).1)), (D.v (V.int (x_other, x_one).2))])) = true ∧ SeqAt.shaped (pyOf (D.lst (x30.2.map (fun y_ : (Int × Int) => (D.tup [(D.v (V.int y_.1)), (D.v (V.int y_.2))]))))) = true) ∧ (if (inDv (D.tup [(D.v (V.int (x_other, x_one).1)), (D.v (V.int (x_other, x_one).2))]) (x30.2.map (fun y_ : (Int × Int) => (D.tup [(D.v (V.int y_.1)), (D.v (V.int y_.2))])))) = true then (k23 (some x30.1)) else (k23 none)))))) ((rangeI 0 (x_self.length : Int)).zip x_self) [] fun ys72 => (KM ys72))))
def sp_Table_met_in (A : Ad) : Sp := fun vs H Q _ => ∃ (ms : List Addr) (v_self : V) (x_self : (List (List (Int × Int)))) (x_one : Int) (x_other : Int) (KM : (List Int) → Prop), vs = [v_self, V.int x_one, V.int x_other] ∧ Wd ms [] [] H H ∧ rep ms H (eTable A x_self) v_self ∧ M_Table_met_in x_self x_one x_other KM ∧ ∀ (r : (List Int)) (u : V) (H1 : Hp), KM r → Ret [] H H1 → rep ms H1 (D.lst (r.map (fun y_ : Int => (D.v (V.int y_))))) u → Q u H1
set_option maxHeartbeats 16000000 in
theorem ok_Table_met_in {P : Program} {w : World} {K : PySem.W.Frag} {mg : Str → Option Value} {base : Heap} {A : Ad} (T : Txt w K mg A) : FnOk P w K mg base CX0 5 A.a_Table_met_in A.d_Table_met_in ["self", "one", "other"] (sp_Table_met_in A) := by
  refine T.F_Table_met_in.ok sc_Table_met_in (fun vs H Q E h => ?_) (fun cdv A_ outer s_ H_0 vs Q E hr h => ?_)
  · obtain ⟨ms, v_self, x_self, x_one, x_other, KM, rfl, _⟩ := h
    rfl
  · obtain ⟨ms, v_self, x_self, x_one, x_other, KM, rfl, hW, h_self, hM, hQ⟩ := h
    unfold M_Table_met_in at hM
    refine ⟨_, (pss_cons (ps_expr (pe_call (ok_check_pair T) (hr.mono (by decide)) (by rfl) T.g_check_pair T.F_check_pair.kp T.b_check_pair .nil pass0 (pa_cons (pv 1) (pa_cons (pv 2) (pa_cons (pe_prop (pv 0) T.cl_Table T.p_Table_size (ok_Table_size T) (hr.mono (by decide)) T.b_Table_size .nil pass0 rfl) pa_nil))))) (pss_one (ps_ret (pe_lc (own := [("day", 3), ("meetings", 4)]) (g := (gTup K 2 (gCons (gName 3) (gCons (gName 4) gNil)))) rfl sc_Table_met_in.nd (pi_enum (by rfl) T.z_enumerate (pa_cons (pe_fld (pv 0) rfl) pa_nil)) (blkOk_by (N := ["self", "one", "other", "day", "meetings"]) (sc := defScope s_Table_met_in) (by decide +kernel)) (fun _ _ _ _ _ => (pg_tup rfl (pgs_cons (pg_name (i := 3) sc_Table_met_in.nd rfl (by first | exact Or.inl rfl | exact Or.inr rfl)) (pgs_cons (pg_name (i := 4) sc_Table_met_in.nd rfl (by first | exact Or.inl rfl | exact Or.inr rfl)) pgs_nil)))) (fun _ _ _ _ _ => (pts_one (PW.pt (pw_or (pt_cmpR (op_inDK (K := K) rfl (units65 hr)) (pe_tup (pa_cons (pv 1) (pa_cons (pv 2) pa_nil))) (pv 4) (by rfl)) (pw_or1 (pt_cmpR (op_inDK (K := K) rfl (units65 hr)) (pe_tup (pa_cons (pv 2) (pa_cons (pv 1) pa_nil))) (pv 4) (by rfl))))))) (fun _ _ _ _ _ => (pv 3)))))), ?_⟩
    refine ⟨_, rfl, ?_⟩
    refine ⟨_, rfl, ?_⟩
    refine ⟨_, rfl, ?_⟩
    apply rep_prop h_self
    intro _ h1
    refine ⟨ms, _, x_self, _, rfl, hW.enter0, h1, hM, fun r2 u5 H6 hM e4 h3 => ?_⟩
    replace h_self := rep_ext e4 h_self
    replace hW := hW.ret0 e4
    obtain rfl := of_v h3
    refine ⟨ms, x_one, x_other, r2, _, rfl, hW.enter0, hM, fun r7 u10 H11 hM e9 h8 => ?_⟩
    replace h_self := rep_ext e9 h_self
    replace hW := hW.ret0 e9
    obtain rfl := of_v h8
    refine ⟨_, rfl, ?_⟩
    apply rep_fld (j := 0) h_self T.cl_Table T.na_Table__rounds nd_Table rfl rfl
    intro u13 h12
    apply rep_iterE h12
    intro a14 xs15 _ an16 hp17 hl18
    refine fun L19 nl20 => ?_
    have nm34 := nm_new hW nl20
    refine lf_pairG (L := L19) (fun n_ ys_ h_ => Wd (L19 :: ms) [] [] H_0 h_ ∧ Keep (L19 :: ms) H11 h_ ∧ MutO (L19 :: ms) [] H_0 h_ L19 (D.lst (ys_.map (fun y_ : Int => (D.v (V.int y_))))) ∧ ys_.length ≤ n_) (e := fun i_ => .v (.int i_)) (e2 := (fun y_ : (List (Int × Int)) => (D.lst (y_.map (fun y_ : (Int × Int) => (D.tup [(D.v (V.int y_.1)), (D.v (V.int y_.2))])))))) (pair_enum (K := K) (items := x_self) (e2 := (fun y_ : (List (Int × Int)) => (D.lst (y_.map (fun y_ : (Int × Int) => (D.tup [(D.v (V.int y_.1)), (D.v (V.int y_.2))])))))) (nin_new nl20 an16 hp17) hp17 (repL_new nl20 hl18)) (fun _ _ _ q_ => q_.2.1) (fun _ _ _ q_ => q_.1.tr) hM ⟨wd_cell hW nl20, keep_cell nl20 Keep.refl, mo_newL (ds := []) hW nl20 repL_nil, Nat.le_refl _⟩ ?_ ?_
    · skip
      rintro x30 u31 n21 ys22 k23 H35 H36 hn ⟨hW, hk24, mu25, ln26⟩ ex37 h32 hM Nx29 hN27 hNn28
      replace h_self := rep_keep hk24 (rep_new nl20 h_self)
      replace h12 := rep_keep hk24 (rep_new nl20 h12)
      replace h_self := rep_ext ex37 h_self
      replace h12 := rep_ext ex37 h12
      replace hk24 := keep_ext ex37 hk24
      replace mu25 := mo_ext ex37 mu25
      replace hW := hW.ret0 ex37
      apply rep_gtup h32 rfl
      intro vs38 hv39
      obtain ⟨u40, us41, rfl, h42, hv43⟩ := repL_uncons hv39
      obtain rfl := of_v h42
      obtain ⟨u44, us45, rfl, h46, hv47⟩ := repL_uncons hv43
      obtain rfl := repL_empty hv47
      refine ⟨_, _, rfl, ?_⟩
      refine ⟨_, _, rfl, ?_⟩
      refine ⟨rfl, ?_⟩
      refine ⟨rfl, ?_⟩
      refine ⟨_, rfl, ?_⟩
      refine ⟨_, rfl, ?_⟩
      refine ⟨(by show 2 ≤ sizeLine; decide), ?_⟩
      intro p48 n52
      have e49 := Rx.Ext.new (H := H36) (o := (HO.tup [V.int x_one, V.int x_other])) n52
      have hp50 : upd H36 p48 (HO.tup [V.int x_one, V.int x_other]) p48 = some (HO.tup [V.int x_one, V.int x_other]) := upd_same
      generalize upd H36 p48 (HO.tup [V.int x_one, V.int x_other]) = H53 at e49 hp50 ⊢
      have h51 : rep (L19 :: ms) H53 (D.tup [(D.v (V.int x_one)), (D.v (V.int x_other))]) (.ref p48) := rep_tup_mk hW n52 e49 hp50 (repL_cons rep_v (repL_cons rep_v repL_nil))
      replace h_self := rep_ext e49 h_self
      replace h12 := rep_ext e49 h12
      replace hk24 := keep_ext e49 hk24
      replace h32 := rep_ext e49 h32
      replace h46 := rep_ext e49 h46
      replace mu25 := mo_ext e49 mu25
      replace hW := hW.ret0 e49
      refine ⟨_, rfl, ?_⟩
      obtain ⟨g54, hM⟩ := hM
      apply rep_inD (d := (D.tup [(D.v (V.int (x_one, x_other).1)), (D.v (V.int (x_one, x_other).2))])) (es := (x30.2.map (fun y_ : (Int × Int) => (D.tup [(D.v (V.int y_.1)), (D.v (V.int y_.2))])))) h51 h46 g54.1 g54.2.1 g54.2.2.1 g54.2.2.2
      refine ⟨_, rfl, ?_⟩
      refine ite3 hM (fun hM => ?_) (fun hM => ?_)
      · skip
        refine iteT ?_
        refine ⟨_, rfl, ?_⟩
        refine mo_end mu25 hn (by rw [List.length_map]; exact ln26) fun vs55 hr56 => ?_
        have mk58 := mo_setL mu25 (repL_snoc (e := (fun y_ : Int => (D.v (V.int y_)))) (xs := ys22) (y := x30.1) hr56 rep_v)
        replace h_self := rep_put (o := .lst (vs55 ++ [V.int x30.1])) mu25.im h_self
        replace h12 := rep_put (o := .lst (vs55 ++ [V.int x30.1])) mu25.im h12
        replace hk24 := keep_put (o := .lst (vs55 ++ [V.int x30.1])) mu25.im hk24
        replace h32 := rep_put (o := .lst (vs55 ++ [V.int x30.1])) mu25.im h32
        replace h46 := rep_put (o := .lst (vs55 ++ [V.int x30.1])) mu25.im h46
        replace h51 := rep_put (o := .lst (vs55 ++ [V.int x30.1])) mu25.im h51
        replace hW := wd_put (o := .lst (vs55 ++ [V.int x30.1])) hW mu25
        replace mu25 := mk58
        generalize upd H53 L19 (.lst (vs55 ++ [V.int x30.1])) = H59 at *
        replace mu25 : MutO (L19 :: ms) [] H_0 H59 L19 (D.lst ((ys22 ++ [x30.1]).map (fun y_ : Int => (D.v (V.int y_))))) := mu25
        clear mk58
        exact hN27 x30.1 _ hM ⟨hW, hk24, mu25, by rw [List.length_append]; exact Nat.add_le_add_right ln26 1⟩
      · skip
        refine ⟨_, rfl, ?_⟩
        refine ⟨_, rfl, ?_⟩
        refine ⟨(by show 2 ≤ sizeLine; decide), ?_⟩
        intro p60 n64
        have e61 := Rx.Ext.new (H := H53) (o := (HO.tup [V.int x_other, V.int x_one])) n64
        have hp62 : upd H53 p60 (HO.tup [V.int x_other, V.int x_one]) p60 = some (HO.tup [V.int x_other, V.int x_one]) := upd_same
        generalize upd H53 p60 (HO.tup [V.int x_other, V.int x_one]) = H65 at e61 hp62 ⊢
        have h63 : rep (L19 :: ms) H65 (D.tup [(D.v (V.int x_other)), (D.v (V.int x_one))]) (.ref p60) := rep_tup_mk hW n64 e61 hp62 (repL_cons rep_v (repL_cons rep_v repL_nil))
        replace h_self := rep_ext e61 h_self
        replace h12 := rep_ext e61 h12
        replace hk24 := keep_ext e61 hk24
        replace h32 := rep_ext e61 h32
        replace h46 := rep_ext e61 h46
        replace h51 := rep_ext e61 h51
        replace mu25 := mo_ext e61 mu25
        replace hW := hW.ret0 e61
        refine ⟨_, rfl, ?_⟩
        obtain ⟨g66, hM⟩ := hM
        apply rep_inD (d := (D.tup [(D.v (V.int (x_other, x_one).1)), (D.v (V.int (x_other, x_one).2))])) (es := (x30.2.map (fun y_ : (Int × Int) => (D.tup [(D.v (V.int y_.1)), (D.v (V.int y_.2))])))) h63 h46 g66.1 g66.2.1 g66.2.2.1 g66.2.2.2
        refine ⟨_, rfl, ?_⟩
        refine ite3 hM (fun hM => ?_) (fun hM => ?_)
        · skip
          refine ⟨_, rfl, ?_⟩
          refine mo_end mu25 hn (by rw [List.length_map]; exact ln26) fun vs67 hr68 => ?_
          have mk70 := mo_setL mu25 (repL_snoc (e := (fun y_ : Int => (D.v (V.int y_)))) (xs := ys22) (y := x30.1) hr68 rep_v)
          replace h_self := rep_put (o := .lst (vs67 ++ [V.int x30.1])) mu25.im h_self
          replace h12 := rep_put (o := .lst (vs67 ++ [V.int x30.1])) mu25.im h12
          replace hk24 := keep_put (o := .lst (vs67 ++ [V.int x30.1])) mu25.im hk24
          replace h32 := rep_put (o := .lst (vs67 ++ [V.int x30.1])) mu25.im h32
          replace h46 := rep_put (o := .lst (vs67 ++ [V.int x30.1])) mu25.im h46
          replace h51 := rep_put (o := .lst (vs67 ++ [V.int x30.1])) mu25.im h51
          replace h63 := rep_put (o := .lst (vs67 ++ [V.int x30.1])) mu25.im h63
          replace hW := wd_put (o := .lst (vs67 ++ [V.int x30.1])) hW mu25
          replace mu25 := mk70
          generalize upd H65 L19 (.lst (vs67 ++ [V.int x30.1])) = H71 at *
          replace mu25 : MutO (L19 :: ms) [] H_0 H71 L19 (D.lst ((ys22 ++ [x30.1]).map (fun y_ : Int => (D.v (V.int y_))))) := mu25
          clear mk70
          exact hN27 x30.1 _ hM ⟨hW, hk24, mu25, by rw [List.length_append]; exact Nat.add_le_add_right ln26 1⟩
        · skip
          exact hNn28 _ hM ⟨hW, hk24, mu25, Nat.le_succ_of_le ln26⟩
    · skip
      rintro n21 ys72 H73 hM ⟨hW, hk24, mu25, ln26⟩
      replace h_self := rep_keep hk24 (rep_new nl20 h_self)
      replace h12 := rep_keep hk24 (rep_new nl20 h12)
      clear hk24 ln26
      have h74 := mo_rep_dr dr_here nm34 mu25
      replace hW := wd_dr dr_here mu25.hp hW
      replace h_self := rep_dr dr_here h_self
      replace h12 := rep_dr dr_here h12
      clear mu25
      exact hQ ys72 _ _ hM hW.out h74
def M_met (x_days_here : (List (List (Int × Int)))) (x_who : Int) (x_mate : Int) (KM : (List Int) → Prop) : Prop :=
  (((rangeI 0 (x_days_here.length : Int)).zip x_days_here).length < 100000 ∧ filC (fun (x17 : (Int × (List (Int × Int)))) (k10 : Option Int → Prop) => ((plainD (D.tup [(D.v (V.int (x_who, x_mate).1)), (D.v (V.int (x_who, x_mate).2))]) = true ∧ plainD (D.lst (x17.2.map (fun y_ : (Int × Int) => (D.tup [(D.v (V.int y_.1)), (D.v (V.int y_.2))])))) = true ∧ SeqAt.shaped (pyOf (D.tup [(D.v (V.int (x_who, x_mate).1)), (D.v (V.int (x_who, x_mate).2))])) = true ∧ SeqAt.shaped (pyOf (D.lst (x17.2.map (fun y_ : (Int × Int) => (D.tup [(D.v (V.int y_.1)), (D.v (V.int y_.2))]))))) = true) ∧ (if (inDv (D.tup [(D.v (V.int (x_who, x_mate).1)), (D.v (V.int (x_who, x_mate).2))]) (x17.2.map (fun y_ : (Int × Int) => (D.tup [(D.v (V.int y_.1)), (D.v (V.int y_.2))])))) = true then (k10 (some x17.1)) else ((plainD (D.tup [(D.v (V.int (x_mate, x_who).1)), (D.v (V.int (x_mate, x_who).2))]) = true ∧ plainD (D.lst (x17.2.map (fun y_ : (Int × Int) => (D.tup [(D.v (V.int y_.1)), (D.v (V.int y_.2))])))) = true ∧ SeqAt.shaped (pyOf (D.tup [(D.v (V.int (x_mate, x_who).1)), (D.v (V.int (x_mate, x_who).2))])) = true ∧ SeqAt.shaped (pyOf (D.lst (x17.2.map (fun y_ : (Int × Int) => (D.tup [(D.v (V.int y_.1)), (D.v (V.int y_.2))]))))) = true) ∧ (if (inDv (D.tup [(D.v (V.int (x_mate, x_who).1)), (D.v (V.int (x_mate, x_who).2))]) (x17.2.map (fun y_ : (Int × Int) => (D.tup [(D.v (V.int y_.1)), (D.v (V.int y_.2))])))) = true then (k10 (some x17.1)) else (k10 none)))))) ((rangeI 0 (x_days_here.length : Int)).zip x_days_here) [] fun ys59 => (KM ys59))
def sp_met (A : Ad) : Sp := fun vs H Q _ => ∃ (ms : List Addr) (v_days_here : V) (x_days_here : (List (List (Int × Int)))) (x_who : Int) (x_mate : Int) (KM : (List Int) → Prop), vs = [v_days_here, V.int x_who, V.int x_mate] ∧ Wd ms [] [] H H ∧ rep ms H (D.lst (x_days_here.map (fun y_ : (List (Int × Int)) => (D.lst (y_.map (fun y_ : (Int × Int) => (D.tup [(D.v (V.int y_.1)), (D.v (V.int y_.2))]))))))) v_days_here ∧ M_met x_days_here x_who x_mate KM ∧ ∀ (r : (List Int)) (u : V) (H1 : Hp), KM r → Ret [] H H1 → rep ms H1 (D.lst (r.map (fun y_ : Int => (D.v (V.int y_))))) u → Q u H1
set_option maxHeartbeats 16000000 in
theorem ok_met {P : Program} {w : World} {K : PySem.W.Frag} {mg : Str → Option Value} {base : Heap} {A : Ad} (T : Txt w K mg A) : FnOk P w K mg base CX0 1 A.a_met A.d_met ["_law_days_here", "_law_who", "_law_mate"] (sp_met A) := by
  refine T.F_met.ok sc_met (fun vs H Q E h => ?_) (fun cdv A_ outer s_ H_0 vs Q E hr h => ?_)
  · obtain ⟨ms, v_days_here, x_days_here, x_who, x_mate, KM, rfl, _⟩ := h
    rfl
  · obtain ⟨ms, v_days_here, x_days_here, x_who, x_mate, KM, rfl, hW, h_days_here, hM, hQ⟩ := h
    unfold M_met at hM
    refine ⟨_, (pss_one (ps_ret (pe_lc (own := [("_law_at", 3), ("_law_meets", 4)]) (g := (gTup K 2 (gCons (gName 3) (gCons (gName 4) gNil)))) rfl sc_met.nd (pi_enum (by rfl) T.z_enumerate (pa_cons (pv 0) pa_nil)) (blkOk_by (N := ["_law_days_here", "_law_who", "_law_mate", "_law_at", "_law_meets"]) (sc := defScope s_met) (by decide +kernel)) (fun _ _ _ _ _ => (pg_tup rfl (pgs_cons (pg_name (i := 3) sc_met.nd rfl (by first | exact Or.inl rfl | exact Or.inr rfl)) (pgs_cons (pg_name (i := 4) sc_met.nd rfl (by first | exact Or.inl rfl | exact Or.inr rfl)) pgs_nil)))) (fun _ _ _ _ _ => (pts_one (PW.pt (pw_or (pt_cmpR (op_inDK (K := K) rfl (units65 hr)) (pe_tup (pa_cons (pv 1) (pa_cons (pv 2) pa_nil))) (pv 4) (by rfl)) (pw_or1 (pt_cmpR (op_inDK (K := K) rfl (units65 hr)) (pe_tup (pa_cons (pv 2) (pa_cons (pv 1) pa_nil))) (pv 4) (by rfl))))))) (fun _ _ _ _ _ => (pv 3))))), ?_⟩
    refine ⟨_, rfl, ?_⟩
    apply rep_iterE h_days_here
    intro a1 xs2 _ an3 hp4 hl5
    refine fun L6 nl7 => ?_
    have nm21 := nm_new hW nl7
    refine lf_pairG (L := L6) (fun n_ ys_ h_ => Wd (L6 :: ms) [] [] H_0 h_ ∧ Keep (L6 :: ms) H_0 h_ ∧ MutO (L6 :: ms) [] H_0 h_ L6 (D.lst (ys_.map (fun y_ : Int => (D.v (V.int y_))))) ∧ ys_.length ≤ n_) (e := fun i_ => .v (.int i_)) (e2 := (fun y_ : (List (Int × Int)) => (D.lst (y_.map (fun y_ : (Int × Int) => (D.tup [(D.v (V.int y_.1)), (D.v (V.int y_.2))])))))) (pair_enum (K := K) (items := x_days_here) (e2 := (fun y_ : (List (Int × Int)) => (D.lst (y_.map (fun y_ : (Int × Int) => (D.tup [(D.v (V.int y_.1)), (D.v (V.int y_.2))])))))) (nin_new nl7 an3 hp4) hp4 (repL_new nl7 hl5)) (fun _ _ _ q_ => q_.2.1) (fun _ _ _ q_ => q_.1.tr) hM ⟨wd_cell hW nl7, keep_cell nl7 Keep.refl, mo_newL (ds := []) hW nl7 repL_nil, Nat.le_refl _⟩ ?_ ?_
    · skip
      rintro x17 u18 n8 ys9 k10 H22 H23 hn ⟨hW, hk11, mu12, ln13⟩ ex24 h19 hM Nx16 hN14 hNn15
      replace h_days_here := rep_keep hk11 (rep_new nl7 h_days_here)
      replace h_days_here := rep_ext ex24 h_days_here
      replace hk11 := keep_ext ex24 hk11
      replace mu12 := mo_ext ex24 mu12
      replace hW := hW.ret0 ex24
      apply rep_gtup h19 rfl
      intro vs25 hv26
      obtain ⟨u27, us28, rfl, h29, hv30⟩ := repL_uncons hv26
      obtain rfl := of_v h29
      obtain ⟨u31, us32, rfl, h33, hv34⟩ := repL_uncons hv30
      obtain rfl := repL_empty hv34
      refine ⟨_, _, rfl, ?_⟩
      refine ⟨_, _, rfl, ?_⟩
      refine ⟨rfl, ?_⟩
      refine ⟨rfl, ?_⟩
      refine ⟨_, rfl, ?_⟩
      refine ⟨_, rfl, ?_⟩
      refine ⟨(by show 2 ≤ sizeLine; decide), ?_⟩
      intro p35 n39
      have e36 := Rx.Ext.new (H := H23) (o := (HO.tup [V.int x_who, V.int x_mate])) n39
      have hp37 : upd H23 p35 (HO.tup [V.int x_who, V.int x_mate]) p35 = some (HO.tup [V.int x_who, V.int x_mate]) := upd_same
      generalize upd H23 p35 (HO.tup [V.int x_who, V.int x_mate]) = H40 at e36 hp37 ⊢
      have h38 : rep (L6 :: ms) H40 (D.tup [(D.v (V.int x_who)), (D.v (V.int x_mate))]) (.ref p35) := rep_tup_mk hW n39 e36 hp37 (repL_cons rep_v (repL_cons rep_v repL_nil))
      replace h_days_here := rep_ext e36 h_days_here
      replace hk11 := keep_ext e36 hk11
      replace h19 := rep_ext e36 h19
      replace h33 := rep_ext e36 h33
      replace mu12 := mo_ext e36 mu12
      replace hW := hW.ret0 e36
      refine ⟨_, rfl, ?_⟩
      obtain ⟨g41, hM⟩ := hM
      apply rep_inD (d := (D.tup [(D.v (V.int (x_who, x_mate).1)), (D.v (V.int (x_who, x_mate).2))])) (es := (x17.2.map (fun y_ : (Int × Int) => (D.tup [(D.v (V.int y_.1)), (D.v (V.int y_.2))])))) h38 h33 g41.1 g41.2.1 g41.2.2.1 g41.2.2.2
      refine ⟨_, rfl, ?_⟩
      refine ite3 hM (fun hM => ?_) (fun hM => ?_)
      · skip
        refine iteT ?_
        refine ⟨_, rfl, ?_⟩
        refine mo_end mu12 hn (by rw [List.length_map]; exact ln13) fun vs42 hr43 => ?_
        have mk45 := mo_setL mu12 (repL_snoc (e := (fun y_ : Int => (D.v (V.int y_)))) (xs := ys9) (y := x17.1) hr43 rep_v)
        replace h_days_here := rep_put (o := .lst (vs42 ++ [V.int x17.1])) mu12.im h_days_here
        replace hk11 := keep_put (o := .lst (vs42 ++ [V.int x17.1])) mu12.im hk11
        replace h19 := rep_put (o := .lst (vs42 ++ [V.int x17.1])) mu12.im h19
        replace h33 := rep_put (o := .lst (vs42 ++ [V.int x17.1])) mu12.im h33
        replace h38 := rep_put (o := .lst (vs42 ++ [V.int x17.1])) mu12.im h38
        replace hW := wd_put (o := .lst (vs42 ++ [V.int x17.1])) hW mu12
        replace mu12 := mk45
        generalize upd H40 L6 (.lst (vs42 ++ [V.int x17.1])) = H46 at *
        replace mu12 : MutO (L6 :: ms) [] H_0 H46 L6 (D.lst ((ys9 ++ [x17.1]).map (fun y_ : Int => (D.v (V.int y_))))) := mu12
        clear mk45
        exact hN14 x17.1 _ hM ⟨hW, hk11, mu12, by rw [List.length_append]; exact Nat.add_le_add_right ln13 1⟩
      · skip
        refine ⟨_, rfl, ?_⟩
        refine ⟨_, rfl, ?_⟩
        refine ⟨(by show 2 ≤ sizeLine; decide), ?_⟩
        intro p47 n51
        have e48 := Rx.Ext.new (H := H40) (o := (HO.tup [V.int x_mate, V.int x_who])) n51
        have hp49 : upd H40 p47 (HO.tup [V.int x_mate, V.int x_who]) p47 = some (HO.tup [V.int x_mate, V.int x_who]) := upd_same
        generalize upd H40 p47 (HO.tup [V.int x_mate, V.int x_who]) = H52 at e48 hp49 ⊢
        have h50 : rep (L6 :: ms) H52 (D.tup [(D.v (V.int x_mate)), (D.v (V.int x_who))]) (.ref p47) := rep_tup_mk hW n51 e48 hp49 (repL_cons rep_v (repL_cons rep_v repL_nil))
        replace h_days_here := rep_ext e48 h_days_here
        replace hk11 := keep_ext e48 hk11
        replace h19 := rep_ext e48 h19
        replace h33 := rep_ext e48 h33
        replace h38 := rep_ext e48 h38
        replace mu12 := mo_ext e48 mu12
        replace hW := hW.ret0 e48
        refine ⟨_, rfl, ?_⟩
        obtain ⟨g53, hM⟩ := hM
        apply rep_inD (d := (D.tup [(D.v (V.int (x_mate, x_who).1)), (D.v (V.int (x_mate, x_who).2))])) (es := (x17.2.map (fun y_ : (Int × Int) => (D.tup [(D.v (V.int y_.1)), (D.v (V.int y_.2))])))) h50 h33 g53.1 g53.2.1 g53.2.2.1 g53.2.2.2
        refine ⟨_, rfl, ?_⟩
        refine ite3 hM (fun hM => ?_) (fun hM => ?_)
        · skip
          refine ⟨_, rfl, ?_⟩
          refine mo_end mu12 hn (by rw [List.length_map]; exact ln13) fun vs54 hr55 => ?_
          have mk57 := mo_setL mu12 (repL_snoc (e := (fun y_ : Int => (D.v (V.int y_)))) (xs := ys9) (y := x17.1) hr55 rep_v)
          replace h_days_here := rep_put (o := .lst (vs54 ++ [V.int x17.1])) mu12.im h_days_here
          replace hk11 := keep_put (o := .lst (vs54 ++ [V.int x17.1])) mu12.im hk11
          replace h19 := rep_put (o := .lst (vs54 ++ [V.int x17.1])) mu12.im h19
          replace h33 := rep_put (o := .lst (vs54 ++ [V.int x17.1])) mu12.im h33
          replace h38 := rep_put (o := .lst (vs54 ++ [V.int x17.1])) mu12.im h38
          replace h50 := rep_put (o := .lst (vs54 ++ [V.int x17.1])) mu12.im h50
          replace hW := wd_put (o := .lst (vs54 ++ [V.int x17.1])) hW mu12
          replace mu12 := mk57
          generalize upd H52 L6 (.lst (vs54 ++ [V.int x17.1])) = H58 at *
          replace mu12 : MutO (L6 :: ms) [] H_0 H58 L6 (D.lst ((ys9 ++ [x17.1]).map (fun y_ : Int => (D.v (V.int y_))))) := mu12
          clear mk57
          exact hN14 x17.1 _ hM ⟨hW, hk11, mu12, by rw [List.length_append]; exact Nat.add_le_add_right ln13 1⟩
        · skip
          exact hNn15 _ hM ⟨hW, hk11, mu12, Nat.le_succ_of_le ln13⟩
    · skip
      rintro n8 ys59 H60 hM ⟨hW, hk11, mu12, ln13⟩
      replace h_days_here := rep_keep hk11 (rep_new nl7 h_days_here)
      clear hk11 ln13
      have h61 := mo_rep_dr dr_here nm21 mu12
      replace hW := wd_dr dr_here mu12.hp hW
      replace h_days_here := rep_dr dr_here h_days_here
      clear mu12
      exact hQ ys59 _ _ hM hW.out h61
def M_are_met (x_made : (List (List (Int × Int)))) (x_days_here : (List (List (Int × Int)))) (x_many_here : Int) (KM : Bool → Prop) : Prop :=
  (forC (fun (x1 : Int) (s3 : Unit) (k4 : Unit → Prop) => (forC (fun (x12 : Int) (s14 : Unit) (k15 : Unit → Prop) => (if (!(decide (V.int x1 = V.int x12))) = true then (M_Table_met_in x_made x1 x12 fun r22 => (M_met x_days_here x1 x12 fun r27 => (((plainD (D.lst (r22.map (fun y_ : Int => (D.v (V.int y_))))) = true ∧ plainD (D.lst (r27.map (fun y_ : Int => (D.v (V.int y_))))) = true ∧ SeqAt.shaped (pyOf (D.lst (r22.map (fun y_ : Int => (D.v (V.int y_)))))) = true ∧ SeqAt.shaped (pyOf (D.lst (r27.map (fun y_ : Int => (D.v (V.int y_)))))) = true)) ∧ (if (!(PyData.eqv (pyOf (D.lst (r22.map (fun y_ : Int => (D.v (V.int y_)))))) (pyOf (D.lst (r27.map (fun y_ : Int => (D.v (V.int y_)))))))) = true then (KM false) else (k15 ()))))) else (k15 ()))) (rangeI (0 : Int) x_many_here) () fun s33 => (k4 ()))) (rangeI (0 : Int) x_many_here) () fun s37 => (KM true))
def sp_are_met (A : Ad) : Sp := fun vs H Q _ => ∃ (ms : List Addr) (v_made : V) (v_days_here : V) (x_made : (List (List (Int × Int)))) (x_days_here : (List (List (Int × Int)))) (x_many_here : Int) (KM : Bool → Prop), vs = [v_made, v_days_here, V.int x_many_here] ∧ Wd ms [] [] H H ∧ rep ms H (eTable A x_made) v_made ∧ rep ms H (D.lst (x_days_here.map (fun y_ : (List (Int × Int)) => (D.lst (y_.map (fun y_ : (Int × Int) => (D.tup [(D.v (V.int y_.1)), (D.v (V.int y_.2))]))))))) v_days_here ∧ M_are_met x_made x_days_here x_many_here KM ∧ ∀ (r : Bool) (u : V) (H1 : Hp), KM r → Ret [] H H1 → rep ms H1 (D.v (V.bl r)) u → Q u H1
set_option maxHeartbeats 16000000 in
theorem ok_are_met {P : Program} {w : World} {K : PySem.W.Frag} {mg : Str → Option Value} {base : Heap} {A : Ad} (T : Txt w K mg A) : FnOk P w K mg base CX0 6 A.a_are_met A.d_are_met ["_law_made", "_law_days_here", "_law_many_here"] (sp_are_met A) := by
  refine T.F_are_met.ok sc_are_met (fun vs H Q E h => ?_) (fun cdv A_ outer s_ H_0 vs Q E hr h => ?_)
  · obtain ⟨ms, v_made, v_days_here, x_made, x_days_here, x_many_here, KM, rfl, _⟩ := h
    rfl
  · obtain ⟨ms, v_made, v_days_here, x_made, x_days_here, x_many_here, KM, rfl, hW, h_made, h_days_here, hM, hQ⟩ := h
    unfold M_are_met at hM
    refine ⟨_, (pss_cons (ps_for PassesOwn.never rfl (pi_rangeW1 (by rfl) T.z_range (pa_cons (pv 2) pa_nil)) (pg_name (i := 3) sc_are_met.nd rfl (by first | exact Or.inl rfl | exact Or.inr rfl)) (pss_one (ps_for PassesOwn.never rfl (pi_rangeW1 (by rfl) T.z_range (pa_cons (pv 2) pa_nil)) (pg_name (i := 4) sc_are_met.nd rfl (by first | exact Or.inl rfl | exact Or.inr rfl)) (pss_one (ps_if (PW.pt (pw_and (pt_cmpR op_ne (pv 3) (pv 4) (nomark _)) (pw_and1 (pt_cmpR (op_neDK (K := K) rfl hr.units) (pe_meth (pv 0) T.cl_Table T.m_Table_met_in (ok_Table_met_in T) (hr.mono (by decide)) T.b_Table_met_in .nil pass0 (pa_cons (pv 3) (pa_cons (pv 4) pa_nil))) (pe_call (ok_met T) (hr.mono (by decide)) (by rfl) T.g_met T.F_met.kp T.b_met .nil pass0 (pa_cons (pv 1) (pa_cons (pv 3) (pa_cons (pv 4) pa_nil)))) (nomark _))))) (pss_one (ps_ret pe_bl)) pss_nil))))) (pss_one (ps_ret pe_bl))), ?_⟩
    refine ⟨_, rfl, ?_⟩
    refine ⟨_, rfl, ?_⟩
    refine for_rangeG (S := Unit) (lo := (0 : Int)) (hi := x_many_here) (N := Int.toNat x_many_here) (fun (s : Unit) σ_ h_ => ∃ (w_0 : Option V), ∃ (w_1 : Option V), σ_ = [some v_made, some v_days_here, some (V.int x_many_here), w_0, w_1] ∧ Wd ms [] [] H_0 h_ ∧ Keep ms H_0 h_) () (by simp) hM ⟨_, _, rfl, hW, Keep.refl⟩ ?_ ?_
    · skip
      rintro x1 s3 k4 _ H11 ⟨w9, w10, rfl, hW, hk5⟩ hM Nx7 hN8
      replace h_made := rep_keep hk5 h_made
      replace h_days_here := rep_keep hk5 h_days_here
      refine ⟨_, rfl, ?_⟩
      refine ⟨_, rfl, ?_⟩
      refine for_rangeG (S := Unit) (lo := (0 : Int)) (hi := x_many_here) (N := Int.toNat x_many_here) (fun (s : Unit) σ_ h_ => ∃ (w_0 : Option V), σ_ = [some v_made, some v_days_here, some (V.int x_many_here), some (V.int x1), w_0] ∧ Wd ms [] [] H_0 h_ ∧ Keep ms H11 h_) () (by simp) hM ⟨_, rfl, hW, Keep.refl⟩ ?_ ?_
      · skip
        rintro x12 s14 k15 _ H21 ⟨w20, rfl, hW, hk16⟩ hM Nx18 hN19
        replace h_made := rep_keep hk16 h_made
        replace h_days_here := rep_keep hk16 h_days_here
        replace hk5 := Keep.trans hk5 hk16
        refine ⟨_, rfl, ?_⟩
        refine ⟨_, rfl, ?_⟩
        refine ⟨rfl, ?_⟩
        refine ⟨_, rfl, ?_⟩
        refine ite3 hM (fun hM => ?_) (fun hM => ?_)
        · skip
          refine ⟨_, rfl, ?_⟩
          apply rep_meth (m := "met_in") h_made (by decide +kernel)
          refine ⟨_, rfl, ?_⟩
          refine ⟨_, rfl, ?_⟩
          refine ⟨ms, _, x_made, x1, x12, _, rfl, hW.enter0, h_made, hM, fun r22 u25 H26 hM e24 h23 => ?_⟩
          replace h_made := rep_ext e24 h_made
          replace h_days_here := rep_ext e24 h_days_here
          replace hk5 := keep_ext e24 hk5
          replace hk16 := keep_ext e24 hk16
          replace hW := hW.ret0 e24
          refine ⟨_, rfl, ?_⟩
          refine ⟨_, rfl, ?_⟩
          refine ⟨_, rfl, ?_⟩
          refine ⟨ms, _, x_days_here, x1, x12, _, rfl, hW.enter0, h_days_here, hM, fun r27 u30 H31 hM e29 h28 => ?_⟩
          replace h_made := rep_ext e29 h_made
          replace h_days_here := rep_ext e29 h_days_here
          replace hk5 := keep_ext e29 hk5
          replace hk16 := keep_ext e29 hk16
          replace h23 := rep_ext e29 h23
          replace hW := hW.ret0 e29
          obtain ⟨g32, hM⟩ := hM
          apply rep_neD (d := (D.lst (r22.map (fun y_ : Int => (D.v (V.int y_)))))) (e := (D.lst (r27.map (fun y_ : Int => (D.v (V.int y_)))))) h23 h28 g32.1 g32.2.1 g32.2.2.1 g32.2.2.2
          refine ⟨_, rfl, ?_⟩
          refine ite3 hM (fun hM => ?_) (fun hM => ?_)
          · skip
            exact hQ false _ _ hM hW.out rep_v
          · skip
            exact hN19 () _ _ hM ⟨_, rfl, hW, hk16⟩
        · skip
          refine iteF ?_
          exact hN19 () _ _ hM ⟨_, rfl, hW, hk16⟩
      · skip
        rintro s33 _ H36 hM ⟨w35, rfl, hW, hk34⟩
        replace h_made := rep_keep hk34 h_made
        replace h_days_here := rep_keep hk34 h_days_here
        replace hk5 := Keep.trans hk5 hk34
        exact hN8 () _ _ hM ⟨_, _, rfl, hW, hk5⟩
    · skip
      rintro s37 _ H41 hM ⟨w39, w40, rfl, hW, hk38⟩
      replace h_made := rep_keep hk38 h_made
      replace h_days_here := rep_keep hk38 h_days_here
      exact hQ true _ _ hM hW.out rep_v
def M_Table_eq (x_self : (List (List (Int × Int)))) (x_other : (List (List (Int × Int)))) (KM : Bool → Prop) : Prop :=
  (((plainD (D.lst (x_self.map (fun y_ : (List (Int × Int)) => (D.lst (y_.map (fun y_ : (Int × Int) => (D.tup [(D.v (V.int y_.1)), (D.v (V.int y_.2))]))))))) = true ∧ plainD (D.lst (x_other.map (fun y_ : (List (Int × Int)) => (D.lst (y_.map (fun y_ : (Int × Int) => (D.tup [(D.v (V.int y_.1)), (D.v (V.int y_.2))]))))))) = true ∧ SeqAt.shaped (pyOf (D.lst (x_self.map (fun y_ : (List (Int × Int)) => (D.lst (y_.map (fun y_ : (Int × Int) => (D.tup [(D.v (V.int y_.1)), (D.v (V.int y_.2))])))))))) = true ∧ SeqAt.shaped (pyOf (D.lst (x_other.map (fun y_ : (List (Int × Int)) => (D.lst (y_.map (fun y_ : (Int × Int) => (D.tup [(D.v (V.int y_.1)), (D.v (V.int y_.2))])))))))) = true)) ∧ (KM (PyData.eqv (pyOf (D.lst (x_self.map (fun y_ : (List (Int × Int)) => (D.lst (y_.map (fun y_ : (Int × Int) => (D.tup [(D.v (V.int y_.1)), (D.v (V.int y_.2))])))))))) (pyOf (D.lst (x_other.map (fun y_ : (List (Int × Int)) => (D.lst (y_.map (fun y_ : (Int × Int) => (D.tup [(D.v (V.int y_.1)), (D.v (V.int y_.2))])))))))))))
def sp_Table_eq (A : Ad) : Sp := fun vs H Q _ => ∃ (ms : List Addr) (v_self : V) (v_other : V) (x_self : (List (List (Int × Int)))) (x_other : (List (List (Int × Int)))) (KM : Bool → Prop), vs = [v_self, v_other] ∧ Wd ms [] [] H H ∧ rep ms H (eTable A x_self) v_self ∧ rep ms H (eTable A x_other) v_other ∧ M_Table_eq x_self x_other KM ∧ ∀ (r : Bool) (u : V) (H1 : Hp), KM r → Ret [] H H1 → rep ms H1 (D.v (V.bl r)) u → Q u H1
set_option maxHeartbeats 16000000 in
theorem ok_Table_eq {P : Program} {w : World} {K : PySem.W.Frag} {mg : Str → Option Value} {base : Heap} {A : Ad} (T : Txt w K mg A) : FnOk P w K mg base CX0 1 A.a_Table_eq A.d_Table_eq ["self", "other"] (sp_Table_eq A) := by
  refine T.F_Table_eq.ok sc_Table_eq (fun vs H Q E h => ?_) (fun cdv A_ outer s_ H_0 vs Q E hr h => ?_)
  · obtain ⟨ms, v_self, v_other, x_self, x_other, KM, rfl, _⟩ := h
    rfl
  · obtain ⟨ms, v_self, v_other, x_self, x_other, KM, rfl, hW, h_self, h_other, hM, hQ⟩ := h
    unfold M_Table_eq at hM
    refine ⟨_, (pss_one (ps_ret (pe_and (pe_callB (call_isiK (K := K) rfl) (by rfl) T.z_isinstance (by decide +kernel) (pa_cons (pv 1) (pa_cons (pe_glob (v := .ref A.c_Table) (by rfl) T.g_Table rfl) pa_nil))) (pe_one (pe_cmpR (op_eqDK (K := K) rfl hr.units) (pe_fld (pv 0) rfl) (pe_fld (pv 1) rfl) (nomark _)))))), ?_⟩
    refine ⟨_, rfl, ?_⟩
    apply rep_isi h_other T.ic_Table
    refine ⟨_, rfl, ?_⟩
    refine iteT ?_
    refine ⟨_, rfl, ?_⟩
    apply rep_fld (j := 0) h_self T.cl_Table T.na_Table__rounds nd_Table rfl rfl
    intro u2 h1
    refine ⟨_, rfl, ?_⟩
    apply rep_fld (j := 0) h_other T.cl_Table T.na_Table__rounds nd_Table rfl rfl
    intro u4 h3
    obtain ⟨g5, hM⟩ := hM
    apply rep_eqD (d := (D.lst (x_self.map (fun y_ : (List (Int × Int)) => (D.lst (y_.map (fun y_ : (Int × Int) => (D.tup [(D.v (V.int y_.1)), (D.v (V.int y_.2))])))))))) (e := (D.lst (x_other.map (fun y_ : (List (Int × Int)) => (D.lst (y_.map (fun y_ : (Int × Int) => (D.tup [(D.v (V.int y_.1)), (D.v (V.int y_.2))])))))))) h1 h3 g5.1 g5.2.1 g5.2.2.1 g5.2.2.2
    exact hQ (PyData.eqv (pyOf (D.lst (x_self.map (fun y_ : (List (Int × Int)) => (D.lst (y_.map (fun y_ : (Int × Int) => (D.tup [(D.v (V.int y_.1)), (D.v (V.int y_.2))])))))))) (pyOf (D.lst (x_other.map (fun y_ : (List (Int × Int)) => (D.lst (y_.map (fun y_ : (Int × Int) => (D.tup [(D.v (V.int y_.1)), (D.v (V.int y_.2))]))))))))) _ _ hM hW.out rep_v
def M_empty_lltii (x : List (List (Int × Int))) (KM : Unit → Prop) : Prop := KM ()
theorem ok_empty_lltii {P : Program} {w : World} {K : PySem.W.Frag} {mg : Str → Option Value} {base : Heap} {A : Ad} (T : Txt w K mg A) : FnOk P w K mg base CX0 1 A.a_empty A.d_empty ["_law_some"] (sp_empty A) := ok_empty T

def M_turned (x_days_here : (List (List (Int × Int)))) (x_some : (List (Int × Int))) (KM : (List (List (Int × Int))) → Prop) : Prop :=
  (x_days_here.length < 100000 ∧ mapC (fun (x17 : (List (Int × Int))) (k10 : (List (Int × Int)) → Prop) => (x17.length < 100000 ∧ mapC (fun (x39 : (Int × Int)) (k32 : (Int × Int) → Prop) => (∃ KB58 : (Int × Int) → Prop, ((plainD (D.tup [(D.v (V.int (x39.1, x39.2).1)), (D.v (V.int (x39.1, x39.2).2))]) = true ∧ plainD (D.lst (x_some.map (fun y_ : (Int × Int) => (D.tup [(D.v (V.int y_.1)), (D.v (V.int y_.2))])))) = true ∧ SeqAt.shaped (pyOf (D.tup [(D.v (V.int (x39.1, x39.2).1)), (D.v (V.int (x39.1, x39.2).2))])) = true ∧ SeqAt.shaped (pyOf (D.lst (x_some.map (fun y_ : (Int × Int) => (D.tup [(D.v (V.int y_.1)), (D.v (V.int y_.2))]))))) = true) ∧ (if (inDv (D.tup [(D.v (V.int (x39.1, x39.2).1)), (D.v (V.int (x39.1, x39.2).2))]) (x_some.map (fun y_ : (Int × Int) => (D.tup [(D.v (V.int y_.1)), (D.v (V.int y_.2))])))) = true then (KB58 (x39.2, x39.1)) else (KB58 (x39.1, x39.2)))) ∧ ∀ r80 : (Int × Int), KB58 r80 → (k32 r80))) x17 [] fun ys90 => (k10 ys90))) x_days_here [] fun ys99 => (KM ys99))
def sp_turned (A : Ad) : Sp := fun vs H Q _ => ∃ (ms : List Addr) (v_days_here : V) (v_some : V) (x_days_here : (List (List (Int × Int)))) (x_some : (List (Int × Int))) (KM : (List (List (Int × Int))) → Prop), vs = [v_days_here, v_some] ∧ Wd ms [] [] H H ∧ rep ms H (D.lst (x_days_here.map (fun y_ : (List (Int × Int)) => (D.lst (y_.map (fun y_ : (Int × Int) => (D.tup [(D.v (V.int y_.1)), (D.v (V.int y_.2))]))))))) v_days_here ∧ rep ms H (D.lst (x_some.map (fun y_ : (Int × Int) => (D.tup [(D.v (V.int y_.1)), (D.v (V.int y_.2))])))) v_some ∧ M_turned x_days_here x_some KM ∧ ∀ (r : (List (List (Int × Int)))) (u : V) (H1 : Hp), KM r → Ret [] H H1 → rep ms H1 (D.lst (r.map (fun y_ : (List (Int × Int)) => (D.lst (y_.map (fun y_ : (Int × Int) => (D.tup [(D.v (V.int y_.1)), (D.v (V.int y_.2))]))))))) u → Q u H1
set_option maxHeartbeats 16000000 in
theorem ok_turned {P : Program} {w : World} {K : PySem.W.Frag} {mg : Str → Option Value} {base : Heap} {A : Ad} (T : Txt w K mg A) : FnOk P w K mg base CX0 1 A.a_turned A.d_turned ["_law_days_here", "_law_some"] (sp_turned A) := by
  refine T.F_turned.ok sc_turned (fun vs H Q E h => ?_) (fun cdv A_ outer s_ H_0 vs Q E hr h => ?_)
  · obtain ⟨ms, v_days_here, v_some, x_days_here, x_some, KM, rfl, _⟩ := h
    rfl
  · obtain ⟨ms, v_days_here, v_some, x_days_here, x_some, KM, rfl, hW, h_days_here, h_some, hM, hQ⟩ := h
    unfold M_turned at hM
    refine ⟨_, (pss_one (ps_ret (pe_lc (own := [("_law_meets", 2)]) (g := gName 2) rfl sc_turned.nd (pi_list (pv 0)) (blkOk_by (N := ["_law_days_here", "_law_some", "_law_meets", "_law_home", "_law_away"]) (sc := defScope s_turned) (by decide +kernel)) (fun _ _ _ _ _ => pg_name (i := 2) sc_turned.nd rfl (by first | exact Or.inl rfl | exact Or.inr rfl)) (fun _ _ _ _ _ => pts_nil) (fun _ _ _ _ _ => (pe_lc (own := [("_law_home", 3), ("_law_away", 4)]) (g := (gTup K 2 (gCons (gName 3) (gCons (gName 4) gNil)))) rfl sc_turned.nd (pi_listK (K := K) rfl (pv 2)) (blkOk_rel (N := ["_law_days_here", "_law_some", "_law_meets", "_law_home", "_law_away"]) rfl (by kernel_rfl)) (fun _ _ _ _ _ => (pg_tup rfl (pgs_cons (pg_name (i := 3) sc_turned.nd rfl (by first | exact Or.inl rfl | exact Or.inr rfl)) (pgs_cons (pg_name (i := 4) sc_turned.nd rfl (by first | exact Or.inl rfl | exact Or.inr rfl)) pgs_nil)))) (fun _ _ _ _ _ => pts_nil) (fun _ _ _ _ _ => (pe_up (pe_ifExp (pt_cmpR (op_inDK (K := K) rfl (units65 hr)) (pe_tup (pa_cons (pv 3) (pa_cons (pv 4) pa_nil))) (pv 1) (by rfl)) (pe_tup (pa_cons (pv 4) (pa_cons (pv 3) pa_nil))) (pe_tup (pa_cons (pv 3) (pa_cons (pv 4) pa_nil))))))))))), ?_⟩
    refine ⟨_, rfl, ?_⟩
    apply rep_iter h_days_here
    intro a1 xs2 _ an3 hp4 hl5
    refine fun L6 nl7 => ?_
    have nm21 := nm_new hW nl7
    refine lc_listG (L := L6) (fun n_ ys_ h_ => Wd (L6 :: ms) [] [] H_0 h_ ∧ Keep (L6 :: ms) H_0 h_ ∧ MutO (L6 :: ms) [] H_0 h_ L6 (D.lst (ys_.map (fun y_ : (List (Int × Int)) => (D.lst (y_.map (fun y_ : (Int × Int) => (D.tup [(D.v (V.int y_.1)), (D.v (V.int y_.2))]))))))) ∧ ys_.length ≤ n_) (items := x_days_here) (e := (fun y_ : (List (Int × Int)) => (D.lst (y_.map (fun y_ : (Int × Int) => (D.tup [(D.v (V.int y_.1)), (D.v (V.int y_.2))])))))) an3 hp4 hl5 nl7 (fun _ _ _ q_ => q_.2.1) hM ⟨wd_cell hW nl7, keep_cell nl7 Keep.refl, mo_newL (ds := []) hW nl7 repL_nil, Nat.le_refl _⟩ ?_ ?_
    · skip
      rintro x17 u18 n8 ys9 k10 H22 hn ⟨hW, hk11, mu12, ln13⟩ h19 hM Nx16 hN14
      replace h_days_here := rep_keep hk11 (rep_new nl7 h_days_here)
      replace h_some := rep_keep hk11 (rep_new nl7 h_some)
      refine ⟨rfl, ?_⟩
      refine tyes_of ?_
      refine ⟨_, rfl, ?_⟩
      apply rep_iter h19
      intro a23 xs24 _ an25 hp26 hl27
      refine fun L28 nl29 => ?_
      have nm43 := nm_new hW nl29
      have kn44 := keep_none (w := hW) nl29 hk11
      have ne45 := mo_ne nl29 mu12
      refine lc_listG (L := L28) (fun n_ ys_ h_ => Wd (L28 :: (L6 :: ms)) [] [] H_0 h_ ∧ Keep (L28 :: (L6 :: ms)) H22 h_ ∧ MutO (L28 :: (L6 :: ms)) [] H_0 h_ L28 (D.lst (ys_.map (fun y_ : (Int × Int) => (D.tup [(D.v (V.int y_.1)), (D.v (V.int y_.2))])))) ∧ ys_.length ≤ n_ ∧ MutO (L28 :: (L6 :: ms)) [] H_0 h_ L6 (D.lst (ys9.map (fun y_ : (List (Int × Int)) => (D.lst (y_.map (fun y_ : (Int × Int) => (D.tup [(D.v (V.int y_.1)), (D.v (V.int y_.2))])))))))) (items := x17) (e := (fun y_ : (Int × Int) => (D.tup [(D.v (V.int y_.1)), (D.v (V.int y_.2))]))) an25 hp26 hl27 nl29 (fun _ _ _ q_ => q_.2.1) hM ⟨wd_cell hW nl29, keep_cell nl29 Keep.refl, mo_newL (ds := []) hW nl29 repL_nil, Nat.le_refl _, mo_cell nl29 mu12⟩ ?_ ?_
      · skip
        clear mu12
        rintro x39 u40 n30 ys31 k32 H46 hn ⟨hW, hk33, mu34, ln35, mu47⟩ h41 hM Nx38 hN36
        replace h_days_here := rep_keep hk33 (rep_new nl29 h_days_here)
        replace h_some := rep_keep hk33 (rep_new nl29 h_some)
        replace hk11 := Keep.trans (Keep.new hk11) hk33
        replace h19 := rep_keep hk33 (rep_new nl29 h19)
        apply rep_gtup h41 rfl
        intro vs48 hv49
        obtain ⟨u50, us51, rfl, h52, hv53⟩ := repL_uncons hv49
        obtain rfl := of_v h52
        obtain ⟨u54, us55, rfl, h56, hv57⟩ := repL_uncons hv53
        obtain rfl := of_v h56
        obtain rfl := repL_empty hv57
        refine ⟨_, _, rfl, ?_⟩
        refine ⟨_, _, rfl, ?_⟩
        refine ⟨rfl, ?_⟩
        refine ⟨rfl, ?_⟩
        refine tyes_of ?_
        obtain ⟨KB58, hM, hKKB58⟩ := hM
        refine ⟨fun v H1 => ∃ r : (Int × Int), KB58 r ∧ Wd (L28 :: (L6 :: ms)) [] [] H_0 H1 ∧ Keep (L28 :: (L6 :: ms)) H46 H1 ∧ rep (L28 :: (L6 :: ms)) H1 (D.tup [(D.v (V.int r.1)), (D.v (V.int r.2))]) v ∧ MutO (L28 :: (L6 :: ms)) [] H_0 H1 L6 (D.lst (ys9.map (fun y_ : (List (Int × Int)) => (D.lst (y_.map (fun y_ : (Int × Int) => (D.tup [(D.v (V.int y_.1)), (D.v (V.int y_.2))]))))))) ∧ MutO (L28 :: (L6 :: ms)) [] H_0 H1 L28 (D.lst (ys31.map (fun y_ : (Int × Int) => (D.tup [(D.v (V.int y_.1)), (D.v (V.int y_.2))])))), ?_, ?_⟩
        · skip
          have hj60 := Keep.refl (ms := (L28 :: (L6 :: ms))) (H := H46)
          refine ⟨_, rfl, ?_⟩
          refine ⟨_, rfl, ?_⟩
          refine ⟨(by show 2 ≤ sizeLine; decide), ?_⟩
          intro p61 n65
          have e62 := Rx.Ext.new (H := H46) (o := (HO.tup [V.int x39.1, V.int x39.2])) n65
          have hp63 : upd H46 p61 (HO.tup [V.int x39.1, V.int x39.2]) p61 = some (HO.tup [V.int x39.1, V.int x39.2]) := upd_same
          generalize upd H46 p61 (HO.tup [V.int x39.1, V.int x39.2]) = H66 at e62 hp63 ⊢
          have h64 : rep (L28 :: (L6 :: ms)) H66 (D.tup [(D.v (V.int x39.1)), (D.v (V.int x39.2))]) (.ref p61) := rep_tup_mk hW n65 e62 hp63 (repL_cons rep_v (repL_cons rep_v repL_nil))
          replace h_days_here := rep_ext e62 h_days_here
          replace h_some := rep_ext e62 h_some
          replace hk11 := keep_ext e62 hk11
          replace h19 := rep_ext e62 h19
          replace hk33 := keep_ext e62 hk33
          replace h41 := rep_ext e62 h41
          replace hj60 := keep_ext e62 hj60
          replace mu47 := mo_ext e62 mu47
          replace mu34 := mo_ext e62 mu34
          replace hW := hW.ret0 e62
          refine ⟨_, rfl, ?_⟩
          obtain ⟨g67, hM⟩ := hM
          apply rep_inD (d := (D.tup [(D.v (V.int (x39.1, x39.2).1)), (D.v (V.int (x39.1, x39.2).2))])) (es := (x_some.map (fun y_ : (Int × Int) => (D.tup [(D.v (V.int y_.1)), (D.v (V.int y_.2))])))) h64 h_some g67.1 g67.2.1 g67.2.2.1 g67.2.2.2
          refine ⟨_, rfl, ?_⟩
          refine ite3 hM (fun hM => ?_) (fun hM => ?_)
          · skip
            refine ⟨_, rfl, ?_⟩
            refine ⟨_, rfl, ?_⟩
            refine ⟨(by show 2 ≤ sizeLine; decide), ?_⟩
            intro p68 n72
            have e69 := Rx.Ext.new (H := H66) (o := (HO.tup [V.int x39.2, V.int x39.1])) n72
            have hp70 : upd H66 p68 (HO.tup [V.int x39.2, V.int x39.1]) p68 = some (HO.tup [V.int x39.2, V.int x39.1]) := upd_same
            generalize upd H66 p68 (HO.tup [V.int x39.2, V.int x39.1]) = H73 at e69 hp70 ⊢
            have h71 : rep (L28 :: (L6 :: ms)) H73 (D.tup [(D.v (V.int x39.2)), (D.v (V.int x39.1))]) (.ref p68) := rep_tup_mk hW n72 e69 hp70 (repL_cons rep_v (repL_cons rep_v repL_nil))
            replace h_days_here := rep_ext e69 h_days_here
            replace h_some := rep_ext e69 h_some
            replace hk11 := keep_ext e69 hk11
            replace h19 := rep_ext e69 h19
            replace hk33 := keep_ext e69 hk33
            replace h41 := rep_ext e69 h41
            replace hj60 := keep_ext e69 hj60
            replace h64 := rep_ext e69 h64
            replace mu47 := mo_ext e69 mu47
            replace mu34 := mo_ext e69 mu34
            replace hW := hW.ret0 e69
            exact ⟨(x39.2, x39.1), hM, hW, hj60, h71, mu47, mu34⟩
          · skip
            refine ⟨_, rfl, ?_⟩
            refine ⟨_, rfl, ?_⟩
            refine ⟨(by show 2 ≤ sizeLine; decide), ?_⟩
            intro p74 n78
            have e75 := Rx.Ext.new (H := H66) (o := (HO.tup [V.int x39.1, V.int x39.2])) n78
            have hp76 : upd H66 p74 (HO.tup [V.int x39.1, V.int x39.2]) p74 = some (HO.tup [V.int x39.1, V.int x39.2]) := upd_same
            generalize upd H66 p74 (HO.tup [V.int x39.1, V.int x39.2]) = H79 at e75 hp76 ⊢
            have h77 : rep (L28 :: (L6 :: ms)) H79 (D.tup [(D.v (V.int x39.1)), (D.v (V.int x39.2))]) (.ref p74) := rep_tup_mk hW n78 e75 hp76 (repL_cons rep_v (repL_cons rep_v repL_nil))
            replace h_days_here := rep_ext e75 h_days_here
            replace h_some := rep_ext e75 h_some
            replace hk11 := keep_ext e75 hk11
            replace h19 := rep_ext e75 h19
            replace hk33 := keep_ext e75 hk33
            replace h41 := rep_ext e75 h41
            replace hj60 := keep_ext e75 hj60
            replace h64 := rep_ext e75 h64
            replace mu47 := mo_ext e75 mu47
            replace mu34 := mo_ext e75 mu34
            replace hW := hW.ret0 e75
            exact ⟨(x39.1, x39.2), hM, hW, hj60, h77, mu47, mu34⟩
        · skip
          clear mu47
          clear mu34
          rintro u82 Hj59 ⟨r80, hr, hW, hj60, h81, mu83, mu84⟩
          replace hM := hKKB58 r80 hr
          replace h_days_here := rep_keep hj60 h_days_here
          replace h_some := rep_keep hj60 h_some
          replace hk11 := Keep.trans hk11 hj60
          replace h19 := rep_keep hj60 h19
          replace hk33 := Keep.trans hk33 hj60
          replace h41 := rep_keep hj60 h41
          refine mo_end mu84 hn (by rw [List.length_map]; exact ln35) fun vs85 hr86 => ?_
          have mk88 := mo_setL mu84 (repL_snoc (e := (fun y_ : (Int × Int) => (D.tup [(D.v (V.int y_.1)), (D.v (V.int y_.2))]))) (xs := ys31) (y := r80) hr86 h81)
          replace mu83 := mo_put (o := .lst (vs85 ++ [u82])) mu84.im ne45 mu83
          replace h_days_here := rep_put (o := .lst (vs85 ++ [u82])) mu84.im h_days_here
          replace h_some := rep_put (o := .lst (vs85 ++ [u82])) mu84.im h_some
          replace hk11 := keep_put (o := .lst (vs85 ++ [u82])) mu84.im hk11
          replace h19 := rep_put (o := .lst (vs85 ++ [u82])) mu84.im h19
          replace hk33 := keep_put (o := .lst (vs85 ++ [u82])) mu84.im hk33
          replace h41 := rep_put (o := .lst (vs85 ++ [u82])) mu84.im h41
          replace h81 := rep_put (o := .lst (vs85 ++ [u82])) mu84.im h81
          replace hW := wd_put (o := .lst (vs85 ++ [u82])) hW mu84
          replace mu84 := mk88
          generalize upd Hj59 L28 (.lst (vs85 ++ [u82])) = H89 at *
          replace mu84 : MutO (L28 :: (L6 :: ms)) [] H_0 H89 L28 (D.lst ((ys31 ++ [r80]).map (fun y_ : (Int × Int) => (D.tup [(D.v (V.int y_.1)), (D.v (V.int y_.2))])))) := mu84
          clear mk88
          exact hN36 r80 _ hM ⟨hW, hk33, mu84, by rw [List.length_append]; exact Nat.add_le_add_right ln35 1, mu83⟩
      · skip
        clear mu12
        rintro n30 ys90 H91 hM ⟨hW, hk33, mu34, ln35, mu92⟩
        replace h_days_here := rep_keep hk33 (rep_new nl29 h_days_here)
        replace h_some := rep_keep hk33 (rep_new nl29 h_some)
        replace hk11 := Keep.trans (Keep.new hk11) hk33
        replace h19 := rep_keep hk33 (rep_new nl29 h19)
        clear hk33 ln35
        have h93 := mo_rep_dr dr_here nm43 mu34
        replace hW := wd_dr dr_here mu34.hp hW
        replace h_days_here := rep_dr dr_here h_days_here
        replace h_some := rep_dr dr_here h_some
        replace hk11 := keep_dr dr_here kn44 hk11
        replace h19 := rep_dr dr_here h19
        replace mu92 := mo_dr dr_here ne45 mu92
        clear mu34
        refine mo_end mu92 hn (by rw [List.length_map]; exact ln13) fun vs94 hr95 => ?_
        have mk97 := mo_setL mu92 (repL_snoc (e := (fun y_ : (List (Int × Int)) => (D.lst (y_.map (fun y_ : (Int × Int) => (D.tup [(D.v (V.int y_.1)), (D.v (V.int y_.2))])))))) (xs := ys9) (y := ys90) hr95 h93)
        replace h_days_here := rep_put (o := .lst (vs94 ++ [(V.ref L28)])) mu92.im h_days_here
        replace h_some := rep_put (o := .lst (vs94 ++ [(V.ref L28)])) mu92.im h_some
        replace hk11 := keep_put (o := .lst (vs94 ++ [(V.ref L28)])) mu92.im hk11
        replace h19 := rep_put (o := .lst (vs94 ++ [(V.ref L28)])) mu92.im h19
        replace h93 := rep_put (o := .lst (vs94 ++ [(V.ref L28)])) mu92.im h93
        replace hW := wd_put (o := .lst (vs94 ++ [(V.ref L28)])) hW mu92
        replace mu92 := mk97
        generalize upd H91 L6 (.lst (vs94 ++ [(V.ref L28)])) = H98 at *
        replace mu92 : MutO (L6 :: ms) [] H_0 H98 L6 (D.lst ((ys9 ++ [ys90]).map (fun y_ : (List (Int × Int)) => (D.lst (y_.map (fun y_ : (Int × Int) => (D.tup [(D.v (V.int y_.1)), (D.v (V.int y_.2))]))))))) := mu92
        clear mk97
        exact hN14 ys90 _ hM ⟨hW, hk11, mu92, by rw [List.length_append]; exact Nat.add_le_add_right ln13 1⟩
    · skip
      rintro n8 ys99 H100 hM ⟨hW, hk11, mu12, ln13⟩
      replace h_days_here := rep_keep hk11 (rep_new nl7 h_days_here)
      replace h_some := rep_keep hk11 (rep_new nl7 h_some)
      clear hk11 ln13
      have h101 := mo_rep_dr dr_here nm21 mu12
      replace hW := wd_dr dr_here mu12.hp hW
      replace h_days_here := rep_dr dr_here h_days_here
      replace h_some := rep_dr dr_here h_some
      clear mu12
      exact hQ ys99 _ _ hM hW.out h101
def M_near_days (x_days_here : (List (List (Int × Int)))) (KM : (List (List (List (Int × Int)))) → Prop) : Prop :=
  (M_draw (x_days_here.length : Int) fun r1 => (∃ y6, atI x_days_here r1 = some y6 ∧ (M_draw (y6.length : Int) fun r10 => (x_days_here.length + ([y6] : List (List (Int × Int))).length ≤ sizeLine ∧ (∃ y48, atI y6 r10 = some y48 ∧ (M_turned ([y6] : List (List (Int × Int))) ([y48] : List (Int × Int)) fun r58 => ((cutM x_days_here none (some r1)).length + r58.length ≤ sizeLine ∧ (((cutM x_days_here none (some r1)) ++ r58).length + (cutM x_days_here (some (r1 + (1 : Int))) none).length ≤ sizeLine ∧ (M_mixed_pltii y6 fun r94 => ((cutM x_days_here none (some r1)).length + ([r94] : List (List (Int × Int))).length ≤ sizeLine ∧ (((cutM x_days_here none (some r1)) ++ ([r94] : List (List (Int × Int)))).length + (cutM x_days_here (some (r1 + (1 : Int))) none).length ≤ sizeLine ∧ (([(x_days_here.reverse), (x_days_here ++ ([y6] : List (List (Int × Int)))), (((cutM x_days_here none (some r1)) ++ r58) ++ (cutM x_days_here (some (r1 + (1 : Int))) none))] : List (List (List (Int × Int)))).length < 16777216 ∧ (∃ y130, atI y6 (r10 - (1 : Int)) = some y130 ∧ (∃ y134, atI y6 r10 = some y134 ∧ (y6.length < 100000 ∧ filC (fun (x170 : (Int × Int)) (k163 : Option (Int × Int) → Prop) => ((plainD (D.tup [(D.v (V.int x170.1)), (D.v (V.int x170.2))]) = true ∧ plainD (D.tup [(D.tup [(D.v (V.int y130.1)), (D.v (V.int y130.2))]), (D.tup [(D.v (V.int y134.1)), (D.v (V.int y134.2))])]) = true ∧ SeqAt.shaped (pyOf (D.tup [(D.v (V.int x170.1)), (D.v (V.int x170.2))])) = true ∧ SeqAt.shaped (pyOf (D.tup [(D.tup [(D.v (V.int y130.1)), (D.v (V.int y130.2))]), (D.tup [(D.v (V.int y134.1)), (D.v (V.int y134.2))])])) = true) ∧ (if (!(inDv (D.tup [(D.v (V.int x170.1)), (D.v (V.int x170.2))]) [(D.tup [(D.v (V.int y130.1)), (D.v (V.int y130.2))]), (D.tup [(D.v (V.int y134.1)), (D.v (V.int y134.2))])])) = true then (k163 (some x170)) else (k163 none)))) y6 [] fun ys190 => (ys190.length + ([(y130.1, y134.1), (y130.2, y134.2)] : List (Int × Int)).length ≤ sizeLine ∧ ((cutM x_days_here none (some r1)).length + ([(ys190 ++ ([(y130.1, y134.1), (y130.2, y134.2)] : List (Int × Int)))] : List (List (Int × Int))).length ≤ sizeLine ∧ (((cutM x_days_here none (some r1)) ++ ([(ys190 ++ ([(y130.1, y134.1), (y130.2, y134.2)] : List (Int × Int)))] : List (List (Int × Int)))).length + (cutM x_days_here (some (r1 + (1 : Int))) none).length ≤ sizeLine ∧ ((([(x_days_here.reverse), (x_days_here ++ ([y6] : List (List (Int × Int)))), (((cutM x_days_here none (some r1)) ++ r58) ++ (cutM x_days_here (some (r1 + (1 : Int))) none))] : List (List (List (Int × Int)))) ++ [(((cutM x_days_here none (some r1)) ++ ([r94] : List (List (Int × Int)))) ++ (cutM x_days_here (some (r1 + (1 : Int))) none))]).length < 16777216 ∧ (if (decide ((1 : Int) < (x_days_here.length : Int))) = true then ((cutM x_days_here none (some r1)).length + (cutM x_days_here (some (r1 + (1 : Int))) none).length ≤ sizeLine ∧ (((([(x_days_here.reverse), (x_days_here ++ ([y6] : List (List (Int × Int)))), (((cutM x_days_here none (some r1)) ++ r58) ++ (cutM x_days_here (some (r1 + (1 : Int))) none))] : List (List (List (Int × Int)))) ++ [(((cutM x_days_here none (some r1)) ++ ([r94] : List (List (Int × Int)))) ++ (cutM x_days_here (some (r1 + (1 : Int))) none))]) ++ [(((cutM x_days_here none (some r1)) ++ ([(ys190 ++ ([(y130.1, y134.1), (y130.2, y134.2)] : List (Int × Int)))] : List (List (Int × Int)))) ++ (cutM x_days_here (some (r1 + (1 : Int))) none))]).length < 16777216 ∧ (KM (((([(x_days_here.reverse), (x_days_here ++ ([y6] : List (List (Int × Int)))), (((cutM x_days_here none (some r1)) ++ r58) ++ (cutM x_days_here (some (r1 + (1 : Int))) none))] : List (List (List (Int × Int)))) ++ [(((cutM x_days_here none (some r1)) ++ ([r94] : List (List (Int × Int)))) ++ (cutM x_days_here (some (r1 + (1 : Int))) none))]) ++ [(((cutM x_days_here none (some r1)) ++ ([(ys190 ++ ([(y130.1, y134.1), (y130.2, y134.2)] : List (Int × Int)))] : List (List (Int × Int)))) ++ (cutM x_days_here (some (r1 + (1 : Int))) none))]) ++ [((cutM x_days_here none (some r1)) ++ (cutM x_days_here (some (r1 + (1 : Int))) none))])))) else (KM ((([(x_days_here.reverse), (x_days_here ++ ([y6] : List (List (Int × Int)))), (((cutM x_days_here none (some r1)) ++ r58) ++ (cutM x_days_here (some (r1 + (1 : Int))) none))] : List (List (List (Int × Int)))) ++ [(((cutM x_days_here none (some r1)) ++ ([r94] : List (List (Int × Int)))) ++ (cutM x_days_here (some (r1 + (1 : Int))) none))]) ++ [(((cutM x_days_here none (some r1)) ++ ([(ys190 ++ ([(y130.1, y134.1), (y130.2, y134.2)] : List (Int × Int)))] : List (List (Int × Int)))) ++ (cutM x_days_here (some (r1 + (1 : Int))) none))]))))))))))))))))))))))
def sp_near_days (A : Ad) : Sp := fun vs H Q _ => ∃ (ms : List Addr) (ap : Addr) (v_days_here : V) (x_days_here : (List (List (Int × Int)))) (KM : (List (List (List (Int × Int)))) → Prop), vs = [.ref ap, v_days_here] ∧ Wd ms [(ap, none)] [] H H ∧ rep ms H (D.lst (x_days_here.map (fun y_ : (List (Int × Int)) => (D.lst (y_.map (fun y_ : (Int × Int) => (D.tup [(D.v (V.int y_.1)), (D.v (V.int y_.2))]))))))) v_days_here ∧ M_near_days x_days_here KM ∧ ∀ (r : (List (List (List (Int × Int))))) (u : V) (H1 : Hp), KM r → Ret [(ap, none)] H H1 → rep ms H1 (D.lst (r.map (fun y_ : (List (List (Int × Int))) => (D.lst (y_.map (fun y_ : (List (Int × Int)) => (D.lst (y_.map (fun y_ : (Int × Int) => (D.tup [(D.v (V.int y_.1)), (D.v (V.int y_.2))])))))))))) u → Q u H1
set_option maxHeartbeats 16000000 in
theorem ok_near_days {P : Program} {w : World} {K : PySem.W.Frag} {mg : Str → Option Value} {base : Heap} {A : Ad} (T : Txt w K mg A) : FnOk P w K mg base CX0 3 A.a_near_days A.d_near_days ["_law_pot_here", "_law_days_here"] (sp_near_days A) := by
  refine T.F_near_days.ok sc_near_days (fun vs H Q E h => ?_) (fun cdv A_ outer s_ H_0 vs Q E hr h => ?_)
  · obtain ⟨ms, ap, v_days_here, x_days_here, KM, rfl, _⟩ := h
    rfl
  · obtain ⟨ms, ap, v_days_here, x_days_here, KM, rfl, hW, h_days_here, hM, hQ⟩ := h
    unfold M_near_days at hM
    refine ⟨_, (pss_cons (ps_set (i := 2) sc_near_days.nd rfl (by first | exact Or.inl rfl | exact Or.inr rfl) (pe_call (ok_draw T) (hr.mono (by decide)) (by rfl) T.g_draw T.F_draw.kp T.b_draw .nil pass0 (pa_cons (pv 0) (pa_cons (pe_callB (call_lenK (K := K) rfl) (by rfl) T.z_len PySem.boot_len (pa_cons (pv 1) pa_nil)) pa_nil)))) (pss_cons (ps_set (i := 3) sc_near_days.nd rfl (by first | exact Or.inl rfl | exact Or.inr rfl) (pe_ix (ix_listK (K := K) rfl) (pv 1) (pv 2) (fun _ _ => rfl))) (pss_cons (ps_set (i := 4) sc_near_days.nd rfl (by first | exact Or.inl rfl | exact Or.inr rfl) (pe_call (ok_draw T) (hr.mono (by decide)) (by rfl) T.g_draw T.F_draw.kp T.b_draw .nil pass0 (pa_cons (pv 0) (pa_cons (pe_callB (call_lenK (K := K) rfl) (by rfl) T.z_len PySem.boot_len (pa_cons (pv 3) pa_nil)) pa_nil)))) (pss_cons (ps_set (i := 5) sc_near_days.nd rfl (by first | exact Or.inl rfl | exact Or.inr rfl) (pe_lst (pa_cons (pe_revL (pv 1)) (pa_cons (pe_op op_cat (pv 1) (pe_lst (pa_cons (pv 3) pa_nil))) (pa_cons (pe_op op_cat (pe_op op_cat (pe_slice (sl_listK (K := K) rfl) (pv 1) po_none (po_some (pv 2))) (pe_call (ok_turned T) (hr.mono (by decide)) (by rfl) T.g_turned T.F_turned.kp T.b_turned .nil pass0 (pa_cons (pe_lst (pa_cons (pv 3) pa_nil)) (pa_cons (pe_lst (pa_cons (pe_ix (ix_listK (K := K) rfl) (pv 3) (pv 4) (fun _ _ => rfl)) pa_nil)) pa_nil)))) (pe_slice (sl_listK (K := K) rfl) (pv 1) (po_some (pe_op op_add (pv 2) pe_int)) po_none)) pa_nil))))) (pss_cons (ps_expr (pe_bmK (K := K) rfl PySem.F.plainAttrs_list PySem.F.slot_list_append PySem.F.type_list_append mt_append (pv 5) (pa_cons (pe_op op_cat (pe_op op_cat (pe_slice (sl_listK (K := K) rfl) (pv 1) po_none (po_some (pv 2))) (pe_lst (pa_cons (pe_call (ok_mixed_pltii T) (hr.mono (by decide)) (by rfl) T.g_mixed T.F_mixed.kp T.b_mixed .nil pass0 (pa_cons (pv 0) (pa_cons (pv 3) pa_nil))) pa_nil))) (pe_slice (sl_listK (K := K) rfl) (pv 1) (po_some (pe_op op_add (pv 2) pe_int)) po_none)) pa_nil))) (pss_cons (ps_asg (pe_tup (pa_cons (pe_ix (ix_listK (K := K) rfl) (pv 3) (pe_op op_sub (pv 4) pe_int) (fun _ _ => rfl)) (pa_cons (pe_ix (ix_listK (K := K) rfl) (pv 3) (pv 4) (fun _ _ => rfl)) pa_nil))) (pg_tup rfl (pgs_cons (pg_name (i := 6) sc_near_days.nd rfl (by first | exact Or.inl rfl | exact Or.inr rfl)) (pgs_cons (pg_name (i := 7) sc_near_days.nd rfl (by first | exact Or.inl rfl | exact Or.inr rfl)) pgs_nil)))) (pss_cons (ps_setLc (i := 8) (own := [("_law_near", 9)]) (g := gName 9) rfl sc_near_days.nd rfl rfl (sw_true rfl rfl rfl (by decide +kernel)) (pi_list (pv 3)) (blkOk_by (N := ["_law_pot_here", "_law_days_here", "_law_at", "_law_meets", "_law_spot", "_law_found", "_law_lead", "_law_mate", "_law_rest", "_law_near"]) (sc := defScope s_near_days) (by decide +kernel)) (fun _ _ _ _ _ => pg_name (i := 9) sc_near_days.nd rfl (by first | exact Or.inl rfl | exact Or.inr rfl)) (fun _ _ _ _ _ => (pts_one (pt_cmpR (op_ninTK (K := K) rfl (units65 hr)) (pv 9) (pe_tup (pa_cons (pv 6) (pa_cons (pv 7) pa_nil))) (by rfl)))) (fun _ _ _ _ _ => (pv 9))) (pss_cons (ps_expr (pe_bmK (K := K) rfl PySem.F.plainAttrs_list PySem.F.slot_list_append PySem.F.type_list_append mt_append (pv 5) (pa_cons (pe_op op_cat (pe_op op_cat (pe_slice (sl_listK (K := K) rfl) (pv 1) po_none (po_some (pv 2))) (pe_lst (pa_cons (pe_op op_cat (pv 8) (pe_lst (pa_cons (pe_tup (pa_cons (pe_ix (ix_tupK (K := K) rfl) (pv 6) pe_int (fun _ _ => rfl)) (pa_cons (pe_ix (ix_tupK (K := K) rfl) (pv 7) pe_int (fun _ _ => rfl)) pa_nil))) (pa_cons (pe_tup (pa_cons (pe_ix (ix_tupK (K := K) rfl) (pv 6) pe_int (fun _ _ => rfl)) (pa_cons (pe_ix (ix_tupK (K := K) rfl) (pv 7) pe_int (fun _ _ => rfl)) pa_nil))) pa_nil)))) pa_nil))) (pe_slice (sl_listK (K := K) rfl) (pv 1) (po_some (pe_op op_add (pv 2) pe_int)) po_none)) pa_nil))) (pss_cons (ps_if (pt_cmpR op_gt (pe_callB (call_lenK (K := K) rfl) (by rfl) T.z_len PySem.boot_len (pa_cons (pv 1) pa_nil)) pe_int (nomark _)) (pss_one (ps_expr (pe_bmK (K := K) rfl PySem.F.plainAttrs_list PySem.F.slot_list_append PySem.F.type_list_append mt_append (pv 5) (pa_cons (pe_op op_cat (pe_slice (sl_listK (K := K) rfl) (pv 1) po_none (po_some (pv 2))) (pe_slice (sl_listK (K := K) rfl) (pv 1) (po_some (pe_op op_add (pv 2) pe_int)) po_none)) pa_nil)))) pss_nil) (pss_one (ps_ret (pv 5)))))))))))), ?_⟩
    refine ⟨_, rfl, ?_⟩
    refine ⟨_, rfl, ?_⟩
    apply rep_lenL (e := (fun y_ : (List (Int × Int)) => (D.lst (y_.map (fun y_ : (Int × Int) => (D.tup [(D.v (V.int y_.1)), (D.v (V.int y_.2))])))))) (xs := x_days_here) h_days_here
    refine ⟨ms, ap, (x_days_here.length : Int), _, rfl, hW.enterP, hM, fun r1 u4 H5 hM e3 h2 => ?_⟩
    replace h_days_here := rep_ret hW e3 h_days_here
    replace hW := hW.retP e3
    obtain rfl := of_v h2
    refine ⟨_, rfl, ?_⟩
    refine ⟨_, rfl, ?_⟩
    obtain ⟨y6, h7, hM⟩ := hM
    apply rep_ixN (e := (fun y_ : (List (Int × Int)) => (D.lst (y_.map (fun y_ : (Int × Int) => (D.tup [(D.v (V.int y_.1)), (D.v (V.int y_.2))])))))) (xs := x_days_here) (y := y6) h_days_here h7
    intro u9 h8
    refine ⟨_, rfl, ?_⟩
    refine ⟨_, rfl, ?_⟩
    apply rep_lenL (e := (fun y_ : (Int × Int) => (D.tup [(D.v (V.int y_.1)), (D.v (V.int y_.2))]))) (xs := y6) h8
    refine ⟨ms, ap, (y6.length : Int), _, rfl, hW.enterP, hM, fun r10 u13 H14 hM e12 h11 => ?_⟩
    replace h_days_here := rep_ret hW e12 h_days_here
    replace h8 := rep_ret hW e12 h8
    replace hW := hW.retP e12
    obtain rfl := of_v h11
    refine ⟨_, rfl, ?_⟩
    apply rep_lsU h_days_here
    intro vs15 hr16
    intro p17 n21
    have e18 := Rx.Ext.new (H := H14) (o := (HO.lst (vs15.reverse))) n21
    have hp19 : upd H14 p17 (HO.lst (vs15.reverse)) p17 = some (HO.lst (vs15.reverse)) := upd_same
    generalize upd H14 p17 (HO.lst (vs15.reverse)) = H22 at e18 hp19 ⊢
    have h20 : rep ms H22 (D.lst ((x_days_here.reverse).map (fun y_ : (List (Int × Int)) => (D.lst (y_.map (fun y_ : (Int × Int) => (D.tup [(D.v (V.int y_.1)), (D.v (V.int y_.2))]))))))) (.ref p17) := rep_lst_mk hW n21 e18 hp19 (repL_revM (e := (fun y_ : (List (Int × Int)) => (D.lst (y_.map (fun y_ : (Int × Int) => (D.tup [(D.v (V.int y_.1)), (D.v (V.int y_.2))])))))) (xs := x_days_here) hr16)
    replace h_days_here := rep_ext e18 h_days_here
    replace h8 := rep_ext e18 h8
    replace hW := hW.ret0 e18
    refine ⟨_, rfl, ?_⟩
    refine ⟨_, rfl, ?_⟩
    refine ⟨(by show 1 ≤ sizeLine; decide), ?_⟩
    intro p23 n27
    have e24 := Rx.Ext.new (H := H22) (o := (HO.lst [u9])) n27
    have hp25 : upd H22 p23 (HO.lst [u9]) p23 = some (HO.lst [u9]) := upd_same
    generalize upd H22 p23 (HO.lst [u9]) = H28 at e24 hp25 ⊢
    have h26 : rep ms H28 (D.lst (([y6] : List (List (Int × Int))).map (fun y_ : (List (Int × Int)) => (D.lst (y_.map (fun y_ : (Int × Int) => (D.tup [(D.v (V.int y_.1)), (D.v (V.int y_.2))]))))))) (.ref p23) := rep_lst_mk hW n27 e24 hp25 (repL_cons h8 repL_nil)
    replace h_days_here := rep_ext e24 h_days_here
    replace h8 := rep_ext e24 h8
    replace h20 := rep_ext e24 h20
    replace hW := hW.ret0 e24
    obtain ⟨g29, hM⟩ := hM
    apply rep_cat (xs := x_days_here) (ys := ([y6] : List (List (Int × Int)))) (e := (fun y_ : (List (Int × Int)) => (D.lst (y_.map (fun y_ : (Int × Int) => (D.tup [(D.v (V.int y_.1)), (D.v (V.int y_.2))])))))) hW h_days_here h26 g29
    intro p30 H33 e32 h31
    replace h_days_here := rep_ext e32 h_days_here
    replace h8 := rep_ext e32 h8
    replace h20 := rep_ext e32 h20
    replace h26 := rep_ext e32 h26
    replace hW := hW.ret0 e32
    refine ⟨_, rfl, ?_⟩
    refine ⟨_, rfl, ?_⟩
    refine ⟨_, rfl, ?_⟩
    apply rep_lsU h_days_here
    intro vs34 hr35
    intro p36 n40
    have e37 := Rx.Ext.new (H := H33) (o := (HO.lst (cutV vs34 none (some r1)))) n40
    have hp38 : upd H33 p36 (HO.lst (cutV vs34 none (some r1))) p36 = some (HO.lst (cutV vs34 none (some r1))) := upd_same
    generalize upd H33 p36 (HO.lst (cutV vs34 none (some r1))) = H41 at e37 hp38 ⊢
    have h39 : rep ms H41 (D.lst ((cutM x_days_here none (some r1)).map (fun y_ : (List (Int × Int)) => (D.lst (y_.map (fun y_ : (Int × Int) => (D.tup [(D.v (V.int y_.1)), (D.v (V.int y_.2))]))))))) (.ref p36) := rep_lst_mk hW n40 e37 hp38 (repL_cut (e := (fun y_ : (List (Int × Int)) => (D.lst (y_.map (fun y_ : (Int × Int) => (D.tup [(D.v (V.int y_.1)), (D.v (V.int y_.2))])))))) (xs := x_days_here) hr35)
    replace h_days_here := rep_ext e37 h_days_here
    replace h8 := rep_ext e37 h8
    replace h20 := rep_ext e37 h20
    replace h26 := rep_ext e37 h26
    replace h31 := rep_ext e37 h31
    replace hW := hW.ret0 e37
    refine ⟨_, rfl, ?_⟩
    refine ⟨(by show 1 ≤ sizeLine; decide), ?_⟩
    intro p42 n46
    have e43 := Rx.Ext.new (H := H41) (o := (HO.lst [u9])) n46
    have hp44 : upd H41 p42 (HO.lst [u9]) p42 = some (HO.lst [u9]) := upd_same
    generalize upd H41 p42 (HO.lst [u9]) = H47 at e43 hp44 ⊢
    have h45 : rep ms H47 (D.lst (([y6] : List (List (Int × Int))).map (fun y_ : (List (Int × Int)) => (D.lst (y_.map (fun y_ : (Int × Int) => (D.tup [(D.v (V.int y_.1)), (D.v (V.int y_.2))]))))))) (.ref p42) := rep_lst_mk hW n46 e43 hp44 (repL_cons h8 repL_nil)
    replace h_days_here := rep_ext e43 h_days_here
    replace h8 := rep_ext e43 h8
    replace h20 := rep_ext e43 h20
    replace h26 := rep_ext e43 h26
    replace h31 := rep_ext e43 h31
    replace h39 := rep_ext e43 h39
    replace hW := hW.ret0 e43
    refine ⟨_, rfl, ?_⟩
    refine ⟨_, rfl, ?_⟩
    obtain ⟨y48, h49, hM⟩ := hM
    apply rep_ixN (e := (fun y_ : (Int × Int) => (D.tup [(D.v (V.int y_.1)), (D.v (V.int y_.2))]))) (xs := y6) (y := y48) h8 h49
    intro u51 h50
    refine ⟨(by show 1 ≤ sizeLine; decide), ?_⟩
    intro p52 n56
    have e53 := Rx.Ext.new (H := H47) (o := (HO.lst [u51])) n56
    have hp54 : upd H47 p52 (HO.lst [u51]) p52 = some (HO.lst [u51]) := upd_same
    generalize upd H47 p52 (HO.lst [u51]) = H57 at e53 hp54 ⊢
    have h55 : rep ms H57 (D.lst (([y48] : List (Int × Int)).map (fun y_ : (Int × Int) => (D.tup [(D.v (V.int y_.1)), (D.v (V.int y_.2))])))) (.ref p52) := rep_lst_mk hW n56 e53 hp54 (repL_cons h50 repL_nil)
    replace h_days_here := rep_ext e53 h_days_here
    replace h8 := rep_ext e53 h8
    replace h20 := rep_ext e53 h20
    replace h26 := rep_ext e53 h26
    replace h31 := rep_ext e53 h31
    replace h39 := rep_ext e53 h39
    replace h45 := rep_ext e53 h45
    replace h50 := rep_ext e53 h50
    replace hW := hW.ret0 e53
    refine ⟨ms, _, _, ([y6] : List (List (Int × Int))), ([y48] : List (Int × Int)), _, rfl, hW.enter0, h45, h55, hM, fun r58 u61 H62 hM e60 h59 => ?_⟩
    replace h_days_here := rep_ext e60 h_days_here
    replace h8 := rep_ext e60 h8
    replace h20 := rep_ext e60 h20
    replace h26 := rep_ext e60 h26
    replace h31 := rep_ext e60 h31
    replace h39 := rep_ext e60 h39
    replace h45 := rep_ext e60 h45
    replace h50 := rep_ext e60 h50
    replace h55 := rep_ext e60 h55
    replace hW := hW.ret0 e60
    obtain ⟨g63, hM⟩ := hM
    apply rep_cat (xs := (cutM x_days_here none (some r1))) (ys := r58) (e := (fun y_ : (List (Int × Int)) => (D.lst (y_.map (fun y_ : (Int × Int) => (D.tup [(D.v (V.int y_.1)), (D.v (V.int y_.2))])))))) hW h39 h59 g63
    intro p64 H67 e66 h65
    replace h_days_here := rep_ext e66 h_days_here
    replace h8 := rep_ext e66 h8
    replace h20 := rep_ext e66 h20
    replace h26 := rep_ext e66 h26
    replace h31 := rep_ext e66 h31
    replace h39 := rep_ext e66 h39
    replace h45 := rep_ext e66 h45
    replace h50 := rep_ext e66 h50
    replace h55 := rep_ext e66 h55
    replace h59 := rep_ext e66 h59
    replace hW := hW.ret0 e66
    refine ⟨_, rfl, ?_⟩
    refine ⟨_, rfl, ?_⟩
    refine ⟨_, _, rfl, rfl, ?_⟩
    refine ⟨_, rfl, ?_⟩
    apply rep_lsU h_days_here
    intro vs68 hr69
    intro p70 n74
    have e71 := Rx.Ext.new (H := H67) (o := (HO.lst (cutV vs68 (some (r1 + (1 : Int))) none))) n74
    have hp72 : upd H67 p70 (HO.lst (cutV vs68 (some (r1 + (1 : Int))) none)) p70 = some (HO.lst (cutV vs68 (some (r1 + (1 : Int))) none)) := upd_same
    generalize upd H67 p70 (HO.lst (cutV vs68 (some (r1 + (1 : Int))) none)) = H75 at e71 hp72 ⊢
    have h73 : rep ms H75 (D.lst ((cutM x_days_here (some (r1 + (1 : Int))) none).map (fun y_ : (List (Int × Int)) => (D.lst (y_.map (fun y_ : (Int × Int) => (D.tup [(D.v (V.int y_.1)), (D.v (V.int y_.2))]))))))) (.ref p70) := rep_lst_mk hW n74 e71 hp72 (repL_cut (e := (fun y_ : (List (Int × Int)) => (D.lst (y_.map (fun y_ : (Int × Int) => (D.tup [(D.v (V.int y_.1)), (D.v (V.int y_.2))])))))) (xs := x_days_here) hr69)
    replace h_days_here := rep_ext e71 h_days_here
    replace h8 := rep_ext e71 h8
    replace h20 := rep_ext e71 h20
    replace h26 := rep_ext e71 h26
    replace h31 := rep_ext e71 h31
    replace h39 := rep_ext e71 h39
    replace h45 := rep_ext e71 h45
    replace h50 := rep_ext e71 h50
    replace h55 := rep_ext e71 h55
    replace h59 := rep_ext e71 h59
    replace h65 := rep_ext e71 h65
    replace hW := hW.ret0 e71
    obtain ⟨g76, hM⟩ := hM
    apply rep_cat (xs := ((cutM x_days_here none (some r1)) ++ r58)) (ys := (cutM x_days_here (some (r1 + (1 : Int))) none)) (e := (fun y_ : (List (Int × Int)) => (D.lst (y_.map (fun y_ : (Int × Int) => (D.tup [(D.v (V.int y_.1)), (D.v (V.int y_.2))])))))) hW h65 h73 g76
    intro p77 H80 e79 h78
    replace h_days_here := rep_ext e79 h_days_here
    replace h8 := rep_ext e79 h8
    replace h20 := rep_ext e79 h20
    replace h26 := rep_ext e79 h26
    replace h31 := rep_ext e79 h31
    replace h39 := rep_ext e79 h39
    replace h45 := rep_ext e79 h45
    replace h50 := rep_ext e79 h50
    replace h55 := rep_ext e79 h55
    replace h59 := rep_ext e79 h59
    replace h65 := rep_ext e79 h65
    replace h73 := rep_ext e79 h73
    replace hW := hW.ret0 e79
    refine ⟨(by show 3 ≤ sizeLine; decide), ?_⟩
    intro L81 nl82
    have nm83 := nm_new hW nl82
    have mu84 := mo_newL (ds := ([(x_days_here.reverse), (x_days_here ++ ([y6] : List (List (Int × Int)))), (((cutM x_days_here none (some r1)) ++ r58) ++ (cutM x_days_here (some (r1 + (1 : Int))) none))] : List (List (List (Int × Int)))).map (fun y_ : (List (List (Int × Int))) => (D.lst (y_.map (fun y_ : (List (Int × Int)) => (D.lst (y_.map (fun y_ : (Int × Int) => (D.tup [(D.v (V.int y_.1)), (D.v (V.int y_.2))]))))))))) (vs := [(V.ref p17), (V.ref p30), (V.ref p77)]) hW nl82 (repL_cons h20 (repL_cons h31 (repL_cons h78 repL_nil)))
    replace h_days_here := rep_cell (o := .lst [(V.ref p17), (V.ref p30), (V.ref p77)]) nl82 h_days_here
    replace h8 := rep_cell (o := .lst [(V.ref p17), (V.ref p30), (V.ref p77)]) nl82 h8
    replace h20 := rep_cell (o := .lst [(V.ref p17), (V.ref p30), (V.ref p77)]) nl82 h20
    replace h26 := rep_cell (o := .lst [(V.ref p17), (V.ref p30), (V.ref p77)]) nl82 h26
    replace h31 := rep_cell (o := .lst [(V.ref p17), (V.ref p30), (V.ref p77)]) nl82 h31
    replace h39 := rep_cell (o := .lst [(V.ref p17), (V.ref p30), (V.ref p77)]) nl82 h39
    replace h45 := rep_cell (o := .lst [(V.ref p17), (V.ref p30), (V.ref p77)]) nl82 h45
    replace h50 := rep_cell (o := .lst [(V.ref p17), (V.ref p30), (V.ref p77)]) nl82 h50
    replace h55 := rep_cell (o := .lst [(V.ref p17), (V.ref p30), (V.ref p77)]) nl82 h55
    replace h59 := rep_cell (o := .lst [(V.ref p17), (V.ref p30), (V.ref p77)]) nl82 h59
    replace h65 := rep_cell (o := .lst [(V.ref p17), (V.ref p30), (V.ref p77)]) nl82 h65
    replace h73 := rep_cell (o := .lst [(V.ref p17), (V.ref p30), (V.ref p77)]) nl82 h73
    replace h78 := rep_cell (o := .lst [(V.ref p17), (V.ref p30), (V.ref p77)]) nl82 h78
    replace hW := wd_cell (o := .lst [(V.ref p17), (V.ref p30), (V.ref p77)]) hW nl82
    generalize upd H80 L81 (.lst [(V.ref p17), (V.ref p30), (V.ref p77)]) = H85 at *
    replace mu84 : MutO (L81 :: ms) [(ap, none)] H_0 H85 L81 (D.lst (([(x_days_here.reverse), (x_days_here ++ ([y6] : List (List (Int × Int)))), (((cutM x_days_here none (some r1)) ++ r58) ++ (cutM x_days_here (some (r1 + (1 : Int))) none))] : List (List (List (Int × Int)))).map (fun y_ : (List (List (Int × Int))) => (D.lst (y_.map (fun y_ : (List (Int × Int)) => (D.lst (y_.map (fun y_ : (Int × Int) => (D.tup [(D.v (V.int y_.1)), (D.v (V.int y_.2))])))))))))) := mu84
    refine ⟨_, rfl, ?_⟩
    refine ⟨mo_tyL mu84, ?_⟩
    refine ⟨_, rfl, ?_⟩
    refine ⟨_, rfl, ?_⟩
    refine ⟨_, rfl, ?_⟩
    apply rep_lsU h_days_here
    intro vs86 hr87
    intro p88 n92
    have e89 := Rx.Ext.new (H := H85) (o := (HO.lst (cutV vs86 none (some r1)))) n92
    have hp90 : upd H85 p88 (HO.lst (cutV vs86 none (some r1))) p88 = some (HO.lst (cutV vs86 none (some r1))) := upd_same
    generalize upd H85 p88 (HO.lst (cutV vs86 none (some r1))) = H93 at e89 hp90 ⊢
    have h91 : rep (L81 :: ms) H93 (D.lst ((cutM x_days_here none (some r1)).map (fun y_ : (List (Int × Int)) => (D.lst (y_.map (fun y_ : (Int × Int) => (D.tup [(D.v (V.int y_.1)), (D.v (V.int y_.2))]))))))) (.ref p88) := rep_lst_mk hW n92 e89 hp90 (repL_cut (e := (fun y_ : (List (Int × Int)) => (D.lst (y_.map (fun y_ : (Int × Int) => (D.tup [(D.v (V.int y_.1)), (D.v (V.int y_.2))])))))) (xs := x_days_here) hr87)
    replace h_days_here := rep_ext e89 h_days_here
    replace h8 := rep_ext e89 h8
    replace h20 := rep_ext e89 h20
    replace h26 := rep_ext e89 h26
    replace h31 := rep_ext e89 h31
    replace h39 := rep_ext e89 h39
    replace h45 := rep_ext e89 h45
    replace h50 := rep_ext e89 h50
    replace h55 := rep_ext e89 h55
    replace h59 := rep_ext e89 h59
    replace h65 := rep_ext e89 h65
    replace h73 := rep_ext e89 h73
    replace h78 := rep_ext e89 h78
    replace mu84 := mo_ext e89 mu84
    replace hW := hW.ret0 e89
    refine ⟨_, rfl, ?_⟩
    refine ⟨_, rfl, ?_⟩
    refine ⟨(L81 :: ms), ap, _, y6, _, rfl, hW.enterP, h8, hM, fun r94 u97 H98 hM e96 h95 => ?_⟩
    replace h_days_here := rep_ret hW e96 h_days_here
    replace h8 := rep_ret hW e96 h8
    replace h20 := rep_ret hW e96 h20
    replace h26 := rep_ret hW e96 h26
    replace h31 := rep_ret hW e96 h31
    replace h39 := rep_ret hW e96 h39
    replace h45 := rep_ret hW e96 h45
    replace h50 := rep_ret hW e96 h50
    replace h55 := rep_ret hW e96 h55
    replace h59 := rep_ret hW e96 h59
    replace h65 := rep_ret hW e96 h65
    replace h73 := rep_ret hW e96 h73
    replace h78 := rep_ret hW e96 h78
    replace h91 := rep_ret hW e96 h91
    replace mu84 := mo_ret hW e96 mu84
    replace hW := hW.retP e96
    refine ⟨(by show 1 ≤ sizeLine; decide), ?_⟩
    intro p99 n103
    have e100 := Rx.Ext.new (H := H98) (o := (HO.lst [u97])) n103
    have hp101 : upd H98 p99 (HO.lst [u97]) p99 = some (HO.lst [u97]) := upd_same
    generalize upd H98 p99 (HO.lst [u97]) = H104 at e100 hp101 ⊢
    have h102 : rep (L81 :: ms) H104 (D.lst (([r94] : List (List (Int × Int))).map (fun y_ : (List (Int × Int)) => (D.lst (y_.map (fun y_ : (Int × Int) => (D.tup [(D.v (V.int y_.1)), (D.v (V.int y_.2))]))))))) (.ref p99) := rep_lst_mk hW n103 e100 hp101 (repL_cons h95 repL_nil)
    replace h_days_here := rep_ext e100 h_days_here
    replace h8 := rep_ext e100 h8
    replace h20 := rep_ext e100 h20
    replace h26 := rep_ext e100 h26
    replace h31 := rep_ext e100 h31
    replace h39 := rep_ext e100 h39
    replace h45 := rep_ext e100 h45
    replace h50 := rep_ext e100 h50
    replace h55 := rep_ext e100 h55
    replace h59 := rep_ext e100 h59
    replace h65 := rep_ext e100 h65
    replace h73 := rep_ext e100 h73
    replace h78 := rep_ext e100 h78
    replace h91 := rep_ext e100 h91
    replace h95 := rep_ext e100 h95
    replace mu84 := mo_ext e100 mu84
    replace hW := hW.ret0 e100
    obtain ⟨g105, hM⟩ := hM
    apply rep_cat (xs := (cutM x_days_here none (some r1))) (ys := ([r94] : List (List (Int × Int)))) (e := (fun y_ : (List (Int × Int)) => (D.lst (y_.map (fun y_ : (Int × Int) => (D.tup [(D.v (V.int y_.1)), (D.v (V.int y_.2))])))))) hW h91 h102 g105
    intro p106 H109 e108 h107
    replace h_days_here := rep_ext e108 h_days_here
    replace h8 := rep_ext e108 h8
    replace h20 := rep_ext e108 h20
    replace h26 := rep_ext e108 h26
    replace h31 := rep_ext e108 h31
    replace h39 := rep_ext e108 h39
    replace h45 := rep_ext e108 h45
    replace h50 := rep_ext e108 h50
    replace h55 := rep_ext e108 h55
    replace h59 := rep_ext e108 h59
    replace h65 := rep_ext e108 h65
    replace h73 := rep_ext e108 h73
    replace h78 := rep_ext e108 h78
    replace h91 := rep_ext e108 h91
    replace h95 := rep_ext e108 h95
    replace h102 := rep_ext e108 h102
    replace mu84 := mo_ext e108 mu84
    replace hW := hW.ret0 e108
    refine ⟨_, rfl, ?_⟩
    refine ⟨_, rfl, ?_⟩
    refine ⟨_, _, rfl, rfl, ?_⟩
    refine ⟨_, rfl, ?_⟩
    apply rep_lsU h_days_here
    intro vs110 hr111
    intro p112 n116
    have e113 := Rx.Ext.new (H := H109) (o := (HO.lst (cutV vs110 (some (r1 + (1 : Int))) none))) n116
    have hp114 : upd H109 p112 (HO.lst (cutV vs110 (some (r1 + (1 : Int))) none)) p112 = some (HO.lst (cutV vs110 (some (r1 + (1 : Int))) none)) := upd_same
    generalize upd H109 p112 (HO.lst (cutV vs110 (some (r1 + (1 : Int))) none)) = H117 at e113 hp114 ⊢
    have h115 : rep (L81 :: ms) H117 (D.lst ((cutM x_days_here (some (r1 + (1 : Int))) none).map (fun y_ : (List (Int × Int)) => (D.lst (y_.map (fun y_ : (Int × Int) => (D.tup [(D.v (V.int y_.1)), (D.v (V.int y_.2))]))))))) (.ref p112) := rep_lst_mk hW n116 e113 hp114 (repL_cut (e := (fun y_ : (List (Int × Int)) => (D.lst (y_.map (fun y_ : (Int × Int) => (D.tup [(D.v (V.int y_.1)), (D.v (V.int y_.2))])))))) (xs := x_days_here) hr111)
    replace h_days_here := rep_ext e113 h_days_here
    replace h8 := rep_ext e113 h8
    replace h20 := rep_ext e113 h20
    replace h26 := rep_ext e113 h26
    replace h31 := rep_ext e113 h31
    replace h39 := rep_ext e113 h39
    replace h45 := rep_ext e113 h45
    replace h50 := rep_ext e113 h50
    replace h55 := rep_ext e113 h55
    replace h59 := rep_ext e113 h59
    replace h65 := rep_ext e113 h65
    replace h73 := rep_ext e113 h73
    replace h78 := rep_ext e113 h78
    replace h91 := rep_ext e113 h91
    replace h95 := rep_ext e113 h95
    replace h102 := rep_ext e113 h102
    replace h107 := rep_ext e113 h107
    replace mu84 := mo_ext e113 mu84
    replace hW := hW.ret0 e113
    obtain ⟨g118, hM⟩ := hM
    apply rep_cat (xs := ((cutM x_days_here none (some r1)) ++ ([r94] : List (List (Int × Int))))) (ys := (cutM x_days_here (some (r1 + (1 : Int))) none)) (e := (fun y_ : (List (Int × Int)) => (D.lst (y_.map (fun y_ : (Int × Int) => (D.tup [(D.v (V.int y_.1)), (D.v (V.int y_.2))])))))) hW h107 h115 g118
    intro p119 H122 e121 h120
    replace h_days_here := rep_ext e121 h_days_here
    replace h8 := rep_ext e121 h8
    replace h20 := rep_ext e121 h20
    replace h26 := rep_ext e121 h26
    replace h31 := rep_ext e121 h31
    replace h39 := rep_ext e121 h39
    replace h45 := rep_ext e121 h45
    replace h50 := rep_ext e121 h50
    replace h55 := rep_ext e121 h55
    replace h59 := rep_ext e121 h59
    replace h65 := rep_ext e121 h65
    replace h73 := rep_ext e121 h73
    replace h78 := rep_ext e121 h78
    replace h91 := rep_ext e121 h91
    replace h95 := rep_ext e121 h95
    replace h102 := rep_ext e121 h102
    replace h107 := rep_ext e121 h107
    replace h115 := rep_ext e121 h115
    replace mu84 := mo_ext e121 mu84
    replace hW := hW.ret0 e121
    obtain ⟨g123, hM⟩ := hM
    apply mo_appU mu84 (by rw [List.length_map]; exact g123)
    intro vs124 hr126
    have mk128 := mo_setL mu84 (repL_snoc (e := (fun y_ : (List (List (Int × Int))) => (D.lst (y_.map (fun y_ : (List (Int × Int)) => (D.lst (y_.map (fun y_ : (Int × Int) => (D.tup [(D.v (V.int y_.1)), (D.v (V.int y_.2))]))))))))) (xs := ([(x_days_here.reverse), (x_days_here ++ ([y6] : List (List (Int × Int)))), (((cutM x_days_here none (some r1)) ++ r58) ++ (cutM x_days_here (some (r1 + (1 : Int))) none))] : List (List (List (Int × Int))))) (y := (((cutM x_days_here none (some r1)) ++ ([r94] : List (List (Int × Int)))) ++ (cutM x_days_here (some (r1 + (1 : Int))) none))) hr126 h120)
    replace h_days_here := rep_put (o := .lst (vs124 ++ [(V.ref p119)])) mu84.im h_days_here
    replace h8 := rep_put (o := .lst (vs124 ++ [(V.ref p119)])) mu84.im h8
    replace h20 := rep_put (o := .lst (vs124 ++ [(V.ref p119)])) mu84.im h20
    replace h26 := rep_put (o := .lst (vs124 ++ [(V.ref p119)])) mu84.im h26
    replace h31 := rep_put (o := .lst (vs124 ++ [(V.ref p119)])) mu84.im h31
    replace h39 := rep_put (o := .lst (vs124 ++ [(V.ref p119)])) mu84.im h39
    replace h45 := rep_put (o := .lst (vs124 ++ [(V.ref p119)])) mu84.im h45
    replace h50 := rep_put (o := .lst (vs124 ++ [(V.ref p119)])) mu84.im h50
    replace h55 := rep_put (o := .lst (vs124 ++ [(V.ref p119)])) mu84.im h55
    replace h59 := rep_put (o := .lst (vs124 ++ [(V.ref p119)])) mu84.im h59
    replace h65 := rep_put (o := .lst (vs124 ++ [(V.ref p119)])) mu84.im h65
    replace h73 := rep_put (o := .lst (vs124 ++ [(V.ref p119)])) mu84.im h73
    replace h78 := rep_put (o := .lst (vs124 ++ [(V.ref p119)])) mu84.im h78
    replace h91 := rep_put (o := .lst (vs124 ++ [(V.ref p119)])) mu84.im h91
    replace h95 := rep_put (o := .lst (vs124 ++ [(V.ref p119)])) mu84.im h95
    replace h102 := rep_put (o := .lst (vs124 ++ [(V.ref p119)])) mu84.im h102
    replace h107 := rep_put (o := .lst (vs124 ++ [(V.ref p119)])) mu84.im h107
    replace h115 := rep_put (o := .lst (vs124 ++ [(V.ref p119)])) mu84.im h115
    replace h120 := rep_put (o := .lst (vs124 ++ [(V.ref p119)])) mu84.im h120
    replace hW := wd_put (o := .lst (vs124 ++ [(V.ref p119)])) hW mu84
    replace mu84 := mk128
    generalize upd H122 L81 (.lst (vs124 ++ [(V.ref p119)])) = H129 at *
    replace mu84 : MutO (L81 :: ms) [(ap, none)] H_0 H129 L81 (D.lst ((([(x_days_here.reverse), (x_days_here ++ ([y6] : List (List (Int × Int)))), (((cutM x_days_here none (some r1)) ++ r58) ++ (cutM x_days_here (some (r1 + (1 : Int))) none))] : List (List (List (Int × Int)))) ++ [(((cutM x_days_here none (some r1)) ++ ([r94] : List (List (Int × Int)))) ++ (cutM x_days_here (some (r1 + (1 : Int))) none))]).map (fun y_ : (List (List (Int × Int))) => (D.lst (y_.map (fun y_ : (List (Int × Int)) => (D.lst (y_.map (fun y_ : (Int × Int) => (D.tup [(D.v (V.int y_.1)), (D.v (V.int y_.2))])))))))))) := mu84
    clear mk128
    refine ⟨_, rfl, ?_⟩
    refine ⟨_, rfl, ?_⟩
    refine ⟨_, _, rfl, rfl, ?_⟩
    obtain ⟨y130, h131, hM⟩ := hM
    apply rep_ixN (e := (fun y_ : (Int × Int) => (D.tup [(D.v (V.int y_.1)), (D.v (V.int y_.2))]))) (xs := y6) (y := y130) h8 h131
    intro u133 h132
    refine ⟨_, rfl, ?_⟩
    refine ⟨_, rfl, ?_⟩
    obtain ⟨y134, h135, hM⟩ := hM
    apply rep_ixN (e := (fun y_ : (Int × Int) => (D.tup [(D.v (V.int y_.1)), (D.v (V.int y_.2))]))) (xs := y6) (y := y134) h8 h135
    intro u137 h136
    refine ⟨(by show 2 ≤ sizeLine; decide), ?_⟩
    intro p138 n142
    have e139 := Rx.Ext.new (H := H129) (o := (HO.tup [u133, u137])) n142
    have hp140 : upd H129 p138 (HO.tup [u133, u137]) p138 = some (HO.tup [u133, u137]) := upd_same
    generalize upd H129 p138 (HO.tup [u133, u137]) = H143 at e139 hp140 ⊢
    have h141 : rep (L81 :: ms) H143 (D.tup [(D.tup [(D.v (V.int y130.1)), (D.v (V.int y130.2))]), (D.tup [(D.v (V.int y134.1)), (D.v (V.int y134.2))])]) (.ref p138) := rep_tup_mk hW n142 e139 hp140 (repL_cons h132 (repL_cons h136 repL_nil))
    replace h_days_here := rep_ext e139 h_days_here
    replace h8 := rep_ext e139 h8
    replace h20 := rep_ext e139 h20
    replace h26 := rep_ext e139 h26
    replace h31 := rep_ext e139 h31
    replace h39 := rep_ext e139 h39
    replace h45 := rep_ext e139 h45
    replace h50 := rep_ext e139 h50
    replace h55 := rep_ext e139 h55
    replace h59 := rep_ext e139 h59
    replace h65 := rep_ext e139 h65
    replace h73 := rep_ext e139 h73
    replace h78 := rep_ext e139 h78
    replace h91 := rep_ext e139 h91
    replace h95 := rep_ext e139 h95
    replace h102 := rep_ext e139 h102
    replace h107 := rep_ext e139 h107
    replace h115 := rep_ext e139 h115
    replace h120 := rep_ext e139 h120
    replace h132 := rep_ext e139 h132
    replace h136 := rep_ext e139 h136
    replace mu84 := mo_ext e139 mu84
    replace hW := hW.ret0 e139
    apply rep_gtup h141 rfl
    intro vs144 hv145
    obtain ⟨u146, us147, rfl, h148, hv149⟩ := repL_uncons hv145
    obtain ⟨u150, us151, rfl, h152, hv153⟩ := repL_uncons hv149
    obtain rfl := repL_empty hv153
    refine ⟨_, _, rfl, ?_⟩
    refine ⟨_, _, rfl, ?_⟩
    refine ⟨rfl, ?_⟩
    refine ⟨_, rfl, ?_⟩
    apply rep_iter h8
    intro a154 xs155 _ an156 hp157 hl158
    refine fun L159 nl160 => ?_
    have nm174 := nm_new hW nl160
    have ne175 := mo_ne nl160 mu84
    refine lf_listG (L := L159) (fun n_ ys_ h_ => Wd (L159 :: (L81 :: ms)) [(ap, none)] [] H_0 h_ ∧ Keep (L159 :: (L81 :: ms)) H143 h_ ∧ MutO (L159 :: (L81 :: ms)) [(ap, none)] H_0 h_ L159 (D.lst (ys_.map (fun y_ : (Int × Int) => (D.tup [(D.v (V.int y_.1)), (D.v (V.int y_.2))])))) ∧ ys_.length ≤ n_ ∧ MutO (L159 :: (L81 :: ms)) [(ap, none)] H_0 h_ L81 (D.lst ((([(x_days_here.reverse), (x_days_here ++ ([y6] : List (List (Int × Int)))), (((cutM x_days_here none (some r1)) ++ r58) ++ (cutM x_days_here (some (r1 + (1 : Int))) none))] : List (List (List (Int × Int)))) ++ [(((cutM x_days_here none (some r1)) ++ ([r94] : List (List (Int × Int)))) ++ (cutM x_days_here (some (r1 + (1 : Int))) none))]).map (fun y_ : (List (List (Int × Int))) => (D.lst (y_.map (fun y_ : (List (Int × Int)) => (D.lst (y_.map (fun y_ : (Int × Int) => (D.tup [(D.v (V.int y_.1)), (D.v (V.int y_.2))]))))))))))) (items := y6) (e := (fun y_ : (Int × Int) => (D.tup [(D.v (V.int y_.1)), (D.v (V.int y_.2))]))) an156 hp157 hl158 nl160 (fun _ _ _ q_ => q_.2.1) hM ⟨wd_cell hW nl160, keep_cell nl160 Keep.refl, mo_newL (ds := []) hW nl160 repL_nil, Nat.le_refl _, mo_cell nl160 mu84⟩ ?_ ?_
    · skip
      clear mu84
      rintro x170 u171 n161 ys162 k163 H176 hn ⟨hW, hk164, mu165, ln166, mu177⟩ h172 hM Nx169 hN167 hNn168
      replace h_days_here := rep_keep hk164 (rep_new nl160 h_days_here)
      replace h8 := rep_keep hk164 (rep_new nl160 h8)
      replace h20 := rep_keep hk164 (rep_new nl160 h20)
      replace h26 := rep_keep hk164 (rep_new nl160 h26)
      replace h31 := rep_keep hk164 (rep_new nl160 h31)
      replace h39 := rep_keep hk164 (rep_new nl160 h39)
      replace h45 := rep_keep hk164 (rep_new nl160 h45)
      replace h50 := rep_keep hk164 (rep_new nl160 h50)
      replace h55 := rep_keep hk164 (rep_new nl160 h55)
      replace h59 := rep_keep hk164 (rep_new nl160 h59)
      replace h65 := rep_keep hk164 (rep_new nl160 h65)
      replace h73 := rep_keep hk164 (rep_new nl160 h73)
      replace h78 := rep_keep hk164 (rep_new nl160 h78)
      replace h91 := rep_keep hk164 (rep_new nl160 h91)
      replace h95 := rep_keep hk164 (rep_new nl160 h95)
      replace h102 := rep_keep hk164 (rep_new nl160 h102)
      replace h107 := rep_keep hk164 (rep_new nl160 h107)
      replace h115 := rep_keep hk164 (rep_new nl160 h115)
      replace h120 := rep_keep hk164 (rep_new nl160 h120)
      replace h132 := rep_keep hk164 (rep_new nl160 h132)
      replace h136 := rep_keep hk164 (rep_new nl160 h136)
      replace h141 := rep_keep hk164 (rep_new nl160 h141)
      replace h148 := rep_keep hk164 (rep_new nl160 h148)
      replace h152 := rep_keep hk164 (rep_new nl160 h152)
      refine ⟨rfl, ?_⟩
      refine ⟨_, rfl, ?_⟩
      refine ⟨_, rfl, ?_⟩
      refine ⟨_, rfl, ?_⟩
      refine ⟨(by show 2 ≤ sizeLine; decide), ?_⟩
      intro p178 n182
      have e179 := Rx.Ext.new (H := H176) (o := (HO.tup [u146, u150])) n182
      have hp180 : upd H176 p178 (HO.tup [u146, u150]) p178 = some (HO.tup [u146, u150]) := upd_same
      generalize upd H176 p178 (HO.tup [u146, u150]) = H183 at e179 hp180 ⊢
      have h181 : rep (L159 :: (L81 :: ms)) H183 (D.tup [(D.tup [(D.v (V.int y130.1)), (D.v (V.int y130.2))]), (D.tup [(D.v (V.int y134.1)), (D.v (V.int y134.2))])]) (.ref p178) := rep_tup_mk hW n182 e179 hp180 (repL_cons h148 (repL_cons h152 repL_nil))
      replace h_days_here := rep_ext e179 h_days_here
      replace h8 := rep_ext e179 h8
      replace h20 := rep_ext e179 h20
      replace h26 := rep_ext e179 h26
      replace h31 := rep_ext e179 h31
      replace h39 := rep_ext e179 h39
      replace h45 := rep_ext e179 h45
      replace h50 := rep_ext e179 h50
      replace h55 := rep_ext e179 h55
      replace h59 := rep_ext e179 h59
      replace h65 := rep_ext e179 h65
      replace h73 := rep_ext e179 h73
      replace h78 := rep_ext e179 h78
      replace h91 := rep_ext e179 h91
      replace h95 := rep_ext e179 h95
      replace h102 := rep_ext e179 h102
      replace h107 := rep_ext e179 h107
      replace h115 := rep_ext e179 h115
      replace h120 := rep_ext e179 h120
      replace h132 := rep_ext e179 h132
      replace h136 := rep_ext e179 h136
      replace h141 := rep_ext e179 h141
      replace h148 := rep_ext e179 h148
      replace h152 := rep_ext e179 h152
      replace hk164 := keep_ext e179 hk164
      replace h172 := rep_ext e179 h172
      replace mu177 := mo_ext e179 mu177
      replace mu165 := mo_ext e179 mu165
      replace hW := hW.ret0 e179
      obtain ⟨g184, hM⟩ := hM
      apply rep_ninTD (d := (D.tup [(D.v (V.int x170.1)), (D.v (V.int x170.2))])) (es := [(D.tup [(D.v (V.int y130.1)), (D.v (V.int y130.2))]), (D.tup [(D.v (V.int y134.1)), (D.v (V.int y134.2))])]) h172 h181 g184.1 g184.2.1 g184.2.2.1 g184.2.2.2
      refine ⟨_, rfl, ?_⟩
      refine ite3 hM (fun hM => ?_) (fun hM => ?_)
      · skip
        refine ⟨_, rfl, ?_⟩
        refine mo_end mu165 hn (by rw [List.length_map]; exact ln166) fun vs185 hr186 => ?_
        have mk188 := mo_setL mu165 (repL_snoc (e := (fun y_ : (Int × Int) => (D.tup [(D.v (V.int y_.1)), (D.v (V.int y_.2))]))) (xs := ys162) (y := x170) hr186 h172)
        replace mu177 := mo_put (o := .lst (vs185 ++ [u171])) mu165.im ne175 mu177
        replace h_days_here := rep_put (o := .lst (vs185 ++ [u171])) mu165.im h_days_here
        replace h8 := rep_put (o := .lst (vs185 ++ [u171])) mu165.im h8
        replace h20 := rep_put (o := .lst (vs185 ++ [u171])) mu165.im h20
        replace h26 := rep_put (o := .lst (vs185 ++ [u171])) mu165.im h26
        replace h31 := rep_put (o := .lst (vs185 ++ [u171])) mu165.im h31
        replace h39 := rep_put (o := .lst (vs185 ++ [u171])) mu165.im h39
        replace h45 := rep_put (o := .lst (vs185 ++ [u171])) mu165.im h45
        replace h50 := rep_put (o := .lst (vs185 ++ [u171])) mu165.im h50
        replace h55 := rep_put (o := .lst (vs185 ++ [u171])) mu165.im h55
        replace h59 := rep_put (o := .lst (vs185 ++ [u171])) mu165.im h59
        replace h65 := rep_put (o := .lst (vs185 ++ [u171])) mu165.im h65
        replace h73 := rep_put (o := .lst (vs185 ++ [u171])) mu165.im h73
        replace h78 := rep_put (o := .lst (vs185 ++ [u171])) mu165.im h78
        replace h91 := rep_put (o := .lst (vs185 ++ [u171])) mu165.im h91
        replace h95 := rep_put (o := .lst (vs185 ++ [u171])) mu165.im h95
        replace h102 := rep_put (o := .lst (vs185 ++ [u171])) mu165.im h102
        replace h107 := rep_put (o := .lst (vs185 ++ [u171])) mu165.im h107
        replace h115 := rep_put (o := .lst (vs185 ++ [u171])) mu165.im h115
        replace h120 := rep_put (o := .lst (vs185 ++ [u171])) mu165.im h120
        replace h132 := rep_put (o := .lst (vs185 ++ [u171])) mu165.im h132
        replace h136 := rep_put (o := .lst (vs185 ++ [u171])) mu165.im h136
        replace h141 := rep_put (o := .lst (vs185 ++ [u171])) mu165.im h141
        replace h148 := rep_put (o := .lst (vs185 ++ [u171])) mu165.im h148
        replace h152 := rep_put (o := .lst (vs185 ++ [u171])) mu165.im h152
        replace hk164 := keep_put (o := .lst (vs185 ++ [u171])) mu165.im hk164
        replace h172 := rep_put (o := .lst (vs185 ++ [u171])) mu165.im h172
        replace h181 := rep_put (o := .lst (vs185 ++ [u171])) mu165.im h181
        replace hW := wd_put (o := .lst (vs185 ++ [u171])) hW mu165
        replace mu165 := mk188
        generalize upd H183 L159 (.lst (vs185 ++ [u171])) = H189 at *
        replace mu165 : MutO (L159 :: (L81 :: ms)) [(ap, none)] H_0 H189 L159 (D.lst ((ys162 ++ [x170]).map (fun y_ : (Int × Int) => (D.tup [(D.v (V.int y_.1)), (D.v (V.int y_.2))])))) := mu165
        clear mk188
        exact hN167 x170 _ hM ⟨hW, hk164, mu165, by rw [List.length_append]; exact Nat.add_le_add_right ln166 1, mu177⟩
      · skip
        exact hNn168 _ hM ⟨hW, hk164, mu165, Nat.le_succ_of_le ln166, mu177⟩
    · skip
      clear mu84
      rintro n161 ys190 H191 hM ⟨hW, hk164, mu165, ln166, mu192⟩
      replace h_days_here := rep_keep hk164 (rep_new nl160 h_days_here)
      replace h8 := rep_keep hk164 (rep_new nl160 h8)
      replace h20 := rep_keep hk164 (rep_new nl160 h20)
      replace h26 := rep_keep hk164 (rep_new nl160 h26)
      replace h31 := rep_keep hk164 (rep_new nl160 h31)
      replace h39 := rep_keep hk164 (rep_new nl160 h39)
      replace h45 := rep_keep hk164 (rep_new nl160 h45)
      replace h50 := rep_keep hk164 (rep_new nl160 h50)
      replace h55 := rep_keep hk164 (rep_new nl160 h55)
      replace h59 := rep_keep hk164 (rep_new nl160 h59)
      replace h65 := rep_keep hk164 (rep_new nl160 h65)
      replace h73 := rep_keep hk164 (rep_new nl160 h73)
      replace h78 := rep_keep hk164 (rep_new nl160 h78)
      replace h91 := rep_keep hk164 (rep_new nl160 h91)
      replace h95 := rep_keep hk164 (rep_new nl160 h95)
      replace h102 := rep_keep hk164 (rep_new nl160 h102)
      replace h107 := rep_keep hk164 (rep_new nl160 h107)
      replace h115 := rep_keep hk164 (rep_new nl160 h115)
      replace h120 := rep_keep hk164 (rep_new nl160 h120)
      replace h132 := rep_keep hk164 (rep_new nl160 h132)
      replace h136 := rep_keep hk164 (rep_new nl160 h136)
      replace h141 := rep_keep hk164 (rep_new nl160 h141)
      replace h148 := rep_keep hk164 (rep_new nl160 h148)
      replace h152 := rep_keep hk164 (rep_new nl160 h152)
      clear hk164 ln166
      have h193 := mo_rep_dr dr_here nm174 mu165
      replace hW := wd_dr dr_here mu165.hp hW
      replace h_days_here := rep_dr dr_here h_days_here
      replace h8 := rep_dr dr_here h8
      replace h20 := rep_dr dr_here h20
      replace h26 := rep_dr dr_here h26
      replace h31 := rep_dr dr_here h31
      replace h39 := rep_dr dr_here h39
      replace h45 := rep_dr dr_here h45
      replace h50 := rep_dr dr_here h50
      replace h55 := rep_dr dr_here h55
      replace h59 := rep_dr dr_here h59
      replace h65 := rep_dr dr_here h65
      replace h73 := rep_dr dr_here h73
      replace h78 := rep_dr dr_here h78
      replace h91 := rep_dr dr_here h91
      replace h95 := rep_dr dr_here h95
      replace h102 := rep_dr dr_here h102
      replace h107 := rep_dr dr_here h107
      replace h115 := rep_dr dr_here h115
      replace h120 := rep_dr dr_here h120
      replace h132 := rep_dr dr_here h132
      replace h136 := rep_dr dr_here h136
      replace h141 := rep_dr dr_here h141
      replace h148 := rep_dr dr_here h148
      replace h152 := rep_dr dr_here h152
      replace mu192 := mo_dr dr_here ne175 mu192
      clear mu165
      refine ⟨_, rfl, ?_⟩
      refine ⟨mo_tyL mu192, ?_⟩
      refine ⟨_, rfl, ?_⟩
      refine ⟨_, rfl, ?_⟩
      refine ⟨_, rfl, ?_⟩
      apply rep_lsU h_days_here
      intro vs194 hr195
      intro p196 n200
      have e197 := Rx.Ext.new (H := H191) (o := (HO.lst (cutV vs194 none (some r1)))) n200
      have hp198 : upd H191 p196 (HO.lst (cutV vs194 none (some r1))) p196 = some (HO.lst (cutV vs194 none (some r1))) := upd_same
      generalize upd H191 p196 (HO.lst (cutV vs194 none (some r1))) = H201 at e197 hp198 ⊢
      have h199 : rep (L81 :: ms) H201 (D.lst ((cutM x_days_here none (some r1)).map (fun y_ : (List (Int × Int)) => (D.lst (y_.map (fun y_ : (Int × Int) => (D.tup [(D.v (V.int y_.1)), (D.v (V.int y_.2))]))))))) (.ref p196) := rep_lst_mk hW n200 e197 hp198 (repL_cut (e := (fun y_ : (List (Int × Int)) => (D.lst (y_.map (fun y_ : (Int × Int) => (D.tup [(D.v (V.int y_.1)), (D.v (V.int y_.2))])))))) (xs := x_days_here) hr195)
      replace h_days_here := rep_ext e197 h_days_here
      replace h8 := rep_ext e197 h8
      replace h20 := rep_ext e197 h20
      replace h26 := rep_ext e197 h26
      replace h31 := rep_ext e197 h31
      replace h39 := rep_ext e197 h39
      replace h45 := rep_ext e197 h45
      replace h50 := rep_ext e197 h50
      replace h55 := rep_ext e197 h55
      replace h59 := rep_ext e197 h59
      replace h65 := rep_ext e197 h65
      replace h73 := rep_ext e197 h73
      replace h78 := rep_ext e197 h78
      replace h91 := rep_ext e197 h91
      replace h95 := rep_ext e197 h95
      replace h102 := rep_ext e197 h102
      replace h107 := rep_ext e197 h107
      replace h115 := rep_ext e197 h115
      replace h120 := rep_ext e197 h120
      replace h132 := rep_ext e197 h132
      replace h136 := rep_ext e197 h136
      replace h141 := rep_ext e197 h141
      replace h148 := rep_ext e197 h148
      replace h152 := rep_ext e197 h152
      replace h193 := rep_ext e197 h193
      replace mu192 := mo_ext e197 mu192
      replace hW := hW.ret0 e197
      refine ⟨_, rfl, ?_⟩
      refine ⟨_, rfl, ?_⟩
      apply rep_ixT 0 h148 rfl rfl
      intro u203 h202
      obtain rfl := of_v h202
      refine ⟨_, rfl, ?_⟩
      apply rep_ixT 0 h152 rfl rfl
      intro u205 h204
      obtain rfl := of_v h204
      refine ⟨(by show 2 ≤ sizeLine; decide), ?_⟩
      intro p206 n210
      have e207 := Rx.Ext.new (H := H201) (o := (HO.tup [V.int y130.1, V.int y134.1])) n210
      have hp208 : upd H201 p206 (HO.tup [V.int y130.1, V.int y134.1]) p206 = some (HO.tup [V.int y130.1, V.int y134.1]) := upd_same
      generalize upd H201 p206 (HO.tup [V.int y130.1, V.int y134.1]) = H211 at e207 hp208 ⊢
      have h209 : rep (L81 :: ms) H211 (D.tup [(D.v (V.int y130.1)), (D.v (V.int y134.1))]) (.ref p206) := rep_tup_mk hW n210 e207 hp208 (repL_cons rep_v (repL_cons rep_v repL_nil))
      replace h_days_here := rep_ext e207 h_days_here
      replace h8 := rep_ext e207 h8
      replace h20 := rep_ext e207 h20
      replace h26 := rep_ext e207 h26
      replace h31 := rep_ext e207 h31
      replace h39 := rep_ext e207 h39
      replace h45 := rep_ext e207 h45
      replace h50 := rep_ext e207 h50
      replace h55 := rep_ext e207 h55
      replace h59 := rep_ext e207 h59
      replace h65 := rep_ext e207 h65
      replace h73 := rep_ext e207 h73
      replace h78 := rep_ext e207 h78
      replace h91 := rep_ext e207 h91
      replace h95 := rep_ext e207 h95
      replace h102 := rep_ext e207 h102
      replace h107 := rep_ext e207 h107
      replace h115 := rep_ext e207 h115
      replace h120 := rep_ext e207 h120
      replace h132 := rep_ext e207 h132
      replace h136 := rep_ext e207 h136
      replace h141 := rep_ext e207 h141
      replace h148 := rep_ext e207 h148
      replace h152 := rep_ext e207 h152
      replace h193 := rep_ext e207 h193
      replace h199 := rep_ext e207 h199
      replace mu192 := mo_ext e207 mu192
      replace hW := hW.ret0 e207
      refine ⟨_, rfl, ?_⟩
      apply rep_ixT 1 h148 rfl rfl
      intro u213 h212
      obtain rfl := of_v h212
      refine ⟨_, rfl, ?_⟩
      apply rep_ixT 1 h152 rfl rfl
      intro u215 h214
      obtain rfl := of_v h214
      refine ⟨(by show 2 ≤ sizeLine; decide), ?_⟩
      intro p216 n220
      have e217 := Rx.Ext.new (H := H211) (o := (HO.tup [V.int y130.2, V.int y134.2])) n220
      have hp218 : upd H211 p216 (HO.tup [V.int y130.2, V.int y134.2]) p216 = some (HO.tup [V.int y130.2, V.int y134.2]) := upd_same
      generalize upd H211 p216 (HO.tup [V.int y130.2, V.int y134.2]) = H221 at e217 hp218 ⊢
      have h219 : rep (L81 :: ms) H221 (D.tup [(D.v (V.int y130.2)), (D.v (V.int y134.2))]) (.ref p216) := rep_tup_mk hW n220 e217 hp218 (repL_cons rep_v (repL_cons rep_v repL_nil))
      replace h_days_here := rep_ext e217 h_days_here
      replace h8 := rep_ext e217 h8
      replace h20 := rep_ext e217 h20
      replace h26 := rep_ext e217 h26
      replace h31 := rep_ext e217 h31
      replace h39 := rep_ext e217 h39
      replace h45 := rep_ext e217 h45
      replace h50 := rep_ext e217 h50
      replace h55 := rep_ext e217 h55
      replace h59 := rep_ext e217 h59
      replace h65 := rep_ext e217 h65
      replace h73 := rep_ext e217 h73
      replace h78 := rep_ext e217 h78
      replace h91 := rep_ext e217 h91
      replace h95 := rep_ext e217 h95
      replace h102 := rep_ext e217 h102
      replace h107 := rep_ext e217 h107
      replace h115 := rep_ext e217 h115
      replace h120 := rep_ext e217 h120
      replace h132 := rep_ext e217 h132
      replace h136 := rep_ext e217 h136
      replace h141 := rep_ext e217 h141
      replace h148 := rep_ext e217 h148
      replace h152 := rep_ext e217 h152
      replace h193 := rep_ext e217 h193
      replace h199 := rep_ext e217 h199
      replace h209 := rep_ext e217 h209
      replace mu192 := mo_ext e217 mu192
      replace hW := hW.ret0 e217
      refine ⟨(by show 2 ≤ sizeLine; decide), ?_⟩
      intro p222 n226
      have e223 := Rx.Ext.new (H := H221) (o := (HO.lst [(V.ref p206), (V.ref p216)])) n226
      have hp224 : upd H221 p222 (HO.lst [(V.ref p206), (V.ref p216)]) p222 = some (HO.lst [(V.ref p206), (V.ref p216)]) := upd_same
      generalize upd H221 p222 (HO.lst [(V.ref p206), (V.ref p216)]) = H227 at e223 hp224 ⊢
      have h225 : rep (L81 :: ms) H227 (D.lst (([(y130.1, y134.1), (y130.2, y134.2)] : List (Int × Int)).map (fun y_ : (Int × Int) => (D.tup [(D.v (V.int y_.1)), (D.v (V.int y_.2))])))) (.ref p222) := rep_lst_mk hW n226 e223 hp224 (repL_cons h209 (repL_cons h219 repL_nil))
      replace h_days_here := rep_ext e223 h_days_here
      replace h8 := rep_ext e223 h8
      replace h20 := rep_ext e223 h20
      replace h26 := rep_ext e223 h26
      replace h31 := rep_ext e223 h31
      replace h39 := rep_ext e223 h39
      replace h45 := rep_ext e223 h45
      replace h50 := rep_ext e223 h50
      replace h55 := rep_ext e223 h55
      replace h59 := rep_ext e223 h59
      replace h65 := rep_ext e223 h65
      replace h73 := rep_ext e223 h73
      replace h78 := rep_ext e223 h78
      replace h91 := rep_ext e223 h91
      replace h95 := rep_ext e223 h95
      replace h102 := rep_ext e223 h102
      replace h107 := rep_ext e223 h107
      replace h115 := rep_ext e223 h115
      replace h120 := rep_ext e223 h120
      replace h132 := rep_ext e223 h132
      replace h136 := rep_ext e223 h136
      replace h141 := rep_ext e223 h141
      replace h148 := rep_ext e223 h148
      replace h152 := rep_ext e223 h152
      replace h193 := rep_ext e223 h193
      replace h199 := rep_ext e223 h199
      replace h209 := rep_ext e223 h209
      replace h219 := rep_ext e223 h219
      replace mu192 := mo_ext e223 mu192
      replace hW := hW.ret0 e223
      obtain ⟨g228, hM⟩ := hM
      apply rep_cat (xs := ys190) (ys := ([(y130.1, y134.1), (y130.2, y134.2)] : List (Int × Int))) (e := (fun y_ : (Int × Int) => (D.tup [(D.v (V.int y_.1)), (D.v (V.int y_.2))]))) hW h193 h225 g228
      intro p229 H232 e231 h230
      replace h_days_here := rep_ext e231 h_days_here
      replace h8 := rep_ext e231 h8
      replace h20 := rep_ext e231 h20
      replace h26 := rep_ext e231 h26
      replace h31 := rep_ext e231 h31
      replace h39 := rep_ext e231 h39
      replace h45 := rep_ext e231 h45
      replace h50 := rep_ext e231 h50
      replace h55 := rep_ext e231 h55
      replace h59 := rep_ext e231 h59
      replace h65 := rep_ext e231 h65
      replace h73 := rep_ext e231 h73
      replace h78 := rep_ext e231 h78
      replace h91 := rep_ext e231 h91
      replace h95 := rep_ext e231 h95
      replace h102 := rep_ext e231 h102
      replace h107 := rep_ext e231 h107
      replace h115 := rep_ext e231 h115
      replace h120 := rep_ext e231 h120
      replace h132 := rep_ext e231 h132
      replace h136 := rep_ext e231 h136
      replace h141 := rep_ext e231 h141
      replace h148 := rep_ext e231 h148
      replace h152 := rep_ext e231 h152
      replace h193 := rep_ext e231 h193
      replace h199 := rep_ext e231 h199
      replace h209 := rep_ext e231 h209
      replace h219 := rep_ext e231 h219
      replace h225 := rep_ext e231 h225
      replace mu192 := mo_ext e231 mu192
      replace hW := hW.ret0 e231
      refine ⟨(by show 1 ≤ sizeLine; decide), ?_⟩
      intro p233 n237
      have e234 := Rx.Ext.new (H := H232) (o := (HO.lst [(V.ref p229)])) n237
      have hp235 : upd H232 p233 (HO.lst [(V.ref p229)]) p233 = some (HO.lst [(V.ref p229)]) := upd_same
      generalize upd H232 p233 (HO.lst [(V.ref p229)]) = H238 at e234 hp235 ⊢
      have h236 : rep (L81 :: ms) H238 (D.lst (([(ys190 ++ ([(y130.1, y134.1), (y130.2, y134.2)] : List (Int × Int)))] : List (List (Int × Int))).map (fun y_ : (List (Int × Int)) => (D.lst (y_.map (fun y_ : (Int × Int) => (D.tup [(D.v (V.int y_.1)), (D.v (V.int y_.2))]))))))) (.ref p233) := rep_lst_mk hW n237 e234 hp235 (repL_cons h230 repL_nil)
      replace h_days_here := rep_ext e234 h_days_here
      replace h8 := rep_ext e234 h8
      replace h20 := rep_ext e234 h20
      replace h26 := rep_ext e234 h26
      replace h31 := rep_ext e234 h31
      replace h39 := rep_ext e234 h39
      replace h45 := rep_ext e234 h45
      replace h50 := rep_ext e234 h50
      replace h55 := rep_ext e234 h55
      replace h59 := rep_ext e234 h59
      replace h65 := rep_ext e234 h65
      replace h73 := rep_ext e234 h73
      replace h78 := rep_ext e234 h78
      replace h91 := rep_ext e234 h91
      replace h95 := rep_ext e234 h95
      replace h102 := rep_ext e234 h102
      replace h107 := rep_ext e234 h107
      replace h115 := rep_ext e234 h115
      replace h120 := rep_ext e234 h120
      replace h132 := rep_ext e234 h132
      replace h136 := rep_ext e234 h136
      replace h141 := rep_ext e234 h141
      replace h148 := rep_ext e234 h148
      replace h152 := rep_ext e234 h152
      replace h193 := rep_ext e234 h193
      replace h199 := rep_ext e234 h199
      replace h209 := rep_ext e234 h209
      replace h219 := rep_ext e234 h219
      replace h225 := rep_ext e234 h225
      replace h230 := rep_ext e234 h230
      replace mu192 := mo_ext e234 mu192
      replace hW := hW.ret0 e234
      obtain ⟨g239, hM⟩ := hM
      apply rep_cat (xs := (cutM x_days_here none (some r1))) (ys := ([(ys190 ++ ([(y130.1, y134.1), (y130.2, y134.2)] : List (Int × Int)))] : List (List (Int × Int)))) (e := (fun y_ : (List (Int × Int)) => (D.lst (y_.map (fun y_ : (Int × Int) => (D.tup [(D.v (V.int y_.1)), (D.v (V.int y_.2))])))))) hW h199 h236 g239
      intro p240 H243 e242 h241
      replace h_days_here := rep_ext e242 h_days_here
      replace h8 := rep_ext e242 h8
      replace h20 := rep_ext e242 h20
      replace h26 := rep_ext e242 h26
      replace h31 := rep_ext e242 h31
      replace h39 := rep_ext e242 h39
      replace h45 := rep_ext e242 h45
      replace h50 := rep_ext e242 h50
      replace h55 := rep_ext e242 h55
      replace h59 := rep_ext e242 h59
      replace h65 := rep_ext e242 h65
      replace h73 := rep_ext e242 h73
      replace h78 := rep_ext e242 h78
      replace h91 := rep_ext e242 h91
      replace h95 := rep_ext e242 h95
      replace h102 := rep_ext e242 h102
      replace h107 := rep_ext e242 h107
      replace h115 := rep_ext e242 h115
      replace h120 := rep_ext e242 h120
      replace h132 := rep_ext e242 h132
      replace h136 := rep_ext e242 h136
      replace h141 := rep_ext e242 h141
      replace h148 := rep_ext e242 h148
      replace h152 := rep_ext e242 h152
      replace h193 := rep_ext e242 h193
      replace h199 := rep_ext e242 h199
      replace h209 := rep_ext e242 h209
      replace h219 := rep_ext e242 h219
      replace h225 := rep_ext e242 h225
      replace h230 := rep_ext e242 h230
      replace h236 := rep_ext e242 h236
      replace mu192 := mo_ext e242 mu192
      replace hW := hW.ret0 e242
      refine ⟨_, rfl, ?_⟩
      refine ⟨_, rfl, ?_⟩
      refine ⟨_, _, rfl, rfl, ?_⟩
      refine ⟨_, rfl, ?_⟩
      apply rep_lsU h_days_here
      intro vs244 hr245
      intro p246 n250
      have e247 := Rx.Ext.new (H := H243) (o := (HO.lst (cutV vs244 (some (r1 + (1 : Int))) none))) n250
      have hp248 : upd H243 p246 (HO.lst (cutV vs244 (some (r1 + (1 : Int))) none)) p246 = some (HO.lst (cutV vs244 (some (r1 + (1 : Int))) none)) := upd_same
      generalize upd H243 p246 (HO.lst (cutV vs244 (some (r1 + (1 : Int))) none)) = H251 at e247 hp248 ⊢
      have h249 : rep (L81 :: ms) H251 (D.lst ((cutM x_days_here (some (r1 + (1 : Int))) none).map (fun y_ : (List (Int × Int)) => (D.lst (y_.map (fun y_ : (Int × Int) => (D.tup [(D.v (V.int y_.1)), (D.v (V.int y_.2))]))))))) (.ref p246) := rep_lst_mk hW n250 e247 hp248 (repL_cut (e := (fun y_ : (List (Int × Int)) => (D.lst (y_.map (fun y_ : (Int × Int) => (D.tup [(D.v (V.int y_.1)), (D.v (V.int y_.2))])))))) (xs := x_days_here) hr245)
      replace h_days_here := rep_ext e247 h_days_here
      replace h8 := rep_ext e247 h8
      replace h20 := rep_ext e247 h20
      replace h26 := rep_ext e247 h26
      replace h31 := rep_ext e247 h31
      replace h39 := rep_ext e247 h39
      replace h45 := rep_ext e247 h45
      replace h50 := rep_ext e247 h50
      replace h55 := rep_ext e247 h55
      replace h59 := rep_ext e247 h59
      replace h65 := rep_ext e247 h65
      replace h73 := rep_ext e247 h73
      replace h78 := rep_ext e247 h78
      replace h91 := rep_ext e247 h91
      replace h95 := rep_ext e247 h95
      replace h102 := rep_ext e247 h102
      replace h107 := rep_ext e247 h107
      replace h115 := rep_ext e247 h115
      replace h120 := rep_ext e247 h120
      replace h132 := rep_ext e247 h132
      replace h136 := rep_ext e247 h136
      replace h141 := rep_ext e247 h141
      replace h148 := rep_ext e247 h148
      replace h152 := rep_ext e247 h152
      replace h193 := rep_ext e247 h193
      replace h199 := rep_ext e247 h199
      replace h209 := rep_ext e247 h209
      replace h219 := rep_ext e247 h219
      replace h225 := rep_ext e247 h225
      replace h230 := rep_ext e247 h230
      replace h236 := rep_ext e247 h236
      replace h241 := rep_ext e247 h241
      replace mu192 := mo_ext e247 mu192
      replace hW := hW.ret0 e247
      obtain ⟨g252, hM⟩ := hM
      apply rep_cat (xs := ((cutM x_days_here none (some r1)) ++ ([(ys190 ++ ([(y130.1, y134.1), (y130.2, y134.2)] : List (Int × Int)))] : List (List (Int × Int))))) (ys := (cutM x_days_here (some (r1 + (1 : Int))) none)) (e := (fun y_ : (List (Int × Int)) => (D.lst (y_.map (fun y_ : (Int × Int) => (D.tup [(D.v (V.int y_.1)), (D.v (V.int y_.2))])))))) hW h241 h249 g252
      intro p253 H256 e255 h254
      replace h_days_here := rep_ext e255 h_days_here
      replace h8 := rep_ext e255 h8
      replace h20 := rep_ext e255 h20
      replace h26 := rep_ext e255 h26
      replace h31 := rep_ext e255 h31
      replace h39 := rep_ext e255 h39
      replace h45 := rep_ext e255 h45
      replace h50 := rep_ext e255 h50
      replace h55 := rep_ext e255 h55
      replace h59 := rep_ext e255 h59
      replace h65 := rep_ext e255 h65
      replace h73 := rep_ext e255 h73
      replace h78 := rep_ext e255 h78
      replace h91 := rep_ext e255 h91
      replace h95 := rep_ext e255 h95
      replace h102 := rep_ext e255 h102
      replace h107 := rep_ext e255 h107
      replace h115 := rep_ext e255 h115
      replace h120 := rep_ext e255 h120
      replace h132 := rep_ext e255 h132
      replace h136 := rep_ext e255 h136
      replace h141 := rep_ext e255 h141
      replace h148 := rep_ext e255 h148
      replace h152 := rep_ext e255 h152
      replace h193 := rep_ext e255 h193
      replace h199 := rep_ext e255 h199
      replace h209 := rep_ext e255 h209
      replace h219 := rep_ext e255 h219
      replace h225 := rep_ext e255 h225
      replace h230 := rep_ext e255 h230
      replace h236 := rep_ext e255 h236
      replace h241 := rep_ext e255 h241
      replace h249 := rep_ext e255 h249
      replace mu192 := mo_ext e255 mu192
      replace hW := hW.ret0 e255
      obtain ⟨g257, hM⟩ := hM
      apply mo_appU mu192 (by rw [List.length_map]; exact g257)
      intro vs258 hr260
      have mk262 := mo_setL mu192 (repL_snoc (e := (fun y_ : (List (List (Int × Int))) => (D.lst (y_.map (fun y_ : (List (Int × Int)) => (D.lst (y_.map (fun y_ : (Int × Int) => (D.tup [(D.v (V.int y_.1)), (D.v (V.int y_.2))]))))))))) (xs := (([(x_days_here.reverse), (x_days_here ++ ([y6] : List (List (Int × Int)))), (((cutM x_days_here none (some r1)) ++ r58) ++ (cutM x_days_here (some (r1 + (1 : Int))) none))] : List (List (List (Int × Int)))) ++ [(((cutM x_days_here none (some r1)) ++ ([r94] : List (List (Int × Int)))) ++ (cutM x_days_here (some (r1 + (1 : Int))) none))])) (y := (((cutM x_days_here none (some r1)) ++ ([(ys190 ++ ([(y130.1, y134.1), (y130.2, y134.2)] : List (Int × Int)))] : List (List (Int × Int)))) ++ (cutM x_days_here (some (r1 + (1 : Int))) none))) hr260 h254)
      replace h_days_here := rep_put (o := .lst (vs258 ++ [(V.ref p253)])) mu192.im h_days_here
      replace h8 := rep_put (o := .lst (vs258 ++ [(V.ref p253)])) mu192.im h8
      replace h20 := rep_put (o := .lst (vs258 ++ [(V.ref p253)])) mu192.im h20
      replace h26 := rep_put (o := .lst (vs258 ++ [(V.ref p253)])) mu192.im h26
      replace h31 := rep_put (o := .lst (vs258 ++ [(V.ref p253)])) mu192.im h31
      replace h39 := rep_put (o := .lst (vs258 ++ [(V.ref p253)])) mu192.im h39
      replace h45 := rep_put (o := .lst (vs258 ++ [(V.ref p253)])) mu192.im h45
      replace h50 := rep_put (o := .lst (vs258 ++ [(V.ref p253)])) mu192.im h50
      replace h55 := rep_put (o := .lst (vs258 ++ [(V.ref p253)])) mu192.im h55
      replace h59 := rep_put (o := .lst (vs258 ++ [(V.ref p253)])) mu192.im h59
      replace h65 := rep_put (o := .lst (vs258 ++ [(V.ref p253)])) mu192.im h65
      replace h73 := rep_put (o := .lst (vs258 ++ [(V.ref p253)])) mu192.im h73
      replace h78 := rep_put (o := .lst (vs258 ++ [(V.ref p253)])) mu192.im h78
      replace h91 := rep_put (o := .lst (vs258 ++ [(V.ref p253)])) mu192.im h91
      replace h95 := rep_put (o := .lst (vs258 ++ [(V.ref p253)])) mu192.im h95
      replace h102 := rep_put (o := .lst (vs258 ++ [(V.ref p253)])) mu192.im h102
      replace h107 := rep_put (o := .lst (vs258 ++ [(V.ref p253)])) mu192.im h107
      replace h115 := rep_put (o := .lst (vs258 ++ [(V.ref p253)])) mu192.im h115
      replace h120 := rep_put (o := .lst (vs258 ++ [(V.ref p253)])) mu192.im h120
      replace h132 := rep_put (o := .lst (vs258 ++ [(V.ref p253)])) mu192.im h132
      replace h136 := rep_put (o := .lst (vs258 ++ [(V.ref p253)])) mu192.im h136
      replace h141 := rep_put (o := .lst (vs258 ++ [(V.ref p253)])) mu192.im h141
      replace h148 := rep_put (o := .lst (vs258 ++ [(V.ref p253)])) mu192.im h148
      replace h152 := rep_put (o := .lst (vs258 ++ [(V.ref p253)])) mu192.im h152
      replace h193 := rep_put (o := .lst (vs258 ++ [(V.ref p253)])) mu192.im h193
      replace h199 := rep_put (o := .lst (vs258 ++ [(V.ref p253)])) mu192.im h199
      replace h209 := rep_put (o := .lst (vs258 ++ [(V.ref p253)])) mu192.im h209
      replace h219 := rep_put (o := .lst (vs258 ++ [(V.ref p253)])) mu192.im h219
      replace h225 := rep_put (o := .lst (vs258 ++ [(V.ref p253)])) mu192.im h225
      replace h230 := rep_put (o := .lst (vs258 ++ [(V.ref p253)])) mu192.im h230
      replace h236 := rep_put (o := .lst (vs258 ++ [(V.ref p253)])) mu192.im h236
      replace h241 := rep_put (o := .lst (vs258 ++ [(V.ref p253)])) mu192.im h241
      replace h249 := rep_put (o := .lst (vs258 ++ [(V.ref p253)])) mu192.im h249
      replace h254 := rep_put (o := .lst (vs258 ++ [(V.ref p253)])) mu192.im h254
      replace hW := wd_put (o := .lst (vs258 ++ [(V.ref p253)])) hW mu192
      replace mu192 := mk262
      generalize upd H256 L81 (.lst (vs258 ++ [(V.ref p253)])) = H263 at *
      replace mu192 : MutO (L81 :: ms) [(ap, none)] H_0 H263 L81 (D.lst (((([(x_days_here.reverse), (x_days_here ++ ([y6] : List (List (Int × Int)))), (((cutM x_days_here none (some r1)) ++ r58) ++ (cutM x_days_here (some (r1 + (1 : Int))) none))] : List (List (List (Int × Int)))) ++ [(((cutM x_days_here none (some r1)) ++ ([r94] : List (List (Int × Int)))) ++ (cutM x_days_here (some (r1 + (1 : Int))) none))]) ++ [(((cutM x_days_here none (some r1)) ++ ([(ys190 ++ ([(y130.1, y134.1), (y130.2, y134.2)] : List (Int × Int)))] : List (List (Int × Int)))) ++ (cutM x_days_here (some (r1 + (1 : Int))) none))]).map (fun y_ : (List (List (Int × Int))) => (D.lst (y_.map (fun y_ : (List (Int × Int)) => (D.lst (y_.map (fun y_ : (Int × Int) => (D.tup [(D.v (V.int y_.1)), (D.v (V.int y_.2))])))))))))) := mu192
      clear mk262
      refine ⟨_, rfl, ?_⟩
      apply rep_lenL (e := (fun y_ : (List (Int × Int)) => (D.lst (y_.map (fun y_ : (Int × Int) => (D.tup [(D.v (V.int y_.1)), (D.v (V.int y_.2))])))))) (xs := x_days_here) h_days_here
      refine ⟨_, _, rfl, rfl, ?_⟩
      refine ⟨_, rfl, ?_⟩
      refine ite3 hM (fun hM => ?_) (fun hM => ?_)
      · skip
        refine ⟨_, rfl, ?_⟩
        refine ⟨mo_tyL mu192, ?_⟩
        refine ⟨_, rfl, ?_⟩
        refine ⟨_, rfl, ?_⟩
        refine ⟨_, rfl, ?_⟩
        apply rep_lsU h_days_here
        intro vs264 hr265
        intro p266 n270
        have e267 := Rx.Ext.new (H := H263) (o := (HO.lst (cutV vs264 none (some r1)))) n270
        have hp268 : upd H263 p266 (HO.lst (cutV vs264 none (some r1))) p266 = some (HO.lst (cutV vs264 none (some r1))) := upd_same
        generalize upd H263 p266 (HO.lst (cutV vs264 none (some r1))) = H271 at e267 hp268 ⊢
        have h269 : rep (L81 :: ms) H271 (D.lst ((cutM x_days_here none (some r1)).map (fun y_ : (List (Int × Int)) => (D.lst (y_.map (fun y_ : (Int × Int) => (D.tup [(D.v (V.int y_.1)), (D.v (V.int y_.2))]))))))) (.ref p266) := rep_lst_mk hW n270 e267 hp268 (repL_cut (e := (fun y_ : (List (Int × Int)) => (D.lst (y_.map (fun y_ : (Int × Int) => (D.tup [(D.v (V.int y_.1)), (D.v (V.int y_.2))])))))) (xs := x_days_here) hr265)
        replace h_days_here := rep_ext e267 h_days_here
        replace h8 := rep_ext e267 h8
        replace h20 := rep_ext e267 h20
        replace h26 := rep_ext e267 h26
        replace h31 := rep_ext e267 h31
        replace h39 := rep_ext e267 h39
        replace h45 := rep_ext e267 h45
        replace h50 := rep_ext e267 h50
        replace h55 := rep_ext e267 h55
        replace h59 := rep_ext e267 h59
        replace h65 := rep_ext e267 h65
        replace h73 := rep_ext e267 h73
        replace h78 := rep_ext e267 h78
        replace h91 := rep_ext e267 h91
        replace h95 := rep_ext e267 h95
        replace h102 := rep_ext e267 h102
        replace h107 := rep_ext e267 h107
        replace h115 := rep_ext e267 h115
        replace h120 := rep_ext e267 h120
        replace h132 := rep_ext e267 h132
        replace h136 := rep_ext e267 h136
        replace h141 := rep_ext e267 h141
        replace h148 := rep_ext e267 h148
        replace h152 := rep_ext e267 h152
        replace h193 := rep_ext e267 h193
        replace h199 := rep_ext e267 h199
        replace h209 := rep_ext e267 h209
        replace h219 := rep_ext e267 h219
        replace h225 := rep_ext e267 h225
        replace h230 := rep_ext e267 h230
        replace h236 := rep_ext e267 h236
        replace h241 := rep_ext e267 h241
        replace h249 := rep_ext e267 h249
        replace h254 := rep_ext e267 h254
        replace mu192 := mo_ext e267 mu192
        replace hW := hW.ret0 e267
        refine ⟨_, rfl, ?_⟩
        refine ⟨_, rfl, ?_⟩
        refine ⟨_, _, rfl, rfl, ?_⟩
        refine ⟨_, rfl, ?_⟩
        apply rep_lsU h_days_here
        intro vs272 hr273
        intro p274 n278
        have e275 := Rx.Ext.new (H := H271) (o := (HO.lst (cutV vs272 (some (r1 + (1 : Int))) none))) n278
        have hp276 : upd H271 p274 (HO.lst (cutV vs272 (some (r1 + (1 : Int))) none)) p274 = some (HO.lst (cutV vs272 (some (r1 + (1 : Int))) none)) := upd_same
        generalize upd H271 p274 (HO.lst (cutV vs272 (some (r1 + (1 : Int))) none)) = H279 at e275 hp276 ⊢
        have h277 : rep (L81 :: ms) H279 (D.lst ((cutM x_days_here (some (r1 + (1 : Int))) none).map (fun y_ : (List (Int × Int)) => (D.lst (y_.map (fun y_ : (Int × Int) => (D.tup [(D.v (V.int y_.1)), (D.v (V.int y_.2))]))))))) (.ref p274) := rep_lst_mk hW n278 e275 hp276 (repL_cut (e := (fun y_ : (List (Int × Int)) => (D.lst (y_.map (fun y_ : (Int × Int) => (D.tup [(D.v (V.int y_.1)), (D.v (V.int y_.2))])))))) (xs := x_days_here) hr273)
        replace h_days_here := rep_ext e275 h_days_here
        replace h8 := rep_ext e275 h8
        replace h20 := rep_ext e275 h20
        replace h26 := rep_ext e275 h26
        replace h31 := rep_ext e275 h31
        replace h39 := rep_ext e275 h39
        replace h45 := rep_ext e275 h45
        replace h50 := rep_ext e275 h50
        replace h55 := rep_ext e275 h55
        replace h59 := rep_ext e275 h59
        replace h65 := rep_ext e275 h65
        replace h73 := rep_ext e275 h73
        replace h78 := rep_ext e275 h78
        replace h91 := rep_ext e275 h91
        replace h95 := rep_ext e275 h95
        replace h102 := rep_ext e275 h102
        replace h107 := rep_ext e275 h107
        replace h115 := rep_ext e275 h115
        replace h120 := rep_ext e275 h120
        replace h132 := rep_ext e275 h132
        replace h136 := rep_ext e275 h136
        replace h141 := rep_ext e275 h141
        replace h148 := rep_ext e275 h148
        replace h152 := rep_ext e275 h152
        replace h193 := rep_ext e275 h193
        replace h199 := rep_ext e275 h199
        replace h209 := rep_ext e275 h209
        replace h219 := rep_ext e275 h219
        replace h225 := rep_ext e275 h225
        replace h230 := rep_ext e275 h230
        replace h236 := rep_ext e275 h236
        replace h241 := rep_ext e275 h241
        replace h249 := rep_ext e275 h249
        replace h254 := rep_ext e275 h254
        replace h269 := rep_ext e275 h269
        replace mu192 := mo_ext e275 mu192
        replace hW := hW.ret0 e275
        obtain ⟨g280, hM⟩ := hM
        apply rep_cat (xs := (cutM x_days_here none (some r1))) (ys := (cutM x_days_here (some (r1 + (1 : Int))) none)) (e := (fun y_ : (List (Int × Int)) => (D.lst (y_.map (fun y_ : (Int × Int) => (D.tup [(D.v (V.int y_.1)), (D.v (V.int y_.2))])))))) hW h269 h277 g280
        intro p281 H284 e283 h282
        replace h_days_here := rep_ext e283 h_days_here
        replace h8 := rep_ext e283 h8
        replace h20 := rep_ext e283 h20
        replace h26 := rep_ext e283 h26
        replace h31 := rep_ext e283 h31
        replace h39 := rep_ext e283 h39
        replace h45 := rep_ext e283 h45
        replace h50 := rep_ext e283 h50
        replace h55 := rep_ext e283 h55
        replace h59 := rep_ext e283 h59
        replace h65 := rep_ext e283 h65
        replace h73 := rep_ext e283 h73
        replace h78 := rep_ext e283 h78
        replace h91 := rep_ext e283 h91
        replace h95 := rep_ext e283 h95
        replace h102 := rep_ext e283 h102
        replace h107 := rep_ext e283 h107
        replace h115 := rep_ext e283 h115
        replace h120 := rep_ext e283 h120
        replace h132 := rep_ext e283 h132
        replace h136 := rep_ext e283 h136
        replace h141 := rep_ext e283 h141
        replace h148 := rep_ext e283 h148
        replace h152 := rep_ext e283 h152
        replace h193 := rep_ext e283 h193
        replace h199 := rep_ext e283 h199
        replace h209 := rep_ext e283 h209
        replace h219 := rep_ext e283 h219
        replace h225 := rep_ext e283 h225
        replace h230 := rep_ext e283 h230
        replace h236 := rep_ext e283 h236
        replace h241 := rep_ext e283 h241
        replace h249 := rep_ext e283 h249
        replace h254 := rep_ext e283 h254
        replace h269 := rep_ext e283 h269
        replace h277 := rep_ext e283 h277
        replace mu192 := mo_ext e283 mu192
        replace hW := hW.ret0 e283
        obtain ⟨g285, hM⟩ := hM
        apply mo_appU mu192 (by rw [List.length_map]; exact g285)
        intro vs286 hr288
        have mk290 := mo_setL mu192 (repL_snoc (e := (fun y_ : (List (List (Int × Int))) => (D.lst (y_.map (fun y_ : (List (Int × Int)) => (D.lst (y_.map (fun y_ : (Int × Int) => (D.tup [(D.v (V.int y_.1)), (D.v (V.int y_.2))]))))))))) (xs := ((([(x_days_here.reverse), (x_days_here ++ ([y6] : List (List (Int × Int)))), (((cutM x_days_here none (some r1)) ++ r58) ++ (cutM x_days_here (some (r1 + (1 : Int))) none))] : List (List (List (Int × Int)))) ++ [(((cutM x_days_here none (some r1)) ++ ([r94] : List (List (Int × Int)))) ++ (cutM x_days_here (some (r1 + (1 : Int))) none))]) ++ [(((cutM x_days_here none (some r1)) ++ ([(ys190 ++ ([(y130.1, y134.1), (y130.2, y134.2)] : List (Int × Int)))] : List (List (Int × Int)))) ++ (cutM x_days_here (some (r1 + (1 : Int))) none))])) (y := ((cutM x_days_here none (some r1)) ++ (cutM x_days_here (some (r1 + (1 : Int))) none))) hr288 h282)
        replace h_days_here := rep_put (o := .lst (vs286 ++ [(V.ref p281)])) mu192.im h_days_here
        replace h8 := rep_put (o := .lst (vs286 ++ [(V.ref p281)])) mu192.im h8
        replace h20 := rep_put (o := .lst (vs286 ++ [(V.ref p281)])) mu192.im h20
        replace h26 := rep_put (o := .lst (vs286 ++ [(V.ref p281)])) mu192.im h26
        replace h31 := rep_put (o := .lst (vs286 ++ [(V.ref p281)])) mu192.im h31
        replace h39 := rep_put (o := .lst (vs286 ++ [(V.ref p281)])) mu192.im h39
        replace h45 := rep_put (o := .lst (vs286 ++ [(V.ref p281)])) mu192.im h45
        replace h50 := rep_put (o := .lst (vs286 ++ [(V.ref p281)])) mu192.im h50
        replace h55 := rep_put (o := .lst (vs286 ++ [(V.ref p281)])) mu192.im h55
        replace h59 := rep_put (o := .lst (vs286 ++ [(V.ref p281)])) mu192.im h59
        replace h65 := rep_put (o := .lst (vs286 ++ [(V.ref p281)])) mu192.im h65
        replace h73 := rep_put (o := .lst (vs286 ++ [(V.ref p281)])) mu192.im h73
        replace h78 := rep_put (o := .lst (vs286 ++ [(V.ref p281)])) mu192.im h78
        replace h91 := rep_put (o := .lst (vs286 ++ [(V.ref p281)])) mu192.im h91
        replace h95 := rep_put (o := .lst (vs286 ++ [(V.ref p281)])) mu192.im h95
        replace h102 := rep_put (o := .lst (vs286 ++ [(V.ref p281)])) mu192.im h102
        replace h107 := rep_put (o := .lst (vs286 ++ [(V.ref p281)])) mu192.im h107
        replace h115 := rep_put (o := .lst (vs286 ++ [(V.ref p281)])) mu192.im h115
        replace h120 := rep_put (o := .lst (vs286 ++ [(V.ref p281)])) mu192.im h120
        replace h132 := rep_put (o := .lst (vs286 ++ [(V.ref p281)])) mu192.im h132
        replace h136 := rep_put (o := .lst (vs286 ++ [(V.ref p281)])) mu192.im h136
        replace h141 := rep_put (o := .lst (vs286 ++ [(V.ref p281)])) mu192.im h141
        replace h148 := rep_put (o := .lst (vs286 ++ [(V.ref p281)])) mu192.im h148
        replace h152 := rep_put (o := .lst (vs286 ++ [(V.ref p281)])) mu192.im h152
        replace h193 := rep_put (o := .lst (vs286 ++ [(V.ref p281)])) mu192.im h193
        replace h199 := rep_put (o := .lst (vs286 ++ [(V.ref p281)])) mu192.im h199
        replace h209 := rep_put (o := .lst (vs286 ++ [(V.ref p281)])) mu192.im h209
        replace h219 := rep_put (o := .lst (vs286 ++ [(V.ref p281)])) mu192.im h219
        replace h225 := rep_put (o := .lst (vs286 ++ [(V.ref p281)])) mu192.im h225
        replace h230 := rep_put (o := .lst (vs286 ++ [(V.ref p281)])) mu192.im h230
        replace h236 := rep_put (o := .lst (vs286 ++ [(V.ref p281)])) mu192.im h236
        replace h241 := rep_put (o := .lst (vs286 ++ [(V.ref p281)])) mu192.im h241
        replace h249 := rep_put (o := .lst (vs286 ++ [(V.ref p281)])) mu192.im h249
        replace h254 := rep_put (o := .lst (vs286 ++ [(V.ref p281)])) mu192.im h254
        replace h269 := rep_put (o := .lst (vs286 ++ [(V.ref p281)])) mu192.im h269
        replace h277 := rep_put (o := .lst (vs286 ++ [(V.ref p281)])) mu192.im h277
        replace h282 := rep_put (o := .lst (vs286 ++ [(V.ref p281)])) mu192.im h282
        replace hW := wd_put (o := .lst (vs286 ++ [(V.ref p281)])) hW mu192
        replace mu192 := mk290
        generalize upd H284 L81 (.lst (vs286 ++ [(V.ref p281)])) = H291 at *
        replace mu192 : MutO (L81 :: ms) [(ap, none)] H_0 H291 L81 (D.lst ((((([(x_days_here.reverse), (x_days_here ++ ([y6] : List (List (Int × Int)))), (((cutM x_days_here none (some r1)) ++ r58) ++ (cutM x_days_here (some (r1 + (1 : Int))) none))] : List (List (List (Int × Int)))) ++ [(((cutM x_days_here none (some r1)) ++ ([r94] : List (List (Int × Int)))) ++ (cutM x_days_here (some (r1 + (1 : Int))) none))]) ++ [(((cutM x_days_here none (some r1)) ++ ([(ys190 ++ ([(y130.1, y134.1), (y130.2, y134.2)] : List (Int × Int)))] : List (List (Int × Int)))) ++ (cutM x_days_here (some (r1 + (1 : Int))) none))]) ++ [((cutM x_days_here none (some r1)) ++ (cutM x_days_here (some (r1 + (1 : Int))) none))]).map (fun y_ : (List (List (Int × Int))) => (D.lst (y_.map (fun y_ : (List (Int × Int)) => (D.lst (y_.map (fun y_ : (Int × Int) => (D.tup [(D.v (V.int y_.1)), (D.v (V.int y_.2))])))))))))) := mu192
        clear mk290
        have h292 := mo_rep_dr dr_here nm83 mu192
        replace hW := wd_dr dr_here mu192.hp hW
        replace h_days_here := rep_dr dr_here h_days_here
        replace h8 := rep_dr dr_here h8
        replace h20 := rep_dr dr_here h20
        replace h26 := rep_dr dr_here h26
        replace h31 := rep_dr dr_here h31
        replace h39 := rep_dr dr_here h39
        replace h45 := rep_dr dr_here h45
        replace h50 := rep_dr dr_here h50
        replace h55 := rep_dr dr_here h55
        replace h59 := rep_dr dr_here h59
        replace h65 := rep_dr dr_here h65
        replace h73 := rep_dr dr_here h73
        replace h78 := rep_dr dr_here h78
        replace h91 := rep_dr dr_here h91
        replace h95 := rep_dr dr_here h95
        replace h102 := rep_dr dr_here h102
        replace h107 := rep_dr dr_here h107
        replace h115 := rep_dr dr_here h115
        replace h120 := rep_dr dr_here h120
        replace h132 := rep_dr dr_here h132
        replace h136 := rep_dr dr_here h136
        replace h141 := rep_dr dr_here h141
        replace h148 := rep_dr dr_here h148
        replace h152 := rep_dr dr_here h152
        replace h193 := rep_dr dr_here h193
        replace h199 := rep_dr dr_here h199
        replace h209 := rep_dr dr_here h209
        replace h219 := rep_dr dr_here h219
        replace h225 := rep_dr dr_here h225
        replace h230 := rep_dr dr_here h230
        replace h236 := rep_dr dr_here h236
        replace h241 := rep_dr dr_here h241
        replace h249 := rep_dr dr_here h249
        replace h254 := rep_dr dr_here h254
        replace h269 := rep_dr dr_here h269
        replace h277 := rep_dr dr_here h277
        replace h282 := rep_dr dr_here h282
        clear mu192
        refine ⟨_, rfl, ?_⟩
        exact hQ (((([(x_days_here.reverse), (x_days_here ++ ([y6] : List (List (Int × Int)))), (((cutM x_days_here none (some r1)) ++ r58) ++ (cutM x_days_here (some (r1 + (1 : Int))) none))] : List (List (List (Int × Int)))) ++ [(((cutM x_days_here none (some r1)) ++ ([r94] : List (List (Int × Int)))) ++ (cutM x_days_here (some (r1 + (1 : Int))) none))]) ++ [(((cutM x_days_here none (some r1)) ++ ([(ys190 ++ ([(y130.1, y134.1), (y130.2, y134.2)] : List (Int × Int)))] : List (List (Int × Int)))) ++ (cutM x_days_here (some (r1 + (1 : Int))) none))]) ++ [((cutM x_days_here none (some r1)) ++ (cutM x_days_here (some (r1 + (1 : Int))) none))]) _ _ hM hW.out h292
      · skip
        have h293 := mo_rep_dr dr_here nm83 mu192
        replace hW := wd_dr dr_here mu192.hp hW
        replace h_days_here := rep_dr dr_here h_days_here
        replace h8 := rep_dr dr_here h8
        replace h20 := rep_dr dr_here h20
        replace h26 := rep_dr dr_here h26
        replace h31 := rep_dr dr_here h31
        replace h39 := rep_dr dr_here h39
        replace h45 := rep_dr dr_here h45
        replace h50 := rep_dr dr_here h50
        replace h55 := rep_dr dr_here h55
        replace h59 := rep_dr dr_here h59
        replace h65 := rep_dr dr_here h65
        replace h73 := rep_dr dr_here h73
        replace h78 := rep_dr dr_here h78
        replace h91 := rep_dr dr_here h91
        replace h95 := rep_dr dr_here h95
        replace h102 := rep_dr dr_here h102
        replace h107 := rep_dr dr_here h107
        replace h115 := rep_dr dr_here h115
        replace h120 := rep_dr dr_here h120
        replace h132 := rep_dr dr_here h132
        replace h136 := rep_dr dr_here h136
        replace h141 := rep_dr dr_here h141
        replace h148 := rep_dr dr_here h148
        replace h152 := rep_dr dr_here h152
        replace h193 := rep_dr dr_here h193
        replace h199 := rep_dr dr_here h199
        replace h209 := rep_dr dr_here h209
        replace h219 := rep_dr dr_here h219
        replace h225 := rep_dr dr_here h225
        replace h230 := rep_dr dr_here h230
        replace h236 := rep_dr dr_here h236
        replace h241 := rep_dr dr_here h241
        replace h249 := rep_dr dr_here h249
        replace h254 := rep_dr dr_here h254
        clear mu192
        refine ⟨_, rfl, ?_⟩
        exact hQ ((([(x_days_here.reverse), (x_days_here ++ ([y6] : List (List (Int × Int)))), (((cutM x_days_here none (some r1)) ++ r58) ++ (cutM x_days_here (some (r1 + (1 : Int))) none))] : List (List (List (Int × Int)))) ++ [(((cutM x_days_here none (some r1)) ++ ([r94] : List (List (Int × Int)))) ++ (cutM x_days_here (some (r1 + (1 : Int))) none))]) ++ [(((cutM x_days_here none (some r1)) ++ ([(ys190 ++ ([(y130.1, y134.1), (y130.2, y134.2)] : List (Int × Int)))] : List (List (Int × Int)))) ++ (cutM x_days_here (some (r1 + (1 : Int))) none))]) _ _ hM hW.out h293
def M_is_list_lltii (x_value : (List (List (Int × Int)))) (KM : Bool → Prop) : Prop :=
  (KM true)
def sp_is_list_lltii (A : Ad) : Sp := fun vs H Q _ => ∃ (ms : List Addr) (v_value : V) (x_value : (List (List (Int × Int)))) (KM : Bool → Prop), vs = [v_value] ∧ Wd ms [] [] H H ∧ rep ms H (D.lst (x_value.map (fun y_ : (List (Int × Int)) => (D.lst (y_.map (fun y_ : (Int × Int) => (D.tup [(D.v (V.int y_.1)), (D.v (V.int y_.2))]))))))) v_value ∧ M_is_list_lltii x_value KM ∧ ∀ (r : Bool) (u : V) (H1 : Hp), KM r → Ret [] H H1 → rep ms H1 (D.v (V.bl r)) u → Q u H1
set_option maxHeartbeats 16000000 in
theorem ok_is_list_lltii {P : Program} {w : World} {K : PySem.W.Frag} {mg : Str → Option Value} {base : Heap} {A : Ad} (T : Txt w K mg A) : FnOk P w K mg base CX0 1 A.a_is_list A.d_is_list ["value"] (sp_is_list_lltii A) := by
  refine T.F_is_list.ok sc_is_list (fun vs H Q E h => ?_) (fun cdv A_ outer s_ H_0 vs Q E hr h => ?_)
  · obtain ⟨ms, v_value, x_value, KM, rfl, _⟩ := h
    rfl
  · obtain ⟨ms, v_value, x_value, KM, rfl, hW, h_value, hM, hQ⟩ := h
    unfold M_is_list_lltii at hM
    refine ⟨_, (pss_one (ps_ret (pe_callB (call_isiTK (K := K) rfl) (by rfl) T.z_isinstance (by decide +kernel) (pa_cons (pv 0) (pa_cons (pe_tup (pa_cons (pe_bltn (v := .ty "list") (by rfl) T.z_list (by decide +kernel) rfl) (pa_cons (pe_bltn (v := .ty "tuple") (by rfl) T.z_tuple (by decide +kernel) rfl) pa_nil))) pa_nil))))), ?_⟩
    refine ⟨_, rfl, ?_⟩
    refine ⟨(by show 2 ≤ sizeLine; decide), ?_⟩
    intro p1 n2
    have e3 := Rx.Ext.new (H := H_0) (o := (HO.tup [V.ty "list", V.ty "tuple"])) n2
    have hp4 : upd H_0 p1 (HO.tup [V.ty "list", V.ty "tuple"]) p1 = some (HO.tup [V.ty "list", V.ty "tuple"]) := upd_same
    generalize upd H_0 p1 (HO.tup [V.ty "list", V.ty "tuple"]) = H5 at e3 hp4 ⊢
    replace h_value := rep_ext e3 h_value
    replace hW := hW.ret0 e3
    apply rep_isi2 (d := (D.lst (x_value.map (fun y_ : (List (Int × Int)) => (D.lst (y_.map (fun y_ : (Int × Int) => (D.tup [(D.v (V.int y_.1)), (D.v (V.int y_.2))])))))))) (a := "list") (b := "list") (c := "tuple") (r1 := true) (r2 := false) h_value (by rfl) (by rfl) hp4 (by decide +kernel) (by decide +kernel)
    skip
    exact hQ true _ _ hM hW.out rep_v
def M_is_list_ltii (x_value : (List (Int × Int))) (KM : Bool → Prop) : Prop :=
  (KM true)
def sp_is_list_ltii (A : Ad) : Sp := fun vs H Q _ => ∃ (ms : List Addr) (v_value : V) (x_value : (List (Int × Int))) (KM : Bool → Prop), vs = [v_value] ∧ Wd ms [] [] H H ∧ rep ms H (D.lst (x_value.map (fun y_ : (Int × Int) => (D.tup [(D.v (V.int y_.1)), (D.v (V.int y_.2))])))) v_value ∧ M_is_list_ltii x_value KM ∧ ∀ (r : Bool) (u : V) (H1 : Hp), KM r → Ret [] H H1 → rep ms H1 (D.v (V.bl r)) u → Q u H1
set_option maxHeartbeats 16000000 in
theorem ok_is_list_ltii {P : Program} {w : World} {K : PySem.W.Frag} {mg : Str → Option Value} {base : Heap} {A : Ad} (T : Txt w K mg A) : FnOk P w K mg base CX0 1 A.a_is_list A.d_is_list ["value"] (sp_is_list_ltii A) := by
  refine T.F_is_list.ok sc_is_list (fun vs H Q E h => ?_) (fun cdv A_ outer s_ H_0 vs Q E hr h => ?_)
  · obtain ⟨ms, v_value, x_value, KM, rfl, _⟩ := h
    rfl
  · obtain ⟨ms, v_value, x_value, KM, rfl, hW, h_value, hM, hQ⟩ := h
    unfold M_is_list_ltii at hM
    refine ⟨_, (pss_one (ps_ret (pe_callB (call_isiTK (K := K) rfl) (by rfl) T.z_isinstance (by decide +kernel) (pa_cons (pv 0) (pa_cons (pe_tup (pa_cons (pe_bltn (v := .ty "list") (by rfl) T.z_list (by decide +kernel) rfl) (pa_cons (pe_bltn (v := .ty "tuple") (by rfl) T.z_tuple (by decide +kernel) rfl) pa_nil))) pa_nil))))), ?_⟩
    refine ⟨_, rfl, ?_⟩
    refine ⟨(by show 2 ≤ sizeLine; decide), ?_⟩
    intro p1 n2
    have e3 := Rx.Ext.new (H := H_0) (o := (HO.tup [V.ty "list", V.ty "tuple"])) n2
    have hp4 : upd H_0 p1 (HO.tup [V.ty "list", V.ty "tuple"]) p1 = some (HO.tup [V.ty "list", V.ty "tuple"]) := upd_same
    generalize upd H_0 p1 (HO.tup [V.ty "list", V.ty "tuple"]) = H5 at e3 hp4 ⊢
    replace h_value := rep_ext e3 h_value
    replace hW := hW.ret0 e3
    apply rep_isi2 (d := (D.lst (x_value.map (fun y_ : (Int × Int) => (D.tup [(D.v (V.int y_.1)), (D.v (V.int y_.2))]))))) (a := "list") (b := "list") (c := "tuple") (r1 := true) (r2 := false) h_value (by rfl) (by rfl) hp4 (by decide +kernel) (by decide +kernel)
    skip
    exact hQ true _ _ hM hW.out rep_v
def M_is_round_ltii (x_value : (List (Int × Int))) (KM : Bool → Prop) : Prop :=
  (M_is_list_ltii x_value fun r1 => (if (!r1) = true then (KM false) else (if (decide ((x_value.length : Int) < (2 : Int))) = true then (KM false) else (if (decide ((12 : Int) < (x_value.length : Int))) = true then (KM false) else (x_value.length < 100000 ∧ mapC (fun (x22 : (Int × Int)) (k15 : Bool → Prop) => (M_is_meeting x22 fun r28 => (k15 r28))) x_value [] fun ys38 => (if (!(List.all ys38 id)) = true then (KM false) else (((List.flatMap (fun y_ : (Int × Int) => ([y_.1, y_.2] : List Int)) x_value).length ≤ 16777216) ∧ (∀ ys53 : List Int, ys53.Perm (List.flatMap (fun y_ : (Int × Int) => ([y_.1, y_.2] : List Int)) x_value) → ys53.Pairwise (· ≤ ·) → (RgOk (0 : Int) ((2 : Int) * (x_value.length : Int)) ∧ (((plainD (D.lst (ys53.map (fun y_ : Int => (D.v (V.int y_))))) = true ∧ plainD (D.lst ((rangeI (0 : Int) ((2 : Int) * (x_value.length : Int))).map (fun y_ : Int => (D.v (V.int y_))))) = true ∧ SeqAt.shaped (pyOf (D.lst (ys53.map (fun y_ : Int => (D.v (V.int y_)))))) = true ∧ SeqAt.shaped (pyOf (D.lst ((rangeI (0 : Int) ((2 : Int) * (x_value.length : Int))).map (fun y_ : Int => (D.v (V.int y_)))))) = true)) ∧ (KM (PyData.eqv (pyOf (D.lst (ys53.map (fun y_ : Int => (D.v (V.int y_)))))) (pyOf (D.lst ((rangeI (0 : Int) ((2 : Int) * (x_value.length : Int))).map (fun y_ : Int => (D.v (V.int y_))))))))))))))))))
def sp_is_round_ltii (A : Ad) : Sp := fun vs H Q _ => ∃ (ms : List Addr) (v_value : V) (x_value : (List (Int × Int))) (KM : Bool → Prop), vs = [v_value] ∧ Wd ms [] [] H H ∧ rep ms H (D.lst (x_value.map (fun y_ : (Int × Int) => (D.tup [(D.v (V.int y_.1)), (D.v (V.int y_.2))])))) v_value ∧ M_is_round_ltii x_value KM ∧ ∀ (r : Bool) (u : V) (H1 : Hp), KM r → Ret [] H H1 → rep ms H1 (D.v (V.bl r)) u → Q u H1
set_option maxHeartbeats 16000000 in
theorem ok_is_round_ltii {P : Program} {w : World} {K : PySem.W.Frag} {mg : Str → Option Value} {base : Heap} {A : Ad} (T : Txt w K mg A) : FnOk P w K mg base CX0 3 A.a_is_round A.d_is_round ["value"] (sp_is_round_ltii A) := by
  refine T.F_is_round.ok sc_is_round (fun vs H Q E h => ?_) (fun cdv A_ outer s_ H_0 vs Q E hr h => ?_)
  · obtain ⟨ms, v_value, x_value, KM, rfl, _⟩ := h
    rfl
  · obtain ⟨ms, v_value, x_value, KM, rfl, hW, h_value, hM, hQ⟩ := h
    unfold M_is_round_ltii at hM
    refine ⟨_, (pss_cons (ps_if (PW.pt (pw_or (pt_not (pt_val (pe_call (ok_is_list_ltii T) (hr.mono (by decide)) (by rfl) T.g_is_list T.F_is_list.kp T.b_is_list .nil pass0 (pa_cons (pv 0) pa_nil)))) (pw_or (pt_cmpR op_lt (pe_callB (call_lenK (K := K) rfl) (by rfl) T.z_len PySem.boot_len (pa_cons (pv 0) pa_nil)) (C8.pe_gc (by rfl) T.c_FEWEST_MEETINGS) (nomark _)) (pw_or1 (pt_cmpR op_gt (pe_callB (call_lenK (K := K) rfl) (by rfl) T.z_len PySem.boot_len (pa_cons (pv 0) pa_nil)) (C8.pe_gc (by rfl) T.c_MOST_MEETINGS) (nomark _)))))) (pss_one (ps_ret pe_bl)) pss_nil) (pss_cons (ps_if (pt_not (pt_val (pe_callB (cr_allK (K := K) rfl rfl) (by rfl) T.z_all (by decide +kernel) (pa_cons (pe_lc (own := [("meeting", 1)]) (g := gName 1) rfl sc_is_round.nd (pi_list (pv 0)) (blkOk_by (N := ["value", "meeting", "team"]) (sc := defScope s_is_round) (by decide +kernel)) (fun _ _ _ _ _ => pg_name (i := 1) sc_is_round.nd rfl (by first | exact Or.inl rfl | exact Or.inr rfl)) (fun _ _ _ _ _ => pts_nil) (fun _ _ _ _ _ => (pe_call (ok_is_meeting T) (hr.mono (by decide)) (by rfl) T.g_is_meeting T.F_is_meeting.kp T.b_is_meeting .nil pass0 (pa_cons (pv 1) pa_nil)))) pa_nil)))) (pss_one (ps_ret pe_bl)) pss_nil) (pss_one (ps_ret (pe_cmpR (op_eqDK (K := K) rfl hr.units) (pe_callB (cr_sortedIK (K := K) rfl) (by rfl) T.z_sorted (by decide +kernel) (pa_cons (pe_lc2 (own := [("meeting", 1), ("team", 2)]) (vs1 := [2]) (g := gName 1) (g1 := gName 2) rfl sc_is_round.nd (pi_list (pv 0)) (blkOk_by (N := ["value", "meeting", "team"]) (sc := defScope s_is_round) (by decide +kernel)) (by decide) (fun _ _ _ _ _ => pg_name (i := 1) sc_is_round.nd rfl (by first | exact Or.inl rfl | exact Or.inr rfl)) (fun _ _ _ _ _ => pts_nil) (fun _ _ _ _ _ => pi_tupK (K := K) rfl (pv 1)) (fun _ _ _ _ _ => pg_name (i := 2) sc_is_round.nd rfl (by first | exact Or.inl rfl | exact Or.inr rfl)) (fun _ _ _ _ _ => pts_nil) (fun _ _ _ _ _ => pv 2)) pa_nil)) (pe_listRg rfl (by rfl) T.z_list (prg_1 (by rfl) T.z_range (pe_op op_mul pe_int (pe_callB (call_lenK (K := K) rfl) (by rfl) T.z_len PySem.boot_len (pa_cons (pv 0) pa_nil))))) (nomark _)))))), ?_⟩
    refine ⟨_, rfl, ?_⟩
    refine ⟨ms, _, x_value, _, rfl, hW.enter0, h_value, hM, fun r1 u4 H5 hM e3 h2 => ?_⟩
    replace h_value := rep_ext e3 h_value
    replace hW := hW.ret0 e3
    obtain rfl := of_v h2
    refine ⟨_, rfl, ?_⟩
    refine ite3 hM (fun hM => ?_) (fun hM => ?_)
    · skip
      refine iteT ?_
      exact hQ false _ _ hM hW.out rep_v
    · skip
      refine ⟨_, rfl, ?_⟩
      apply rep_lenL (e := (fun y_ : (Int × Int) => (D.tup [(D.v (V.int y_.1)), (D.v (V.int y_.2))]))) (xs := x_value) h_value
      refine ⟨_, _, rfl, rfl, ?_⟩
      refine ⟨_, rfl, ?_⟩
      refine ite3 hM (fun hM => ?_) (fun hM => ?_)
      · skip
        refine iteT ?_
        exact hQ false _ _ hM hW.out rep_v
      · skip
        refine ⟨_, rfl, ?_⟩
        apply rep_lenL (e := (fun y_ : (Int × Int) => (D.tup [(D.v (V.int y_.1)), (D.v (V.int y_.2))]))) (xs := x_value) h_value
        refine ⟨_, _, rfl, rfl, ?_⟩
        refine ⟨_, rfl, ?_⟩
        refine ite3 hM (fun hM => ?_) (fun hM => ?_)
        · skip
          exact hQ false _ _ hM hW.out rep_v
        · skip
          refine ⟨_, rfl, ?_⟩
          apply rep_iter h_value
          intro a6 xs7 _ an8 hp9 hl10
          refine fun L11 nl12 => ?_
          have nm26 := nm_new hW nl12
          refine lc_listG (L := L11) (fun n_ ys_ h_ => Wd (L11 :: ms) [] [] H_0 h_ ∧ Keep (L11 :: ms) H5 h_ ∧ MutO (L11 :: ms) [] H_0 h_ L11 (D.lst (ys_.map (fun y_ : Bool => (D.v (V.bl y_))))) ∧ ys_.length ≤ n_) (items := x_value) (e := (fun y_ : (Int × Int) => (D.tup [(D.v (V.int y_.1)), (D.v (V.int y_.2))]))) an8 hp9 hl10 nl12 (fun _ _ _ q_ => q_.2.1) hM ⟨wd_cell hW nl12, keep_cell nl12 Keep.refl, mo_newL (ds := []) hW nl12 repL_nil, Nat.le_refl _⟩ ?_ ?_
          · skip
            rintro x22 u23 n13 ys14 k15 H27 hn ⟨hW, hk16, mu17, ln18⟩ h24 hM Nx21 hN19
            replace h_value := rep_keep hk16 (rep_new nl12 h_value)
            refine ⟨rfl, ?_⟩
            refine tyes_of ?_
            refine ⟨_, rfl, ?_⟩
            refine ⟨(L11 :: ms), _, x22, _, rfl, hW.enter0, h24, hM, fun r28 u31 H32 hM e30 h29 => ?_⟩
            replace h_value := rep_ext e30 h_value
            replace hk16 := keep_ext e30 hk16
            replace h24 := rep_ext e30 h24
            replace mu17 := mo_ext e30 mu17
            replace hW := hW.ret0 e30
            obtain rfl := of_v h29
            refine mo_end mu17 hn (by rw [List.length_map]; exact ln18) fun vs33 hr34 => ?_
            have mk36 := mo_setL mu17 (repL_snoc (e := (fun y_ : Bool => (D.v (V.bl y_)))) (xs := ys14) (y := r28) hr34 rep_v)
            replace h_value := rep_put (o := .lst (vs33 ++ [V.bl r28])) mu17.im h_value
            replace hk16 := keep_put (o := .lst (vs33 ++ [V.bl r28])) mu17.im hk16
            replace h24 := rep_put (o := .lst (vs33 ++ [V.bl r28])) mu17.im h24
            replace hW := wd_put (o := .lst (vs33 ++ [V.bl r28])) hW mu17
            replace mu17 := mk36
            generalize upd H32 L11 (.lst (vs33 ++ [V.bl r28])) = H37 at *
            replace mu17 : MutO (L11 :: ms) [] H_0 H37 L11 (D.lst ((ys14 ++ [r28]).map (fun y_ : Bool => (D.v (V.bl y_))))) := mu17
            clear mk36
            exact hN19 r28 _ hM ⟨hW, hk16, mu17, by rw [List.length_append]; exact Nat.add_le_add_right ln18 1⟩
          · skip
            rintro n13 ys38 H39 hM ⟨hW, hk16, mu17, ln18⟩
            replace h_value := rep_keep hk16 (rep_new nl12 h_value)
            clear hk16 ln18
            have h40 := mo_rep_dr dr_here nm26 mu17
            replace hW := wd_dr dr_here mu17.hp hW
            replace h_value := rep_dr dr_here h_value
            clear mu17
            apply rep_all h40
            refine ⟨_, rfl, ?_⟩
            refine ite3 hM (fun hM => ?_) (fun hM => ?_)
            · skip
              exact hQ false _ _ hM hW.out rep_v
            · skip
              refine ⟨_, rfl, ?_⟩
              apply rep_iter h_value
              intro a41 xs42 _ an43 hp44 hl45
              obtain ⟨g46, hM⟩ := hM
              refine lc2_flatC (K := K) (items := x_value) (e := (fun y_ : (Int × Int) => (D.tup [(D.v (V.int y_.1)), (D.v (V.int y_.2))]))) (g := (fun y_ : (Int × Int) => ([y_.1, y_.2] : List Int))) (c := V.int) (fun _ => rfl) an43 hp44 hl45 g46 (show 1 < List.length _ from (by decide : 1 < 3)) (show 2 < List.length _ from (by decide : 2 < 3)) (by decide) ?_
              intro p47 n51
              have e48 := Rx.Ext.new (H := H39) (o := (HO.lst ((List.flatMap (fun y_ : (Int × Int) => ([y_.1, y_.2] : List Int)) x_value).map V.int))) n51
              have hp49 : upd H39 p47 (HO.lst ((List.flatMap (fun y_ : (Int × Int) => ([y_.1, y_.2] : List Int)) x_value).map V.int)) p47 = some (HO.lst ((List.flatMap (fun y_ : (Int × Int) => ([y_.1, y_.2] : List Int)) x_value).map V.int)) := upd_same
              generalize upd H39 p47 (HO.lst ((List.flatMap (fun y_ : (Int × Int) => ([y_.1, y_.2] : List Int)) x_value).map V.int)) = H52 at e48 hp49 ⊢
              have h50 : rep ms H52 (D.lst ((List.flatMap (fun y_ : (Int × Int) => ([y_.1, y_.2] : List Int)) x_value).map (fun y_ : Int => (D.v (V.int y_))))) (.ref p47) := rep_lst_mk hW n51 e48 hp49 repL_intsM
              replace h_value := rep_ext e48 h_value
              replace h40 := rep_ext e48 h40
              replace hW := hW.ret0 e48
              apply rep_sortI (xs := (List.flatMap (fun y_ : (Int × Int) => ([y_.1, y_.2] : List Int)) x_value)) h50
              intro ys53 hpm54 hst55
              replace hM := hM ys53 hpm54 hst55
              intro p56 n60
              have e57 := Rx.Ext.new (H := H52) (o := (HO.lst (ys53.map V.int))) n60
              have hp58 : upd H52 p56 (HO.lst (ys53.map V.int)) p56 = some (HO.lst (ys53.map V.int)) := upd_same
              generalize upd H52 p56 (HO.lst (ys53.map V.int)) = H61 at e57 hp58 ⊢
              have h59 : rep ms H61 (D.lst (ys53.map (fun y_ : Int => (D.v (V.int y_))))) (.ref p56) := rep_lst_mk hW n60 e57 hp58 repL_intsM
              replace h_value := rep_ext e57 h_value
              replace h40 := rep_ext e57 h40
              replace h50 := rep_ext e57 h50
              replace hW := hW.ret0 e57
              refine ⟨_, rfl, ?_⟩
              apply rep_lenL (e := (fun y_ : (Int × Int) => (D.tup [(D.v (V.int y_.1)), (D.v (V.int y_.2))]))) (xs := x_value) h_value
              refine ⟨_, _, rfl, rfl, .inl ⟨by decide, by decide⟩, ?_⟩
              obtain ⟨g62, hM⟩ := hM
              refine ⟨_, rfl, g62, ?_⟩
              intro p63 n67
              have e64 := Rx.Ext.new (H := H61) (o := (HO.lst (rgV (0 : Int) ((2 : Int) * (x_value.length : Int))))) n67
              have hp65 : upd H61 p63 (HO.lst (rgV (0 : Int) ((2 : Int) * (x_value.length : Int)))) p63 = some (HO.lst (rgV (0 : Int) ((2 : Int) * (x_value.length : Int)))) := upd_same
              generalize upd H61 p63 (HO.lst (rgV (0 : Int) ((2 : Int) * (x_value.length : Int)))) = H68 at e64 hp65 ⊢
              have h66 : rep ms H68 (D.lst ((rangeI (0 : Int) ((2 : Int) * (x_value.length : Int))).map (fun y_ : Int => (D.v (V.int y_))))) (.ref p63) := rep_rg_mk hW n67 e64 hp65
              replace h_value := rep_ext e64 h_value
              replace h40 := rep_ext e64 h40
              replace h50 := rep_ext e64 h50
              replace h59 := rep_ext e64 h59
              replace hW := hW.ret0 e64
              obtain ⟨g69, hM⟩ := hM
              apply rep_eqD (d := (D.lst (ys53.map (fun y_ : Int => (D.v (V.int y_)))))) (e := (D.lst ((rangeI (0 : Int) ((2 : Int) * (x_value.length : Int))).map (fun y_ : Int => (D.v (V.int y_)))))) h59 h66 g69.1 g69.2.1 g69.2.2.1 g69.2.2.2
              exact hQ (PyData.eqv (pyOf (D.lst (ys53.map (fun y_ : Int => (D.v (V.int y_)))))) (pyOf (D.lst ((rangeI (0 : Int) ((2 : Int) * (x_value.length : Int))).map (fun y_ : Int => (D.v (V.int y_))))))) _ _ hM hW.out rep_v
def M_check_rounds_lltii (x_rounds : (List (List (Int × Int)))) (KM : Unit → Prop) : Prop :=
  (M_is_list_lltii x_rounds fun r1 => (if (!r1) = true then False else (if (decide (V.int (x_rounds.length : Int) = V.int (0 : Int))) = true then False else (forC (fun (x11 : (Int × (List (Int × Int)))) (s13 : Unit) (k14 : Unit → Prop) => (M_is_round_ltii x11.2 fun r34 => (if (!r34) = true then False else (0 ≤ (0 : Int) ∧ ∃ g40 : Int.toNat (0 : Int) < x_rounds.length, ∀ x42, x42 = x_rounds[Int.toNat (0 : Int)]'g40 → (if (!(decide (V.int (x11.2.length : Int) = V.int (x42.length : Int)))) = true then False else (k14 ())))))) ((rangeI 0 (x_rounds.length : Int)).zip x_rounds) () fun s44 => (if (decide ((60 : Int) < (x_rounds.length : Int))) = true then False else (KM ()))))))
def sp_check_rounds_lltii (A : Ad) : Sp := fun vs H Q _ => ∃ (ms : List Addr) (v_rounds : V) (x_rounds : (List (List (Int × Int)))) (KM : Unit → Prop), vs = [v_rounds] ∧ Wd ms [] [] H H ∧ rep ms H (D.lst (x_rounds.map (fun y_ : (List (Int × Int)) => (D.lst (y_.map (fun y_ : (Int × Int) => (D.tup [(D.v (V.int y_.1)), (D.v (V.int y_.2))]))))))) v_rounds ∧ M_check_rounds_lltii x_rounds KM ∧ ∀ (r : Unit) (u : V) (H1 : Hp), KM r → Ret [] H H1 → rep ms H1 (D.v V.non) u → Q u H1
set_option maxHeartbeats 16000000 in
theorem ok_check_rounds_lltii {P : Program} {w : World} {K : PySem.W.Frag} {mg : Str → Option Value} {base : Heap} {A : Ad} (T : Txt w K mg A) : FnOk P w K mg base CX0 4 A.a_check_rounds A.d_check_rounds ["rounds"] (sp_check_rounds_lltii A) := by
  refine T.F_check_rounds.ok sc_check_rounds (fun vs H Q E h => ?_) (fun cdv A_ outer s_ H_0 vs Q E hr h => ?_)
  · obtain ⟨ms, v_rounds, x_rounds, KM, rfl, _⟩ := h
    rfl
  · obtain ⟨ms, v_rounds, x_rounds, KM, rfl, hW, h_rounds, hM, hQ⟩ := h
    unfold M_check_rounds_lltii at hM
    refine ⟨_, (pss_cons (ps_if (PW.pt (pw_or (pt_not (pt_val (pe_call (ok_is_list_lltii T) (hr.mono (by decide)) (by rfl) T.g_is_list T.F_is_list.kp T.b_is_list .nil pass0 (pa_cons (pv 0) pa_nil)))) (pw_or1 (pt_cmpR op_eq (pe_callB (call_lenK (K := K) rfl) (by rfl) T.z_len PySem.boot_len (pa_cons (pv 0) pa_nil)) pe_int (nomark _))))) (pss_one ps_never) pss_nil) (pss_cons (ps_for PassesOwn.never rfl (pi_enum (by rfl) T.z_enumerate (pa_cons (pv 0) pa_nil)) (pg_tup rfl (pgs_cons (pg_name (i := 1) sc_check_rounds.nd rfl (by first | exact Or.inl rfl | exact Or.inr rfl)) (pgs_cons (pg_name (i := 2) sc_check_rounds.nd rfl (by first | exact Or.inl rfl | exact Or.inr rfl)) pgs_nil))) (pss_one (ps_if (PW.pt (pw_or (pt_not (pt_val (pe_call (ok_is_round_ltii T) (hr.mono (by decide)) (by rfl) T.g_is_round T.F_is_round.kp T.b_is_round .nil pass0 (pa_cons (pv 2) pa_nil)))) (pw_or1 (pt_cmpR op_ne (pe_callB (call_lenK (K := K) rfl) (by rfl) T.z_len PySem.boot_len (pa_cons (pv 2) pa_nil)) (pe_callB (call_lenK (K := K) rfl) (by rfl) T.z_len PySem.boot_len (pa_cons (pe_ix (ix_listK (K := K) rfl) (pv 0) pe_int (fun _ _ => rfl)) pa_nil)) (nomark _))))) (pss_one ps_never) pss_nil))) (pss_one (ps_if (pt_cmpR op_gt (pe_callB (call_lenK (K := K) rfl) (by rfl) T.z_len PySem.boot_len (pa_cons (pv 0) pa_nil)) (C8.pe_gc (by rfl) T.c_MOST_ROUNDS) (nomark _)) (pss_one ps_never) pss_nil)))), ?_⟩
    refine ⟨_, rfl, ?_⟩
    refine ⟨ms, _, x_rounds, _, rfl, hW.enter0, h_rounds, hM, fun r1 u4 H5 hM e3 h2 => ?_⟩
    replace h_rounds := rep_ext e3 h_rounds
    replace hW := hW.ret0 e3
    obtain rfl := of_v h2
    refine ⟨_, rfl, ?_⟩
    refine ite3 hM (fun hM => ?_) (fun hM => ?_)
    · skip
      refine iteT ?_
      exact hM
    · skip
      refine ⟨_, rfl, ?_⟩
      apply rep_lenL (e := (fun y_ : (List (Int × Int)) => (D.lst (y_.map (fun y_ : (Int × Int) => (D.tup [(D.v (V.int y_.1)), (D.v (V.int y_.2))])))))) (xs := x_rounds) h_rounds
      refine ⟨rfl, ?_⟩
      refine ⟨_, rfl, ?_⟩
      refine ite3 hM (fun hM => ?_) (fun hM => ?_)
      · skip
        exact hM
      · skip
        refine ⟨_, rfl, ?_⟩
        apply rep_iterE h_rounds
        intro a6 xs7 _ an8 hp9 hl10
        refine for_enumG (S := Unit) (items := x_rounds) (e := (fun y_ : (List (Int × Int)) => (D.lst (y_.map (fun y_ : (Int × Int) => (D.tup [(D.v (V.int y_.1)), (D.v (V.int y_.2))])))))) (ms := ms) (fun (s : Unit) σ_ h_ => ∃ (w_0 : Option V), ∃ (w_1 : Option V), σ_ = [some v_rounds, w_0, w_1] ∧ Wd ms [] [] H_0 h_ ∧ Keep ms H5 h_) () an8 hp9 hl10 (fun _ _ _ z_ => by obtain ⟨_, _, _, _, q_⟩ := z_; exact q_) (fun _ _ _ z_ => by obtain ⟨_, _, _, w_, _⟩ := z_; exact w_.tr) hM ⟨_, _, rfl, hW, Keep.refl⟩ ?_ ?_
        · skip
          rintro x11 u12 s13 k14 _ H23 H22 ⟨w19, w20, rfl, hW, hk15⟩ ex21 h16 hM Nx17 hN18
          replace h_rounds := rep_keep hk15 h_rounds
          replace h_rounds := rep_ext ex21 h_rounds
          replace hk15 := keep_ext ex21 hk15
          replace hW := hW.ret0 ex21
          apply rep_gtup h16 rfl
          intro vs24 hv25
          obtain ⟨u26, us27, rfl, h28, hv29⟩ := repL_uncons hv25
          obtain rfl := of_v h28
          obtain ⟨u30, us31, rfl, h32, hv33⟩ := repL_uncons hv29
          obtain rfl := repL_empty hv33
          refine ⟨_, _, rfl, ?_⟩
          refine ⟨_, _, rfl, ?_⟩
          refine ⟨rfl, ?_⟩
          refine ⟨_, rfl, ?_⟩
          refine ⟨ms, _, x11.2, _, rfl, hW.enter0, h32, hM, fun r34 u37 H38 hM e36 h35 => ?_⟩
          replace h_rounds := rep_ext e36 h_rounds
          replace hk15 := keep_ext e36 hk15
          replace h16 := rep_ext e36 h16
          replace h32 := rep_ext e36 h32
          replace hW := hW.ret0 e36
          obtain rfl := of_v h35
          refine ⟨_, rfl, ?_⟩
          refine ite3 hM (fun hM => ?_) (fun hM => ?_)
          · skip
            refine iteT ?_
            exact hM
          · skip
            refine ⟨_, rfl, ?_⟩
            apply rep_lenL (e := (fun y_ : (Int × Int) => (D.tup [(D.v (V.int y_.1)), (D.v (V.int y_.2))]))) (xs := x11.2) h32
            refine ⟨_, rfl, ?_⟩
            obtain ⟨g39, g40, hM⟩ := hM
            apply rep_ixL (e := (fun y_ : (List (Int × Int)) => (D.lst (y_.map (fun y_ : (Int × Int) => (D.tup [(D.v (V.int y_.1)), (D.v (V.int y_.2))])))))) (xs := x_rounds) h_rounds g39 g40
            intro u43 h41
            obtain ⟨x42, x42e⟩ : ∃ x_, x_ = x_rounds[Int.toNat (0 : Int)]'g40 := ⟨_, rfl⟩
            rw [← x42e] at h41
            replace hM := hM x42 x42e
            apply rep_lenL (e := (fun y_ : (Int × Int) => (D.tup [(D.v (V.int y_.1)), (D.v (V.int y_.2))]))) (xs := x42) h41
            refine ⟨rfl, ?_⟩
            refine ⟨_, rfl, ?_⟩
            refine ite3 hM (fun hM => ?_) (fun hM => ?_)
            · skip
              exact hM
            · skip
              exact hN18 () _ _ hM ⟨_, _, rfl, hW, hk15⟩
        · skip
          rintro s44 _ H48 hM ⟨w46, w47, rfl, hW, hk45⟩
          replace h_rounds := rep_keep hk45 h_rounds
          refine ⟨_, rfl, ?_⟩
          apply rep_lenL (e := (fun y_ : (List (Int × Int)) => (D.lst (y_.map (fun y_ : (Int × Int) => (D.tup [(D.v (V.int y_.1)), (D.v (V.int y_.2))])))))) (xs := x_rounds) h_rounds
          refine ⟨_, _, rfl, rfl, ?_⟩
          refine ⟨_, rfl, ?_⟩
          refine ite3 hM (fun hM => ?_) (fun hM => ?_)
          · skip
            exact hM
          · skip
            exact hQ () _ _ hM hW.out rep_v
def M_Table_init_nlltii (x_rounds : (List (List (Int × Int)))) (KM : (List (List (Int × Int))) → Prop) : Prop :=
  (M_check_rounds_lltii x_rounds fun r1 => (x_rounds.length < 100000 ∧ mapC (fun (x22 : (List (Int × Int))) (k15 : (List (Int × Int)) → Prop) => (x22.length < 100000 ∧ mapC (fun (x44 : (Int × Int)) (k37 : (Int × Int) → Prop) => (k37 (x44.1, x44.2))) x22 [] fun ys74 => (∀ ys78 : List (Int × Int), ys78.Perm ys74 → ys78.Pairwise lePI → (k15 ys78)))) x_rounds [] fun ys94 => (KM ys94)))
def sp_Table_init_nlltii (A : Ad) : Sp := fun vs H Q _ => ∃ (ms : List Addr) (p_ dx_ : Addr) (v_rounds : V) (x_rounds : (List (List (Int × Int)))) (KM : (List (List (Int × Int))) → Prop), vs = [.ref p_, v_rounds] ∧ Wd ms [] [] H H ∧ p_ ∈ ms ∧ H p_ = some (.ins A.c_Table dx_ []) ∧ rep ms H (D.lst (x_rounds.map (fun y_ : (List (Int × Int)) => (D.lst (y_.map (fun y_ : (Int × Int) => (D.tup [(D.v (V.int y_.1)), (D.v (V.int y_.2))]))))))) v_rounds ∧ M_Table_init_nlltii x_rounds KM ∧ ∀ (r : (List (List (Int × Int)))) (us : List V) (H1 : Hp), KM r → KpI p_ H H1 → H1 p_ = some (.ins A.c_Table dx_ (List.zip ns_Table us)) → ns_Table.length = us.length → repL ms H1 [(D.lst (r.map (fun y_ : (List (Int × Int)) => (D.lst (y_.map (fun y_ : (Int × Int) => (D.tup [(D.v (V.int y_.1)), (D.v (V.int y_.2))])))))))] us → Q .non H1
set_option maxHeartbeats 16000000 in
theorem ok_Table_init_nlltii {P : Program} {w : World} {K : PySem.W.Frag} {mg : Str → Option Value} {base : Heap} {A : Ad} (T : Txt w K mg A) : FnOk P w K mg base CX0 5 A.a_Table_init A.d_Table_init ["self", "rounds"] (sp_Table_init_nlltii A) := by
  refine T.F_Table_init.ok sc_Table_init (fun vs H Q E h => ?_) (fun cdv A_ outer s_ H_0 vs Q E hr h => ?_)
  · obtain ⟨ms, p_, dx_, v_rounds, x_rounds, KM, rfl, _⟩ := h
    rfl
  · obtain ⟨ms, p_, dx_, v_rounds, x_rounds, KM, rfl, hW, pm_, hp, h_rounds, hM, hQ⟩ := h
    unfold M_Table_init_nlltii at hM
    have hK := ki_refl (p := p_) (H := H_0)
    replace hp : H_0 p_ = some (.ins A.c_Table dx_ (List.zip ([] : List Str) ([] : List V))) := hp
    refine ⟨_, (pss_cons (ps_expr (pe_call (ok_check_rounds_lltii T) (hr.mono (by decide)) (by rfl) T.g_check_rounds T.F_check_rounds.kp T.b_check_rounds .nil pass0 (pa_cons (pv 1) pa_nil))) (pss_one (ps_fld (pv 0) (pe_lc (own := [("meetings", 2)]) (g := gName 2) rfl sc_Table_init.nd (pi_list (pv 1)) (blkOk_by (N := ["self", "rounds", "meetings", "home", "away"]) (sc := defScope s_Table_init) (by decide +kernel)) (fun _ _ _ _ _ => pg_name (i := 2) sc_Table_init.nd rfl (by first | exact Or.inl rfl | exact Or.inr rfl)) (fun _ _ _ _ _ => pts_nil) (fun _ _ _ _ _ => (pe_callB (cr_sortedPK (K := K) rfl) (by rfl) T.z_sorted (by decide +kernel) (pa_cons (pe_lc (own := [("home", 3), ("away", 4)]) (g := (gTup K 2 (gCons (gName 3) (gCons (gName 4) gNil)))) rfl sc_Table_init.nd (pi_listK (K := K) rfl (pv 2)) (blkOk_rel (N := ["self", "rounds", "meetings", "home", "away"]) rfl (by kernel_rfl)) (fun _ _ _ _ _ => (pg_tup rfl (pgs_cons (pg_name (i := 3) sc_Table_init.nd rfl (by first | exact Or.inl rfl | exact Or.inr rfl)) (pgs_cons (pg_name (i := 4) sc_Table_init.nd rfl (by first | exact Or.inl rfl | exact Or.inr rfl)) pgs_nil)))) (fun _ _ _ _ _ => pts_nil) (fun _ _ _ _ _ => (pe_tup (pa_cons (pv 3) (pa_cons (pv 4) pa_nil))))) pa_nil)))) rfl))), ?_⟩
    refine ⟨_, rfl, ?_⟩
    refine ⟨ms, _, x_rounds, _, rfl, hW.enter0, h_rounds, hM, fun r1 u4 H5 hM e3 h2 => ?_⟩
    replace h_rounds := rep_ext e3 h_rounds
    replace hp := Rx.Ext.keep e3 hp
    replace hW := hW.ret0 e3
    obtain rfl := of_v h2
    refine ⟨_, rfl, ?_⟩
    apply rep_iter h_rounds
    intro a6 xs7 _ an8 hp9 hl10
    refine fun L11 nl12 => ?_
    have nm26 := nm_new hW nl12
    refine lc_listG (L := L11) (fun n_ ys_ h_ => Wd (L11 :: ms) [] [] H_0 h_ ∧ Keep (L11 :: ms) H5 h_ ∧ MutO (L11 :: ms) [] H_0 h_ L11 (D.lst (ys_.map (fun y_ : (List (Int × Int)) => (D.lst (y_.map (fun y_ : (Int × Int) => (D.tup [(D.v (V.int y_.1)), (D.v (V.int y_.2))]))))))) ∧ ys_.length ≤ n_ ∧ h_ p_ = some (.ins A.c_Table dx_ (List.zip ([] : List Str) ([] : List V)))) (items := x_rounds) (e := (fun y_ : (List (Int × Int)) => (D.lst (y_.map (fun y_ : (Int × Int) => (D.tup [(D.v (V.int y_.1)), (D.v (V.int y_.2))])))))) an8 hp9 hl10 nl12 (fun _ _ _ q_ => q_.2.1) hM ⟨wd_cell hW nl12, keep_cell nl12 Keep.refl, mo_newL (ds := []) hW nl12 repL_nil, Nat.le_refl _, Rx.Ext.keep (Rx.Ext.new nl12) hp⟩ ?_ ?_
    · skip
      rintro x22 u23 n13 ys14 k15 H27 hn ⟨hW, hk16, mu17, ln18, hp⟩ h24 hM Nx21 hN19
      replace h_rounds := rep_keep hk16 (rep_new nl12 h_rounds)
      refine ⟨rfl, ?_⟩
      refine tyes_of ?_
      refine ⟨_, rfl, ?_⟩
      apply rep_iter h24
      intro a28 xs29 _ an30 hp31 hl32
      refine fun L33 nl34 => ?_
      have nm48 := nm_new hW nl34
      have kn49 := keep_none (w := hW) nl34 hk16
      have ne50 := mo_ne nl34 mu17
      refine lc_listG (L := L33) (fun n_ ys_ h_ => Wd (L33 :: (L11 :: ms)) [] [] H_0 h_ ∧ Keep (L33 :: (L11 :: ms)) H27 h_ ∧ MutO (L33 :: (L11 :: ms)) [] H_0 h_ L33 (D.lst (ys_.map (fun y_ : (Int × Int) => (D.tup [(D.v (V.int y_.1)), (D.v (V.int y_.2))])))) ∧ ys_.length ≤ n_ ∧ MutO (L33 :: (L11 :: ms)) [] H_0 h_ L11 (D.lst (ys14.map (fun y_ : (List (Int × Int)) => (D.lst (y_.map (fun y_ : (Int × Int) => (D.tup [(D.v (V.int y_.1)), (D.v (V.int y_.2))]))))))) ∧ h_ p_ = some (.ins A.c_Table dx_ (List.zip ([] : List Str) ([] : List V)))) (items := x22) (e := (fun y_ : (Int × Int) => (D.tup [(D.v (V.int y_.1)), (D.v (V.int y_.2))]))) an30 hp31 hl32 nl34 (fun _ _ _ q_ => q_.2.1) hM ⟨wd_cell hW nl34, keep_cell nl34 Keep.refl, mo_newL (ds := []) hW nl34 repL_nil, Nat.le_refl _, mo_cell nl34 mu17, Rx.Ext.keep (Rx.Ext.new nl34) hp⟩ ?_ ?_
      · skip
        clear mu17
        rintro x44 u45 n35 ys36 k37 H51 hn ⟨hW, hk38, mu39, ln40, mu52, hp⟩ h46 hM Nx43 hN41
        replace h_rounds := rep_keep hk38 (rep_new nl34 h_rounds)
        replace hk16 := Keep.trans (Keep.new hk16) hk38
        replace h24 := rep_keep hk38 (rep_new nl34 h24)
        apply rep_gtup h46 rfl
        intro vs53 hv54
        obtain ⟨u55, us56, rfl, h57, hv58⟩ := repL_uncons hv54
        obtain rfl := of_v h57
        obtain ⟨u59, us60, rfl, h61, hv62⟩ := repL_uncons hv58
        obtain rfl := of_v h61
        obtain rfl := repL_empty hv62
        refine ⟨_, _, rfl, ?_⟩
        refine ⟨_, _, rfl, ?_⟩
        refine ⟨rfl, ?_⟩
        refine ⟨rfl, ?_⟩
        refine tyes_of ?_
        refine ⟨_, rfl, ?_⟩
        refine ⟨_, rfl, ?_⟩
        refine ⟨(by show 2 ≤ sizeLine; decide), ?_⟩
        intro p63 n67
        have e64 := Rx.Ext.new (H := H51) (o := (HO.tup [V.int x44.1, V.int x44.2])) n67
        have hp65 : upd H51 p63 (HO.tup [V.int x44.1, V.int x44.2]) p63 = some (HO.tup [V.int x44.1, V.int x44.2]) := upd_same
        generalize upd H51 p63 (HO.tup [V.int x44.1, V.int x44.2]) = H68 at e64 hp65 ⊢
        have h66 : rep (L33 :: (L11 :: ms)) H68 (D.tup [(D.v (V.int x44.1)), (D.v (V.int x44.2))]) (.ref p63) := rep_tup_mk hW n67 e64 hp65 (repL_cons rep_v (repL_cons rep_v repL_nil))
        replace h_rounds := rep_ext e64 h_rounds
        replace hk16 := keep_ext e64 hk16
        replace h24 := rep_ext e64 h24
        replace hk38 := keep_ext e64 hk38
        replace h46 := rep_ext e64 h46
        replace mu52 := mo_ext e64 mu52
        replace mu39 := mo_ext e64 mu39
        replace hp := Rx.Ext.keep e64 hp
        replace hW := hW.ret0 e64
        refine mo_end mu39 hn (by rw [List.length_map]; exact ln40) fun vs69 hr70 => ?_
        have mk72 := mo_setL mu39 (repL_snoc (e := (fun y_ : (Int × Int) => (D.tup [(D.v (V.int y_.1)), (D.v (V.int y_.2))]))) (xs := ys36) (y := (x44.1, x44.2)) hr70 h66)
        replace mu52 := mo_put (o := .lst (vs69 ++ [(V.ref p63)])) mu39.im ne50 mu52
        replace h_rounds := rep_put (o := .lst (vs69 ++ [(V.ref p63)])) mu39.im h_rounds
        replace hk16 := keep_put (o := .lst (vs69 ++ [(V.ref p63)])) mu39.im hk16
        replace h24 := rep_put (o := .lst (vs69 ++ [(V.ref p63)])) mu39.im h24
        replace hk38 := keep_put (o := .lst (vs69 ++ [(V.ref p63)])) mu39.im hk38
        replace h46 := rep_put (o := .lst (vs69 ++ [(V.ref p63)])) mu39.im h46
        replace h66 := rep_put (o := .lst (vs69 ++ [(V.ref p63)])) mu39.im h66
        replace hp := at_put (o := .lst (vs69 ++ [(V.ref p63)])) hp mu39
        replace hW := wd_put (o := .lst (vs69 ++ [(V.ref p63)])) hW mu39
        replace mu39 := mk72
        generalize upd H68 L33 (.lst (vs69 ++ [(V.ref p63)])) = H73 at *
        replace mu39 : MutO (L33 :: (L11 :: ms)) [] H_0 H73 L33 (D.lst ((ys36 ++ [(x44.1, x44.2)]).map (fun y_ : (Int × Int) => (D.tup [(D.v (V.int y_.1)), (D.v (V.int y_.2))])))) := mu39
        clear mk72
        exact hN41 (x44.1, x44.2) _ hM ⟨hW, hk38, mu39, by rw [List.length_append]; exact Nat.add_le_add_right ln40 1, mu52, hp⟩
      · skip
        clear mu17
        rintro n35 ys74 H75 hM ⟨hW, hk38, mu39, ln40, mu76, hp⟩
        replace h_rounds := rep_keep hk38 (rep_new nl34 h_rounds)
        replace hk16 := Keep.trans (Keep.new hk16) hk38
        replace h24 := rep_keep hk38 (rep_new nl34 h24)
        clear hk38 ln40
        have h77 := mo_rep_dr dr_here nm48 mu39
        replace hW := wd_dr dr_here mu39.hp hW
        replace h_rounds := rep_dr dr_here h_rounds
        replace hk16 := keep_dr dr_here kn49 hk16
        replace h24 := rep_dr dr_here h24
        replace mu76 := mo_dr dr_here ne50 mu76
        clear mu39
        apply rep_sortP (xs := ys74) h77
        intro ys78 zs81 hpm79 hst80 hr82
        replace hM := hM ys78 hpm79 hst80
        intro p83 n87
        have e84 := Rx.Ext.new (H := H75) (o := (HO.lst (zs81))) n87
        have hp85 : upd H75 p83 (HO.lst (zs81)) p83 = some (HO.lst (zs81)) := upd_same
        generalize upd H75 p83 (HO.lst (zs81)) = H88 at e84 hp85 ⊢
        have h86 : rep (L11 :: ms) H88 (D.lst (ys78.map (fun y_ : (Int × Int) => (D.tup [(D.v (V.int y_.1)), (D.v (V.int y_.2))])))) (.ref p83) := rep_lst_mk hW n87 e84 hp85 hr82
        replace h_rounds := rep_ext e84 h_rounds
        replace hk16 := keep_ext e84 hk16
        replace h24 := rep_ext e84 h24
        replace h77 := rep_ext e84 h77
        replace mu76 := mo_ext e84 mu76
        replace hp := Rx.Ext.keep e84 hp
        replace hW := hW.ret0 e84
        refine mo_end mu76 hn (by rw [List.length_map]; exact ln18) fun vs89 hr90 => ?_
        have mk92 := mo_setL mu76 (repL_snoc (e := (fun y_ : (List (Int × Int)) => (D.lst (y_.map (fun y_ : (Int × Int) => (D.tup [(D.v (V.int y_.1)), (D.v (V.int y_.2))])))))) (xs := ys14) (y := ys78) hr90 h86)
        replace h_rounds := rep_put (o := .lst (vs89 ++ [(V.ref p83)])) mu76.im h_rounds
        replace hk16 := keep_put (o := .lst (vs89 ++ [(V.ref p83)])) mu76.im hk16
        replace h24 := rep_put (o := .lst (vs89 ++ [(V.ref p83)])) mu76.im h24
        replace h77 := rep_put (o := .lst (vs89 ++ [(V.ref p83)])) mu76.im h77
        replace h86 := rep_put (o := .lst (vs89 ++ [(V.ref p83)])) mu76.im h86
        replace hp := at_put (o := .lst (vs89 ++ [(V.ref p83)])) hp mu76
        replace hW := wd_put (o := .lst (vs89 ++ [(V.ref p83)])) hW mu76
        replace mu76 := mk92
        generalize upd H88 L11 (.lst (vs89 ++ [(V.ref p83)])) = H93 at *
        replace mu76 : MutO (L11 :: ms) [] H_0 H93 L11 (D.lst ((ys14 ++ [ys78]).map (fun y_ : (List (Int × Int)) => (D.lst (y_.map (fun y_ : (Int × Int) => (D.tup [(D.v (V.int y_.1)), (D.v (V.int y_.2))]))))))) := mu76
        clear mk92
        exact hN19 ys78 _ hM ⟨hW, hk16, mu76, by rw [List.length_append]; exact Nat.add_le_add_right ln18 1, hp⟩
    · skip
      rintro n13 ys94 H95 hM ⟨hW, hk16, mu17, ln18, hp⟩
      replace h_rounds := rep_keep hk16 (rep_new nl12 h_rounds)
      clear hk16 ln18
      have h96 := mo_rep_dr dr_here nm26 mu17
      replace hW := wd_dr dr_here mu17.hp hW
      replace h_rounds := rep_dr dr_here h_rounds
      clear mu17
      refine ⟨_, rfl, p_, A.c_Table, dx_, _, rfl, hp, T.cl_Table, T.na_Table__rounds, (by first | decide | simp), ?_⟩
      have z97 : putF ("_rounds" : Str) ((V.ref L11)) (List.zip ([] : List Str) ([] : List V)) = List.zip [("_rounds" : Str)] [(V.ref L11)] := putF_zip (ns := ([] : List Str)) (us := ([] : List V)) rfl (nin_of (by decide +kernel))
      replace h_rounds := rep_put (o := .ins A.c_Table dx_ (putF ("_rounds" : Str) ((V.ref L11)) (List.zip ([] : List Str) ([] : List V)))) pm_ h_rounds
      replace h96 := rep_put (o := .ins A.c_Table dx_ (putF ("_rounds" : Str) ((V.ref L11)) (List.zip ([] : List Str) ([] : List V)))) pm_ h96
      replace hK := ki_put (o := .ins A.c_Table dx_ (putF ("_rounds" : Str) ((V.ref L11)) (List.zip ([] : List Str) ([] : List V)))) hK hW
      replace hW := wd_at (p := p_) (o := .ins A.c_Table dx_ (putF ("_rounds" : Str) ((V.ref L11)) (List.zip ([] : List Str) ([] : List V)))) hW
      replace hp : upd H95 p_ (.ins A.c_Table dx_ (putF ("_rounds" : Str) ((V.ref L11)) (List.zip ([] : List Str) ([] : List V)))) p_ = some (.ins A.c_Table dx_ (putF ("_rounds" : Str) ((V.ref L11)) (List.zip ([] : List Str) ([] : List V)))) := upd_same
      generalize upd H95 p_ (.ins A.c_Table dx_ (putF ("_rounds" : Str) ((V.ref L11)) (List.zip ([] : List Str) ([] : List V)))) = H98 at *
      rw [z97] at hp
      exact hQ ys94 [(V.ref L11)] _ hM (ki_wd hK hW) hp rfl (repL_cons h96 repL_nil)
theorem make_Table_init_nlltii {ms : List Addr} {ps : List PEn} {cs : List (Addr × List V)} {H0 H : Hp} {A : Ad} {v_rounds : V} {x_rounds : (List (List (Int × Int)))} {KM : (List (List (Int × Int))) → Prop} {Q : Addr → Hp → Prop} {E : XK} (hW : Wd ms ps cs H0 H) (h_rounds : rep ms H (D.lst (x_rounds.map (fun y_ : (List (Int × Int)) => (D.lst (y_.map (fun y_ : (Int × Int) => (D.tup [(D.v (V.int y_.1)), (D.v (V.int y_.2))]))))))) v_rounds) (hM : M_Table_init_nlltii x_rounds KM)
    (k : ∀ (x : Addr) (H1 : Hp) (r : (List (List (Int × Int)))), KM r → Rx.Ext H H1 → rep ms H1 (eTable A r) (.ref x) → Q x H1) :
    ∀ x dx, H x = none → H dx = none → dx ≠ x → sp_Table_init_nlltii A (.ref x :: ([v_rounds] ++ [])) (upd (upd H dx (.own x)) x (.ins A.c_Table dx [])) (fun v H2 => v = .non ∧ Q x H2) E := by
  intro x dx nx ndx ne
  exact ⟨x :: ms, x, dx, v_rounds, x_rounds, KM, rfl, wd_new hW nx ndx, List.mem_cons_self, upd_same, mem_new nx h_rounds ndx, hM, fun r us H1 hr hK hp hl hu => ⟨rfl, k x H1 r hr (ext_new hK nx ndx) (rep_insW hW nx hp hl hu)⟩⟩
def M_Table_eq_oTablelltii (x_self : (List (List (Int × Int)))) (x_other : (List (List (Int × Int)))) (KM : Bool → Prop) : Prop :=
  (KM false)
def sp_Table_eq_oTablelltii (A : Ad) : Sp := fun vs H Q _ => ∃ (ms : List Addr) (v_self : V) (v_other : V) (x_self : (List (List (Int × Int)))) (x_other : (List (List (Int × Int)))) (KM : Bool → Prop), vs = [v_self, v_other] ∧ Wd ms [] [] H H ∧ rep ms H (eTable A x_self) v_self ∧ rep ms H (D.lst (x_other.map (fun y_ : (List (Int × Int)) => (D.lst (y_.map (fun y_ : (Int × Int) => (D.tup [(D.v (V.int y_.1)), (D.v (V.int y_.2))]))))))) v_other ∧ M_Table_eq_oTablelltii x_self x_other KM ∧ ∀ (r : Bool) (u : V) (H1 : Hp), KM r → Ret [] H H1 → rep ms H1 (D.v (V.bl r)) u → Q u H1
set_option maxHeartbeats 16000000 in
theorem ok_Table_eq_oTablelltii {P : Program} {w : World} {K : PySem.W.Frag} {mg : Str → Option Value} {base : Heap} {A : Ad} (T : Txt w K mg A) : FnOk P w K mg base CX0 1 A.a_Table_eq A.d_Table_eq ["self", "other"] (sp_Table_eq_oTablelltii A) := by
  refine T.F_Table_eq.ok sc_Table_eq (fun vs H Q E h => ?_) (fun cdv A_ outer s_ H_0 vs Q E hr h => ?_)
  · obtain ⟨ms, v_self, v_other, x_self, x_other, KM, rfl, _⟩ := h
    rfl
  · obtain ⟨ms, v_self, v_other, x_self, x_other, KM, rfl, hW, h_self, h_other, hM, hQ⟩ := h
    unfold M_Table_eq_oTablelltii at hM
    refine ⟨_, (pss_one (ps_ret (pe_and (pe_callB (call_isiK (K := K) rfl) (by rfl) T.z_isinstance (by decide +kernel) (pa_cons (pv 1) (pa_cons (pe_glob (v := .ref A.c_Table) (by rfl) T.g_Table rfl) pa_nil))) (pe_one pe_never)))), ?_⟩
    refine ⟨_, rfl, ?_⟩
    apply rep_isN2 (d := (D.lst (x_other.map (fun y_ : (List (Int × Int)) => (D.lst (y_.map (fun y_ : (Int × Int) => (D.tup [(D.v (V.int y_.1)), (D.v (V.int y_.2))])))))))) h_other (by rfl) T.in_Table
    refine ⟨_, rfl, ?_⟩
    refine iteF ?_
    exact hQ false _ _ hM hW.out rep_v
def M_Table_eq_oTables (x_self : (List (List (Int × Int)))) (x_other : Str) (KM : Bool → Prop) : Prop :=
  (KM false)
def sp_Table_eq_oTables (A : Ad) : Sp := fun vs H Q _ => ∃ (ms : List Addr) (v_self : V) (x_self : (List (List (Int × Int)))) (x_other : Str) (KM : Bool → Prop), vs = [v_self, V.str x_other] ∧ Wd ms [] [] H H ∧ rep ms H (eTable A x_self) v_self ∧ M_Table_eq_oTables x_self x_other KM ∧ ∀ (r : Bool) (u : V) (H1 : Hp), KM r → Ret [] H H1 → rep ms H1 (D.v (V.bl r)) u → Q u H1
set_option maxHeartbeats 16000000 in
theorem ok_Table_eq_oTables {P : Program} {w : World} {K : PySem.W.Frag} {mg : Str → Option Value} {base : Heap} {A : Ad} (T : Txt w K mg A) : FnOk P w K mg base CX0 1 A.a_Table_eq A.d_Table_eq ["self", "other"] (sp_Table_eq_oTables A) := by
  refine T.F_Table_eq.ok sc_Table_eq (fun vs H Q E h => ?_) (fun cdv A_ outer s_ H_0 vs Q E hr h => ?_)
  · obtain ⟨ms, v_self, x_self, x_other, KM, rfl, _⟩ := h
    rfl
  · obtain ⟨ms, v_self, x_self, x_other, KM, rfl, hW, h_self, hM, hQ⟩ := h
    unfold M_Table_eq_oTables at hM
    refine ⟨_, (pss_one (ps_ret (pe_and (pe_callB (call_isiK (K := K) rfl) (by rfl) T.z_isinstance (by decide +kernel) (pa_cons (pv 1) (pa_cons (pe_glob (v := .ref A.c_Table) (by rfl) T.g_Table rfl) pa_nil))) (pe_one pe_never)))), ?_⟩
    refine ⟨_, rfl, ?_⟩
    apply rep_isN2 (d := (D.v (V.str x_other))) (rep_v (ms := ms)) (by rfl) T.in_Table
    refine ⟨_, rfl, ?_⟩
    refine iteF ?_
    exact hQ false _ _ hM hW.out rep_v
def M_Table_eq_oTablei (x_self : (List (List (Int × Int)))) (x_other : Int) (KM : Bool → Prop) : Prop :=
  (KM false)
def sp_Table_eq_oTablei (A : Ad) : Sp := fun vs H Q _ => ∃ (ms : List Addr) (v_self : V) (x_self : (List (List (Int × Int)))) (x_other : Int) (KM : Bool → Prop), vs = [v_self, V.int x_other] ∧ Wd ms [] [] H H ∧ rep ms H (eTable A x_self) v_self ∧ M_Table_eq_oTablei x_self x_other KM ∧ ∀ (r : Bool) (u : V) (H1 : Hp), KM r → Ret [] H H1 → rep ms H1 (D.v (V.bl r)) u → Q u H1
set_option maxHeartbeats 16000000 in
theorem ok_Table_eq_oTablei {P : Program} {w : World} {K : PySem.W.Frag} {mg : Str → Option Value} {base : Heap} {A : Ad} (T : Txt w K mg A) : FnOk P w K mg base CX0 1 A.a_Table_eq A.d_Table_eq ["self", "other"] (sp_Table_eq_oTablei A) := by
  refine T.F_Table_eq.ok sc_Table_eq (fun vs H Q E h => ?_) (fun cdv A_ outer s_ H_0 vs Q E hr h => ?_)
  · obtain ⟨ms, v_self, x_self, x_other, KM, rfl, _⟩ := h
    rfl
  · obtain ⟨ms, v_self, x_self, x_other, KM, rfl, hW, h_self, hM, hQ⟩ := h
    unfold M_Table_eq_oTablei at hM
    refine ⟨_, (pss_one (ps_ret (pe_and (pe_callB (call_isiK (K := K) rfl) (by rfl) T.z_isinstance (by decide +kernel) (pa_cons (pv 1) (pa_cons (pe_glob (v := .ref A.c_Table) (by rfl) T.g_Table rfl) pa_nil))) (pe_one pe_never)))), ?_⟩
    refine ⟨_, rfl, ?_⟩
    apply rep_isN2 (d := (D.v (V.int x_other))) (rep_v (ms := ms)) (by rfl) T.in_Table
    refine ⟨_, rfl, ?_⟩
    refine iteF ?_
    exact hQ false _ _ hM hW.out rep_v
def M_named_right (x_made : (List (List (Int × Int)))) (x_days_here : (List (List (Int × Int)))) (x_many_here : Int) (KM : Bool → Prop) : Prop :=
  (M_draw (x_days_here.length : Int) fun r1 => (M_draw x_many_here fun r6 => (M_draw (x_many_here - (1 : Int)) fun r11 => (0 < x_many_here ∧ (M_Table_meetings x_made r1 fun r17 => (M_sorted x_days_here fun r23 => (0 ≤ r1 ∧ ∃ g29 : Int.toNat r1 < r23.length, ∀ x31, x31 = r23[Int.toNat r1]'g29 → (((plainD (D.lst (r17.map (fun y_ : (Int × Int) => (D.tup [(D.v (V.int y_.1)), (D.v (V.int y_.2))])))) = true ∧ plainD (D.lst (x31.map (fun y_ : (Int × Int) => (D.tup [(D.v (V.int y_.1)), (D.v (V.int y_.2))])))) = true ∧ SeqAt.shaped (pyOf (D.lst (r17.map (fun y_ : (Int × Int) => (D.tup [(D.v (V.int y_.1)), (D.v (V.int y_.2))]))))) = true ∧ SeqAt.shaped (pyOf (D.lst (x31.map (fun y_ : (Int × Int) => (D.tup [(D.v (V.int y_.1)), (D.v (V.int y_.2))]))))) = true)) ∧ (if (!(PyData.eqv (pyOf (D.lst (r17.map (fun y_ : (Int × Int) => (D.tup [(D.v (V.int y_.1)), (D.v (V.int y_.2))]))))) (pyOf (D.lst (x31.map (fun y_ : (Int × Int) => (D.tup [(D.v (V.int y_.1)), (D.v (V.int y_.2))]))))))) = true then (KM false) else (M_Table_row_of x_made r6 fun r34 => (M_row x_days_here r6 fun r39 => (if (!(decide (V.str r34 = V.str r39))) = true then (KM false) else (M_Table_met_in x_made r6 (((r6 + (1 : Int)) + r11) % x_many_here) fun r44 => (M_met x_days_here (((r6 + (1 : Int)) + r11) % x_many_here) r6 fun r49 => (((plainD (D.lst (r44.map (fun y_ : Int => (D.v (V.int y_))))) = true ∧ plainD (D.lst (r49.map (fun y_ : Int => (D.v (V.int y_))))) = true ∧ SeqAt.shaped (pyOf (D.lst (r44.map (fun y_ : Int => (D.v (V.int y_)))))) = true ∧ SeqAt.shaped (pyOf (D.lst (r49.map (fun y_ : Int => (D.v (V.int y_)))))) = true)) ∧ (KM (PyData.eqv (pyOf (D.lst (r44.map (fun y_ : Int => (D.v (V.int y_)))))) (pyOf (D.lst (r49.map (fun y_ : Int => (D.v (V.int y_)))))))))))))))))))))))
def sp_named_right (A : Ad) : Sp := fun vs H Q _ => ∃ (ms : List Addr) (ap : Addr) (v_made : V) (v_days_here : V) (x_made : (List (List (Int × Int)))) (x_days_here : (List (List (Int × Int)))) (x_many_here : Int) (KM : Bool → Prop), vs = [.ref ap, v_made, v_days_here, V.int x_many_here] ∧ Wd ms [(ap, none)] [] H H ∧ rep ms H (eTable A x_made) v_made ∧ rep ms H (D.lst (x_days_here.map (fun y_ : (List (Int × Int)) => (D.lst (y_.map (fun y_ : (Int × Int) => (D.tup [(D.v (V.int y_.1)), (D.v (V.int y_.2))]))))))) v_days_here ∧ M_named_right x_made x_days_here x_many_here KM ∧ ∀ (r : Bool) (u : V) (H1 : Hp), KM r → Ret [(ap, none)] H H1 → rep ms H1 (D.v (V.bl r)) u → Q u H1
set_option maxHeartbeats 16000000 in
theorem ok_named_right {P : Program} {w : World} {K : PySem.W.Frag} {mg : Str → Option Value} {base : Heap} {A : Ad} (T : Txt w K mg A) : FnOk P w K mg base CX0 6 A.a_named_right A.d_named_right ["_law_pot_here", "_law_made", "_law_days_here", "_law_many_here"] (sp_named_right A) := by
  refine T.F_named_right.ok sc_named_right (fun vs H Q E h => ?_) (fun cdv A_ outer s_ H_0 vs Q E hr h => ?_)
  · obtain ⟨ms, ap, v_made, v_days_here, x_made, x_days_here, x_many_here, KM, rfl, _⟩ := h
    rfl
  · obtain ⟨ms, ap, v_made, v_days_here, x_made, x_days_here, x_many_here, KM, rfl, hW, h_made, h_days_here, hM, hQ⟩ := h
    unfold M_named_right at hM
    refine ⟨_, (pss_cons (ps_par (i := 4) (j := 5) (by rfl) sc_named_right.nd rfl rfl (by decide) rfl rfl (pa_cons (pe_call (ok_draw T) (hr.mono (by decide)) (by rfl) T.g_draw T.F_draw.kp T.b_draw .nil pass0 (pa_cons (pv 0) (pa_cons (pe_callB (call_lenK (K := K) rfl) (by rfl) T.z_len PySem.boot_len (pa_cons (pv 2) pa_nil)) pa_nil))) (pa_cons (pe_call (ok_draw T) (hr.mono (by decide)) (by rfl) T.g_draw T.F_draw.kp T.b_draw .nil pass0 (pa_cons (pv 0) (pa_cons (pv 3) pa_nil))) pa_nil)) (by rfl)) (pss_cons (ps_set (i := 6) sc_named_right.nd rfl (by first | exact Or.inl rfl | exact Or.inr rfl) (pe_op op_mod (pe_op op_add (pe_op op_add (pv 5) pe_int) (pe_call (ok_draw T) (hr.mono (by decide)) (by rfl) T.g_draw T.F_draw.kp T.b_draw .nil pass0 (pa_cons (pv 0) (pa_cons (pe_op op_sub (pv 3) pe_int) pa_nil)))) (pv 3))) (pss_cons (ps_if (PW.pt (pw_or (pt_cmpR (op_neDK (K := K) rfl hr.units) (pe_methK0 (pv 1) T.cl_Table T.m_Table_meetings (ok_Table_meetings T) (hr.mono (by decide)) T.k_Table_meetings_day pass0 (pk_cons (pv 4) pk_nil)) (pe_ix (ix_listK (K := K) rfl) (pe_call (ok_sorted T) (hr.mono (by decide)) (by rfl) T.g_sorted T.F_sorted.kp T.b_sorted .nil pass0 (pa_cons (pv 2) pa_nil)) (pv 4) (fun _ _ => rfl)) (nomark _)) (pw_or1 (pt_cmpR op_ne (pe_methK0 (pv 1) T.cl_Table T.m_Table_row_of (ok_Table_row_of T) (hr.mono (by decide)) T.k_Table_row_of_team pass0 (pk_cons (pv 5) pk_nil)) (pe_call (ok_row T) (hr.mono (by decide)) (by rfl) T.g_row T.F_row.kp T.b_row .nil pass0 (pa_cons (pv 2) (pa_cons (pv 5) pa_nil))) (nomark _))))) (pss_one (ps_ret pe_bl)) pss_nil) (pss_one (ps_ret (pe_cmpR (op_eqDK (K := K) rfl hr.units) (pe_methK0 (pv 1) T.cl_Table T.m_Table_met_in (ok_Table_met_in T) (hr.mono (by decide)) T.k_Table_met_in_other_one pass0 (pk_cons (pv 6) (pk_cons (pv 5) pk_nil))) (pe_call (ok_met T) (hr.mono (by decide)) (by rfl) T.g_met T.F_met.kp T.b_met .nil pass0 (pa_cons (pv 2) (pa_cons (pv 6) (pa_cons (pv 5) pa_nil)))) (nomark _))))))), ?_⟩
    refine ⟨_, rfl, ?_⟩
    refine ⟨_, rfl, ?_⟩
    apply rep_lenL (e := (fun y_ : (List (Int × Int)) => (D.lst (y_.map (fun y_ : (Int × Int) => (D.tup [(D.v (V.int y_.1)), (D.v (V.int y_.2))])))))) (xs := x_days_here) h_days_here
    refine ⟨ms, ap, (x_days_here.length : Int), _, rfl, hW.enterP, hM, fun r1 u4 H5 hM e3 h2 => ?_⟩
    replace h_made := rep_ret hW e3 h_made
    replace h_days_here := rep_ret hW e3 h_days_here
    replace hW := hW.retP e3
    obtain rfl := of_v h2
    refine ⟨_, rfl, ?_⟩
    refine ⟨_, rfl, ?_⟩
    refine ⟨ms, ap, x_many_here, _, rfl, hW.enterP, hM, fun r6 u9 H10 hM e8 h7 => ?_⟩
    replace h_made := rep_ret hW e8 h_made
    replace h_days_here := rep_ret hW e8 h_days_here
    replace hW := hW.retP e8
    obtain rfl := of_v h7
    refine ⟨_, _, rfl, ?_⟩
    refine ⟨_, rfl, ?_⟩
    refine ⟨_, _, rfl, rfl, ?_⟩
    refine ⟨_, rfl, ?_⟩
    refine ⟨_, rfl, ?_⟩
    refine ⟨_, _, rfl, rfl, ?_⟩
    refine ⟨ms, ap, (x_many_here - (1 : Int)), _, rfl, hW.enterP, hM, fun r11 u14 H15 hM e13 h12 => ?_⟩
    replace h_made := rep_ret hW e13 h_made
    replace h_days_here := rep_ret hW e13 h_days_here
    replace hW := hW.retP e13
    obtain rfl := of_v h12
    refine ⟨_, _, rfl, rfl, ?_⟩
    refine ⟨_, rfl, ?_⟩
    obtain ⟨g16, hM⟩ := hM
    refine ⟨_, _, rfl, rfl, g16, ?_⟩
    refine ⟨_, rfl, ?_⟩
    apply rep_meth (m := "meetings") h_made (by decide +kernel)
    refine ⟨_, rfl, ?_⟩
    refine ⟨rfl, ?_⟩
    refine ⟨ms, _, x_made, r1, _, rfl, hW.enter0, h_made, hM, fun r17 u20 H21 hM e19 h18 hfr22 => ?_⟩
    replace h_made := rep_ext e19 h_made
    replace h_days_here := rep_ext e19 h_days_here
    replace hW := hW.ret0 e19
    refine ⟨_, rfl, ?_⟩
    refine ⟨ms, _, x_days_here, _, rfl, hW.enter0, h_days_here, hM, fun r23 u26 H27 hM e25 h24 => ?_⟩
    replace h_made := rep_ext e25 h_made
    replace h_days_here := rep_ext e25 h_days_here
    replace h18 := rep_ext e25 h18
    replace hW := hW.ret0 e25
    refine ⟨_, rfl, ?_⟩
    obtain ⟨g28, g29, hM⟩ := hM
    apply rep_ixL (e := (fun y_ : (List (Int × Int)) => (D.lst (y_.map (fun y_ : (Int × Int) => (D.tup [(D.v (V.int y_.1)), (D.v (V.int y_.2))])))))) (xs := r23) h24 g28 g29
    intro u32 h30
    obtain ⟨x31, x31e⟩ : ∃ x_, x_ = r23[Int.toNat r1]'g29 := ⟨_, rfl⟩
    rw [← x31e] at h30
    replace hM := hM x31 x31e
    obtain ⟨g33, hM⟩ := hM
    apply rep_neD (d := (D.lst (r17.map (fun y_ : (Int × Int) => (D.tup [(D.v (V.int y_.1)), (D.v (V.int y_.2))]))))) (e := (D.lst (x31.map (fun y_ : (Int × Int) => (D.tup [(D.v (V.int y_.1)), (D.v (V.int y_.2))]))))) h18 h30 g33.1 g33.2.1 g33.2.2.1 g33.2.2.2
    refine ⟨_, rfl, ?_⟩
    refine ite3 hM (fun hM => ?_) (fun hM => ?_)
    · skip
      refine iteT ?_
      exact hQ false _ _ hM hW.out rep_v
    · skip
      refine ⟨_, rfl, ?_⟩
      apply rep_meth (m := "row_of") h_made (by decide +kernel)
      refine ⟨_, rfl, ?_⟩
      refine ⟨rfl, ?_⟩
      refine ⟨ms, _, x_made, r6, _, rfl, hW.enter0, h_made, hM, fun r34 u37 H38 hM e36 h35 => ?_⟩
      replace h_made := rep_ext e36 h_made
      replace h_days_here := rep_ext e36 h_days_here
      replace h18 := rep_ext e36 h18
      replace h24 := rep_ext e36 h24
      replace h30 := rep_ext e36 h30
      replace hW := hW.ret0 e36
      obtain rfl := of_v h35
      refine ⟨_, rfl, ?_⟩
      refine ⟨_, rfl, ?_⟩
      refine ⟨ms, _, x_days_here, r6, _, rfl, hW.enter0, h_days_here, hM, fun r39 u42 H43 hM e41 h40 => ?_⟩
      replace h_made := rep_ext e41 h_made
      replace h_days_here := rep_ext e41 h_days_here
      replace h18 := rep_ext e41 h18
      replace h24 := rep_ext e41 h24
      replace h30 := rep_ext e41 h30
      replace hW := hW.ret0 e41
      obtain rfl := of_v h40
      refine ⟨rfl, ?_⟩
      refine ⟨_, rfl, ?_⟩
      refine ite3 hM (fun hM => ?_) (fun hM => ?_)
      · skip
        exact hQ false _ _ hM hW.out rep_v
      · skip
        refine ⟨_, rfl, ?_⟩
        apply rep_meth (m := "met_in") h_made (by decide +kernel)
        refine ⟨_, rfl, ?_⟩
        refine ⟨_, rfl, ?_⟩
        refine ⟨rfl, ?_⟩
        refine ⟨ms, _, x_made, r6, (((r6 + (1 : Int)) + r11) % x_many_here), _, rfl, hW.enter0, h_made, hM, fun r44 u47 H48 hM e46 h45 => ?_⟩
        replace h_made := rep_ext e46 h_made
        replace h_days_here := rep_ext e46 h_days_here
        replace h18 := rep_ext e46 h18
        replace h24 := rep_ext e46 h24
        replace h30 := rep_ext e46 h30
        replace hW := hW.ret0 e46
        refine ⟨_, rfl, ?_⟩
        refine ⟨_, rfl, ?_⟩
        refine ⟨_, rfl, ?_⟩
        refine ⟨ms, _, x_days_here, (((r6 + (1 : Int)) + r11) % x_many_here), r6, _, rfl, hW.enter0, h_days_here, hM, fun r49 u52 H53 hM e51 h50 => ?_⟩
        replace h_made := rep_ext e51 h_made
        replace h_days_here := rep_ext e51 h_days_here
        replace h18 := rep_ext e51 h18
        replace h24 := rep_ext e51 h24
        replace h30 := rep_ext e51 h30
        replace h45 := rep_ext e51 h45
        replace hW := hW.ret0 e51
        obtain ⟨g54, hM⟩ := hM
        apply rep_eqD (d := (D.lst (r44.map (fun y_ : Int => (D.v (V.int y_)))))) (e := (D.lst (r49.map (fun y_ : Int => (D.v (V.int y_)))))) h45 h50 g54.1 g54.2.1 g54.2.2.1 g54.2.2.2
        exact hQ (PyData.eqv (pyOf (D.lst (r44.map (fun y_ : Int => (D.v (V.int y_)))))) (pyOf (D.lst (r49.map (fun y_ : Int => (D.v (V.int y_))))))) _ _ hM hW.out rep_v
def M_right (KM : Bool → Prop) : Prop :=
  (M_many  fun r1 => (M_pick ([(1 : Int), (3 : Int), (3 : Int), (8 : Int), (51 : Int)] : List Int) fun r12 => (M_days r1 r12 fun r17 => (M_passed r17 fun r22 => (M_Table_init r22 fun r30 => (M_passed r17 fun r32 => (M_Table_init r32 fun r40 => (M_empty r22 fun r42 => (forC (fun (x47 : Int) (s49 : Unit) (k50 : Unit → Prop) => (M_is r30 r17 r1 fun r59 => (if (!r59) = true then (KM false) else (M_are_met r30 r17 r1 fun r64 => (if (!r64) = true then (KM false) else (M_Table_eq r30 r40 fun r69 => (if (!r69) = true then (KM false) else (M_Table_rounds r30 fun r74 => (M_Table_meetings r30 (0 : Int) fun r79 => (M_empty_lltii r74 fun r93 => (k50 ()))))))))))) (rangeI (0 : Int) (2 : Int)) () fun s101 => (M_near_days r17 fun r107 => (forC (fun (x117 : (List (List (Int × Int)))) (s119 : Unit) (k120 : Unit → Prop) => (M_Table_init_nlltii x117 fun r130 => (M_Table_eq r130 r30 fun r132 => (M_sorted x117 fun r137 => (M_sorted r17 fun r142 => (((plainD (D.lst (r137.map (fun y_ : (List (Int × Int)) => (D.lst (y_.map (fun y_ : (Int × Int) => (D.tup [(D.v (V.int y_.1)), (D.v (V.int y_.2))]))))))) = true ∧ plainD (D.lst (r142.map (fun y_ : (List (Int × Int)) => (D.lst (y_.map (fun y_ : (Int × Int) => (D.tup [(D.v (V.int y_.1)), (D.v (V.int y_.2))]))))))) = true ∧ SeqAt.shaped (pyOf (D.lst (r137.map (fun y_ : (List (Int × Int)) => (D.lst (y_.map (fun y_ : (Int × Int) => (D.tup [(D.v (V.int y_.1)), (D.v (V.int y_.2))])))))))) = true ∧ SeqAt.shaped (pyOf (D.lst (r142.map (fun y_ : (List (Int × Int)) => (D.lst (y_.map (fun y_ : (Int × Int) => (D.tup [(D.v (V.int y_.1)), (D.v (V.int y_.2))])))))))) = true)) ∧ (if (!(decide (V.bl r132 = V.bl (PyData.eqv (pyOf (D.lst (r137.map (fun y_ : (List (Int × Int)) => (D.lst (y_.map (fun y_ : (Int × Int) => (D.tup [(D.v (V.int y_.1)), (D.v (V.int y_.2))])))))))) (pyOf (D.lst (r142.map (fun y_ : (List (Int × Int)) => (D.lst (y_.map (fun y_ : (Int × Int) => (D.tup [(D.v (V.int y_.1)), (D.v (V.int y_.2))])))))))))))) = true then (KM false) else (k120 ())))))))) r107 () fun s148 => (M_Table_rounds r30 fun r152 => (M_Table_eq_oTablelltii r30 r152 fun r157 => (if r157 = true then (KM false) else (M_Table_repr r30 fun r162 => (M_Table_eq_oTables r30 r162 fun r167 => (if r167 = true then (KM false) else (M_Table_size r30 fun r173 => (M_Table_eq_oTablei r30 r173 fun r178 => (if r178 = true then (KM false) else (M_named_right r30 r17 r1 fun r183 => (if r183 = true then (M_is r40 r17 r1 fun r188 => (KM r188)) else (KM false)))))))))))))))))))))))
def sp_right (A : Ad) : Sp := fun vs H Q _ => ∃ (ms : List Addr) (ap : Addr) (KM : Bool → Prop), vs = [.ref ap] ∧ Wd ms [(ap, none)] [] H H ∧ M_right  KM ∧ ∀ (r : Bool) (u : V) (H1 : Hp), KM r → Ret [(ap, none)] H H1 → rep ms H1 (D.v (V.bl r)) u → Q u H1
set_option maxHeartbeats 16000000 in
theorem ok_right {P : Program} {w : World} {K : PySem.W.Frag} {mg : Str → Option Value} {base : Heap} {A : Ad} (T : Txt w K mg A) : FnG P w K mg base 7 A.a_right A.d_right ["_law_pot_here"] (sp_right A) := by
  refine okG T.F_right sc_right (fun vs H Q E h => ?_) (fun cdv A_ outer s_ H_0 vs Q E gu hr h => ?_)
  · obtain ⟨ms, ap, KM, rfl, _⟩ := h
    rfl
  · obtain ⟨ms, ap, KM, rfl, hW, hM, hQ⟩ := h
    unfold M_right at hM
    have h0p : ∀ a ∈ Rx.ad [(ap, (none : Option Str))], H_0 a ≠ none := fun a ha => hW.tr a (hW.pm a ha)
    refine ⟨_, (pss_cons (ps_set (i := 1) sc_right.nd rfl (by first | exact Or.inl rfl | exact Or.inr rfl) (pe_call (ok_many T) (hr.mono (by decide)) (by rfl) T.g_many T.F_many.kp T.b_many .nil pass0 (pa_cons (pv 0) pa_nil))) (pss_cons (ps_set (i := 2) sc_right.nd rfl (by first | exact Or.inl rfl | exact Or.inr rfl) (pe_call (ok_days T) (hr.mono (by decide)) (by rfl) T.g_days T.F_days.kp T.b_days .nil pass0 (pa_cons (pv 0) (pa_cons (pv 1) (pa_cons (pe_call (ok_pick T) (hr.mono (by decide)) (by rfl) T.g_pick T.F_pick.kp T.b_pick .nil pass0 (pa_cons (pv 0) (pa_cons (pe_lst (pa_cons pe_int (pa_cons pe_int (pa_cons pe_int (pa_cons pe_int (pa_cons pe_int pa_nil)))))) pa_nil))) pa_nil))))) (pss_cons (ps_set (i := 3) sc_right.nd rfl (by first | exact Or.inl rfl | exact Or.inr rfl) (pe_call (ok_passedB T) (hr.mono (by decide)) (by rfl) T.g_passed T.F_passed.kp T.b_passed .nil pass0 (pa_cons (pv 0) (pa_cons (pv 2) pa_nil)))) (pss_cons (ps_par (i := 4) (j := 5) (by rfl) sc_right.nd rfl rfl (by decide) rfl rfl (pa_cons (pe_make T.mk_Table (ok_Table_initB T) (hr.mono (by decide)) (by rfl) T.g_Table T.b_Table_init .nil pass0 (pa_cons (pv 3) pa_nil)) (pa_cons (pe_makeK0 T.mk_Table (ok_Table_init T) (hr.mono (by decide)) (by rfl) T.g_Table T.k_Table_init_rounds pass0 (pk_cons (pe_call (ok_passed T) (hr.mono (by decide)) (by rfl) T.g_passed T.F_passed.kp T.b_passed .nil pass0 (pa_cons (pv 0) (pa_cons (pv 2) pa_nil))) pk_nil)) pa_nil)) (by rfl)) (pss_cons (ps_expr (pe_call (ok_empty T) (hr.mono (by decide)) (by rfl) T.g_empty T.F_empty.kp T.b_empty .nil pass0 (pa_cons (pv 3) pa_nil))) (pss_cons (ps_for PassesOwn.never rfl (pi_rangeW1 (by rfl) T.z_range (pa_cons pe_int pa_nil)) (pg_name (i := 6) sc_right.nd rfl (by first | exact Or.inl rfl | exact Or.inr rfl)) (pss_cons (ps_if (PW.pt (pw_or (pt_not (pt_val (pe_callG (ok_is T) gu (hr.mono (by decide)) (by rfl) T.g_is T.F_is.kp T.b_is (pa_cons (pv 4) (pa_cons (pv 2) (pa_cons (pv 1) pa_nil)))))) (pw_or (pt_not (pt_val (pe_call (ok_are_met T) (hr.mono (by decide)) (by rfl) T.g_are_met T.F_are_met.kp T.b_are_met .nil pass0 (pa_cons (pv 4) (pa_cons (pv 2) (pa_cons (pv 1) pa_nil)))))) (pw_or1 (pt_not (pt_cmpR (op_eqOwn (ok_Table_eq T) (hr.mono (by decide)) T.oe_Table T.b_Table_eq pass0) (pv 4) (pv 5) (nomark _))))))) (pss_one (ps_ret pe_bl)) pss_nil) (pss_cons (ps_par (i := 7) (j := 8) (by rfl) sc_right.nd rfl rfl (by decide) rfl rfl (pa_cons (pe_meth0 (pv 4) T.cl_Table T.m_Table_rounds (ok_Table_roundsB T) (hr.mono (by decide)) T.b_Table_rounds .nil pass0) (pa_cons (pe_meth (pv 4) T.cl_Table T.m_Table_meetings (ok_Table_meetings T) (hr.mono (by decide)) T.b_Table_meetings .nil pass0 (pa_cons pe_int pa_nil)) pa_nil)) (by rfl)) (pss_cons (ps_expr (pe_call (ok_empty_lltii T) (hr.mono (by decide)) (by rfl) T.g_empty T.F_empty.kp T.b_empty .nil pass0 (pa_cons (pv 7) pa_nil))) (pss_one (ps_expr (pe_bmN (K := K) rfl PySem.F.plainAttrs_list PySem.F.slot_list_clear PySem.F.type_list_clear mt_clearO (pv 8)))))))) (pss_cons (ps_for PassesOwn.never rfl (pi_list (pe_call (ok_near_days T) (hr.mono (by decide)) (by rfl) T.g_near_days T.F_near_days.kp T.b_near_days .nil pass0 (pa_cons (pv 0) (pa_cons (pv 2) pa_nil)))) (pg_name (i := 8) sc_right.nd rfl (by first | exact Or.inl rfl | exact Or.inr rfl)) (pss_one (ps_if (pt_cmpR op_ne (pe_cmpR (op_eqOwn (ok_Table_eq T) (hr.mono (by decide)) T.oe_Table T.b_Table_eq pass0) (pe_make T.mk_Table (ok_Table_init_nlltii T) (hr.mono (by decide)) (by rfl) T.g_Table T.b_Table_init .nil pass0 (pa_cons (pv 8) pa_nil)) (pv 4) (nomark _)) (pe_cmpR (op_eqDK (K := K) rfl hr.units) (pe_call (ok_sorted T) (hr.mono (by decide)) (by rfl) T.g_sorted T.F_sorted.kp T.b_sorted .nil pass0 (pa_cons (pv 8) pa_nil)) (pe_call (ok_sorted T) (hr.mono (by decide)) (by rfl) T.g_sorted T.F_sorted.kp T.b_sorted .nil pass0 (pa_cons (pv 2) pa_nil)) (nomark _)) (nomark _)) (pss_one (ps_ret pe_bl)) pss_nil))) (pss_cons (ps_if (PW.pt (pw_or (pt_cmpR (op_eqOwnA (K := K) rfl (ok_Table_eq_oTablelltii T) (hr.mono (by decide)) T.oe_Table T.b_Table_eq pass0) (pv 4) (pe_meth0 (pv 4) T.cl_Table T.m_Table_rounds (ok_Table_rounds T) (hr.mono (by decide)) T.b_Table_rounds .nil pass0) (nomark _)) (pw_or (pt_cmpR (op_eqOwnA (K := K) rfl (ok_Table_eq_oTables T) (hr.mono (by decide)) T.oe_Table T.b_Table_eq pass0) (pv 4) (pe_callB (call_reprOwnG (ok_Table_repr T) gu (hr.mono (by decide)) T.ow_Table_repr T.b_Table_repr) (by rfl) T.z_repr (by decide +kernel) (pa_cons (pv 4) pa_nil)) (nomark _)) (pw_or1 (pt_cmpR (op_eqOwnA (K := K) rfl (ok_Table_eq_oTablei T) (hr.mono (by decide)) T.oe_Table T.b_Table_eq pass0) (pv 4) (pe_prop (pv 4) T.cl_Table T.p_Table_size (ok_Table_size T) (hr.mono (by decide)) T.b_Table_size .nil pass0 rfl) (nomark _)))))) (pss_one (ps_ret pe_bl)) pss_nil) (pss_one (ps_ret (pe_and (pe_call (ok_named_right T) (hr.mono (by decide)) (by rfl) T.g_named_right T.F_named_right.kp T.b_named_right .nil pass0 (pa_cons (pv 0) (pa_cons (pv 4) (pa_cons (pv 2) (pa_cons (pv 1) pa_nil))))) (pe_one (pe_callG (ok_is T) gu (hr.mono (by decide)) (by rfl) T.g_is T.F_is.kp T.b_is (pa_cons (pv 5) (pa_cons (pv 2) (pa_cons (pv 1) pa_nil)))))))))))))))), ?_⟩
    refine ⟨_, rfl, ?_⟩
    refine ⟨ms, ap, _, rfl, hW.enterP, hM, fun r1 u4 H5 hM e3 h2 => ?_⟩
    replace hW := hW.retP e3
    obtain rfl := of_v h2
    refine ⟨_, rfl, ?_⟩
    refine ⟨_, rfl, ?_⟩
    refine ⟨_, rfl, ?_⟩
    refine ⟨(by show 5 ≤ sizeLine; decide), ?_⟩
    intro p6 n10
    have e7 := Rx.Ext.new (H := H5) (o := (HO.lst [V.int (1 : Int), V.int (3 : Int), V.int (3 : Int), V.int (8 : Int), V.int (51 : Int)])) n10
    have hp8 : upd H5 p6 (HO.lst [V.int (1 : Int), V.int (3 : Int), V.int (3 : Int), V.int (8 : Int), V.int (51 : Int)]) p6 = some (HO.lst [V.int (1 : Int), V.int (3 : Int), V.int (3 : Int), V.int (8 : Int), V.int (51 : Int)]) := upd_same
    generalize upd H5 p6 (HO.lst [V.int (1 : Int), V.int (3 : Int), V.int (3 : Int), V.int (8 : Int), V.int (51 : Int)]) = H11 at e7 hp8 ⊢
    have h9 : rep ms H11 (D.lst (([(1 : Int), (3 : Int), (3 : Int), (8 : Int), (51 : Int)] : List Int).map (fun y_ : Int => (D.v (V.int y_))))) (.ref p6) := rep_lst_mk hW n10 e7 hp8 (repL_cons rep_v (repL_cons rep_v (repL_cons rep_v (repL_cons rep_v (repL_cons rep_v repL_nil)))))
    replace hW := hW.ret0 e7
    refine ⟨ms, ap, _, ([(1 : Int), (3 : Int), (3 : Int), (8 : Int), (51 : Int)] : List Int), _, rfl, hW.enterP, h9, hM, fun r12 u15 H16 hM e14 h13 => ?_⟩
    replace h9 := rep_ret hW e14 h9
    replace hW := hW.retP e14
    obtain rfl := of_v h13
    refine ⟨ms, ap, r1, r12, _, rfl, hW.enterP, hM, fun r17 u20 H21 hM e19 h18 => ?_⟩
    replace h9 := rep_ret hW e19 h9
    replace hW := hW.retP e19
    refine ⟨_, rfl, ?_⟩
    refine ⟨_, rfl, ?_⟩
    refine ⟨ms, ap, _, r17, _, rfl, hW.enterP, h18, hM, fun r22 u25 H26 hM e24 h23 f23 => ?_⟩
    obtain ⟨As, nA, ow⟩ := fr2_own f23
    have nA0 : ∀ a ∈ As, H_0 a = none := fun a m => none0 hW (nA a m)
    have nAp : ∀ a ∈ As, a ∉ Rx.ad [(ap, (none : Option Str))] := fun a m z => h0p a z (nA0 a m)
    replace h18 := rep_retA hW e24 (rep_news nA h18)
    have hpm := hW.pm
    replace hW := hW.retP e24
    have hWA := wd_news hW ow.lst
    have hpA : ∀ a ∈ Rx.ad [(ap, (none : Option Str))], a ∈ As ++ ms := hWA.pm
    clear f23 nA
    refine ⟨_, rfl, ?_⟩
    conv => whnf
    apply make_Table_initB (ms := As ++ ms) (m2 := ms) hWA in_right h23 hM
    intro p27 H31 r30 hM e29 h28
    replace h18 := rep_ext e29 h18
    replace ow := own_ext e29 ow
    clear h23 hW
    have hW := hWA.ret0 e29
    clear hWA
    refine ⟨_, rfl, ?_⟩
    refine ⟨_, rfl, ?_⟩
    refine ⟨(As ++ ms), ap, _, r17, _, rfl, hW.enterP, h18, hM, fun r32 u35 H36 hM e34 h33 => ?_⟩
    replace h18 := rep_ret hW e34 h18
    replace h28 := rep_ret hW e34 h28
    replace ow := own_ret hW nAp e34 ow
    replace hW := hW.retP e34
    refine ⟨rfl, rfl, ?_⟩
    apply make_Table_init (ms := (As ++ ms)) hW h33 hM
    intro p37 H41 r40 hM e39 h38
    replace h18 := rep_ext e39 h18
    replace h28 := rep_ext e39 h28
    replace h33 := rep_ext e39 h33
    replace ow := own_ext e39 ow
    replace hW := hW.ret0 e39
    refine ⟨_, _, rfl, ?_⟩
    refine ⟨_, rfl, ?_⟩
    refine ⟨_, As, rfl, ow, fun H46 em => ?_⟩
    unfold M_empty at hM
    replace h18 := rep_emp in_left em h18
    replace h28 := rep_emp in_left em h28
    replace h33 := rep_emp in_left em h33
    replace h38 := rep_emp in_left em h38
    replace hW := wd_emp em ow.lst nA0 h0p hW
    clear em ow
    refine ⟨_, rfl, ?_⟩
    refine for_rangeG (S := Unit) (lo := (0 : Int)) (hi := (2 : Int)) (N := Int.toNat (2 : Int)) (fun (s : Unit) σ_ h_ => ∃ (w_0 : Option V), ∃ (w_1 : Option V), ∃ (w_2 : Option V), σ_ = [some (V.ref ap), some (V.int r1), some u20, some u25, some (V.ref p27), some (V.ref p37), w_0, w_1, w_2] ∧ Wd (As ++ ms) [(ap, none)] [] H_0 h_ ∧ Keep (As ++ ms) H46 h_) () (by simp) hM ⟨_, _, _, rfl, hW, Keep.refl⟩ ?_ ?_
    · skip
      rintro x47 s49 k50 _ H58 ⟨w55, w56, w57, rfl, hW, hk51⟩ hM Nx53 hN54
      replace h18 := rep_keep hk51 h18
      replace h28 := rep_keep hk51 h28
      replace h33 := rep_keep hk51 h33
      replace h38 := rep_keep hk51 h38
      refine ⟨_, rfl, ?_⟩
      refine ⟨_, rfl, ?_⟩
      refine ⟨_, rfl, ?_⟩
      refine ⟨(As ++ ms), _, _, r30, r17, r1, _, rfl, hW.enter0, h28, h18, hM, fun r59 u62 H63 hM e61 h60 => ?_⟩
      replace h18 := rep_ext e61 h18
      replace h28 := rep_ext e61 h28
      replace h33 := rep_ext e61 h33
      replace h38 := rep_ext e61 h38
      replace hk51 := keep_ext e61 hk51
      replace hW := hW.ret0 e61
      obtain rfl := of_v h60
      refine ⟨_, rfl, ?_⟩
      refine ite3 hM (fun hM => ?_) (fun hM => ?_)
      · skip
        refine iteT ?_
        exact hQ false _ _ hM hW.out rep_v
      · skip
        refine ⟨_, rfl, ?_⟩
        refine ⟨_, rfl, ?_⟩
        refine ⟨_, rfl, ?_⟩
        refine ⟨(As ++ ms), _, _, r30, r17, r1, _, rfl, hW.enter0, h28, h18, hM, fun r64 u67 H68 hM e66 h65 => ?_⟩
        replace h18 := rep_ext e66 h18
        replace h28 := rep_ext e66 h28
        replace h33 := rep_ext e66 h33
        replace h38 := rep_ext e66 h38
        replace hk51 := keep_ext e66 hk51
        replace hW := hW.ret0 e66
        obtain rfl := of_v h65
        refine ⟨_, rfl, ?_⟩
        refine ite3 hM (fun hM => ?_) (fun hM => ?_)
        · skip
          refine iteT ?_
          exact hQ false _ _ hM hW.out rep_v
        · skip
          refine ⟨_, rfl, ?_⟩
          refine ⟨_, rfl, ?_⟩
          apply rep_eqOwn h28 h38
          refine ⟨(As ++ ms), _, _, r30, r40, _, rfl, hW.enter0, h28, h38, hM, fun r69 u72 H73 hM e71 h70 => ?_⟩
          replace h18 := rep_ext e71 h18
          replace h28 := rep_ext e71 h28
          replace h33 := rep_ext e71 h33
          replace h38 := rep_ext e71 h38
          replace hk51 := keep_ext e71 hk51
          replace hW := hW.ret0 e71
          obtain rfl := of_v h70
          refine ⟨_, rfl, ?_⟩
          refine ⟨_, rfl, ?_⟩
          refine ite3 hM (fun hM => ?_) (fun hM => ?_)
          · skip
            exact hQ false _ _ hM hW.out rep_v
          · skip
            refine ⟨_, rfl, ?_⟩
            apply rep_meth (m := "rounds") h28 (by decide +kernel)
            refine ⟨(As ++ ms), _, r30, _, rfl, hW.enter0, h28, hM, fun r74 u77 H78 hM e76 h75 f9 => ?_⟩
            obtain ⟨As2, nB, owB⟩ := fr2_own f9
            have nB0 : ∀ a ∈ As2, H_0 a = none := fun a m => none0 hW (nB a m)
            have nBk := fun a (m : a ∈ As2) => keep_none (w := hW) (nB a m) hk51
            replace h18 := rep_news nB h18
            replace h28 := rep_news nB h28
            replace h33 := rep_news nB h33
            replace h38 := rep_news nB h38
            replace hk51 := keep_news (As := As2) hk51
            replace h18 := rep_ext e76 h18
            replace h28 := rep_ext e76 h28
            replace h33 := rep_ext e76 h33
            replace h38 := rep_ext e76 h38
            replace hk51 := keep_ext e76 hk51
            replace hW := hW.ret0 e76
            replace hW := wd_news hW owB.lst
            clear f9 nB
            refine ⟨_, rfl, ?_⟩
            apply rep_meth (m := "meetings") h28 (by decide +kernel)
            refine ⟨(As2 ++ (As ++ ms)), _, r30, (0 : Int), _, rfl, hW.enter0, h28, hM, fun r79 u82 H83 hM e81 h80 hfr84 => ?_⟩
            obtain ⟨L85, vs86, rfl, nm88, hv89, hr90⟩ := rep_lstAt h80
            have nl87 := hfr84 L85 rfl
            have nLB : L85 ∉ As2 := fun m => by
              obtain ⟨xs9, k9⟩ := owB.lst _ m
              rw [nl87] at k9
              cases k9
            have kn91 := keep_none (w := hW) nl87 hk51
            have mu92 := mo_fresh (ds := r79.map (fun y_ : (Int × Int) => (D.tup [(D.v (V.int y_.1)), (D.v (V.int y_.2))]))) hW nl87 nm88 hv89 hr90 (by first | rfl | exact noMs_mapT (fun _ => rfl) _ | exact noMs_mapF (fun _ => rfl) _)
            replace h18 := rep_ext e81 (rep_new nl87 h18)
            replace h28 := rep_ext e81 (rep_new nl87 h28)
            replace h33 := rep_ext e81 (rep_new nl87 h33)
            replace h38 := rep_ext e81 (rep_new nl87 h38)
            replace hk51 := keep_ext e81 (Keep.new (l := L85) hk51)
            replace owB := own_ext e81 owB
            replace hW := wd_fresh (hW.ret0 e81) hv89
            refine ⟨_, _, rfl, ?_⟩
            refine ⟨_, rfl, ?_⟩
            refine ⟨_, As2, rfl, owB, fun H97 em => ?_⟩
            unfold M_empty_lltii at hM
            replace h18 := rep_emp in_cons em h18
            replace h28 := rep_emp in_cons em h28
            replace h33 := rep_emp in_cons em h33
            replace h38 := rep_emp in_cons em h38
            replace hk51 := keep_emp in_cons em hk51
            replace mu92 := mo_emp in_cons nLB em mu92
            replace hW := wd_emp em owB.lst nB0 h0p hW
            clear em owB
            refine ⟨_, rfl, ?_⟩
            refine ⟨mo_tyL mu92, ?_⟩
            apply mo_clearU mu92
            have mk98 := mo_setL mu92 (ds := []) repL_nil
            replace h18 := rep_put (o := .lst []) mu92.im h18
            replace h28 := rep_put (o := .lst []) mu92.im h28
            replace h33 := rep_put (o := .lst []) mu92.im h33
            replace h38 := rep_put (o := .lst []) mu92.im h38
            replace hk51 := keep_put (o := .lst []) mu92.im hk51
            replace hW := wd_put (o := .lst []) hW mu92
            replace mu92 := mk98
            generalize upd H97 L85 (.lst []) = H99 at *
            replace mu92 : MutO (L85 :: (As2 ++ (As ++ ms))) [(ap, none)] H_0 H99 L85 (D.lst (([] : (List (Int × Int))).map (fun y_ : (Int × Int) => (D.tup [(D.v (V.int y_.1)), (D.v (V.int y_.2))])))) := mu92
            clear mk98
            have h100 := mo_rep_dr dr_here nm88 mu92
            replace hW := wd_dr dr_here mu92.hp hW
            replace h18 := rep_dr dr_here h18
            replace h28 := rep_dr dr_here h28
            replace h33 := rep_dr dr_here h33
            replace h38 := rep_dr dr_here h38
            replace hk51 := keep_dr dr_here kn91 hk51
            clear mu92
            exact hN54 () _ _ hM ⟨_, _, _, rfl, wd_sub in_right hpA hW, keep_sub (fun a m => (List.mem_append.mp m).elim (fun z => .inr (nBk a z)) .inl) hk51⟩
    · skip
      rintro s101 _ H106 hM ⟨w103, w104, w105, rfl, hW, hk102⟩
      replace h18 := rep_keep hk102 h18
      replace h28 := rep_keep hk102 h28
      replace h33 := rep_keep hk102 h33
      replace h38 := rep_keep hk102 h38
      refine ⟨_, rfl, ?_⟩
      refine ⟨_, rfl, ?_⟩
      refine ⟨(As ++ ms), ap, _, r17, _, rfl, hW.enterP, h18, hM, fun r107 u110 H111 hM e109 h108 => ?_⟩
      replace h18 := rep_ret hW e109 h18
      replace h28 := rep_ret hW e109 h28
      replace h33 := rep_ret hW e109 h33
      replace h38 := rep_ret hW e109 h38
      replace hW := hW.retP e109
      apply rep_iter h108
      intro a112 xs113 _ an114 hp115 hl116
      refine for_listG (S := Unit) (items := r107) (e := (fun y_ : (List (List (Int × Int))) => (D.lst (y_.map (fun y_ : (List (Int × Int)) => (D.lst (y_.map (fun y_ : (Int × Int) => (D.tup [(D.v (V.int y_.1)), (D.v (V.int y_.2))]))))))))) (ms := (As ++ ms)) (fun (s : Unit) σ_ h_ => ∃ (w_0 : Option V), σ_ = [some (V.ref ap), some (V.int r1), some u20, some u25, some (V.ref p27), some (V.ref p37), w103, w104, w_0] ∧ Wd (As ++ ms) [(ap, none)] [] H_0 h_ ∧ Keep (As ++ ms) H111 h_) () an114 hp115 hl116 (fun _ _ _ z_ => by obtain ⟨_, _, _, q_⟩ := z_; exact q_) hM ⟨_, rfl, hW, Keep.refl⟩ ?_ ?_
      · skip
        rintro x117 u118 s119 k120 _ H126 ⟨w125, rfl, hW, hk121⟩ h122 hM Nx123 hN124
        replace h18 := rep_keep hk121 h18
        replace h28 := rep_keep hk121 h28
        replace h33 := rep_keep hk121 h33
        replace h38 := rep_keep hk121 h38
        replace h108 := rep_keep hk121 h108
        refine ⟨_, rfl, ?_⟩
        conv => whnf
        apply make_Table_init_nlltii (ms := (As ++ ms)) hW h122 hM
        intro p127 H131 r130 hM e129 h128
        replace h18 := rep_ext e129 h18
        replace h28 := rep_ext e129 h28
        replace h33 := rep_ext e129 h33
        replace h38 := rep_ext e129 h38
        replace h108 := rep_ext e129 h108
        replace hk121 := keep_ext e129 hk121
        replace h122 := rep_ext e129 h122
        replace hW := hW.ret0 e129
        refine ⟨_, rfl, ?_⟩
        apply rep_eqOwn h128 h28
        refine ⟨(As ++ ms), _, _, r130, r30, _, rfl, hW.enter0, h128, h28, hM, fun r132 u135 H136 hM e134 h133 => ?_⟩
        replace h18 := rep_ext e134 h18
        replace h28 := rep_ext e134 h28
        replace h33 := rep_ext e134 h33
        replace h38 := rep_ext e134 h38
        replace h108 := rep_ext e134 h108
        replace hk121 := keep_ext e134 hk121
        replace h122 := rep_ext e134 h122
        replace h128 := rep_ext e134 h128
        replace hW := hW.ret0 e134
        obtain rfl := of_v h133
        refine ⟨_, rfl, ?_⟩
        refine ⟨_, rfl, ?_⟩
        refine ⟨(As ++ ms), _, x117, _, rfl, hW.enter0, h122, hM, fun r137 u140 H141 hM e139 h138 => ?_⟩
        replace h18 := rep_ext e139 h18
        replace h28 := rep_ext e139 h28
        replace h33 := rep_ext e139 h33
        replace h38 := rep_ext e139 h38
        replace h108 := rep_ext e139 h108
        replace hk121 := keep_ext e139 hk121
        replace h122 := rep_ext e139 h122
        replace h128 := rep_ext e139 h128
        replace hW := hW.ret0 e139
        refine ⟨_, rfl, ?_⟩
        refine ⟨(As ++ ms), _, r17, _, rfl, hW.enter0, h18, hM, fun r142 u145 H146 hM e144 h143 => ?_⟩
        replace h18 := rep_ext e144 h18
        replace h28 := rep_ext e144 h28
        replace h33 := rep_ext e144 h33
        replace h38 := rep_ext e144 h38
        replace h108 := rep_ext e144 h108
        replace hk121 := keep_ext e144 hk121
        replace h122 := rep_ext e144 h122
        replace h128 := rep_ext e144 h128
        replace h138 := rep_ext e144 h138
        replace hW := hW.ret0 e144
        obtain ⟨g147, hM⟩ := hM
        apply rep_eqD (d := (D.lst (r137.map (fun y_ : (List (Int × Int)) => (D.lst (y_.map (fun y_ : (Int × Int) => (D.tup [(D.v (V.int y_.1)), (D.v (V.int y_.2))])))))))) (e := (D.lst (r142.map (fun y_ : (List (Int × Int)) => (D.lst (y_.map (fun y_ : (Int × Int) => (D.tup [(D.v (V.int y_.1)), (D.v (V.int y_.2))])))))))) h138 h143 g147.1 g147.2.1 g147.2.2.1 g147.2.2.2
        refine ⟨rfl, ?_⟩
        refine ⟨_, rfl, ?_⟩
        refine ite3 hM (fun hM => ?_) (fun hM => ?_)
        · skip
          exact hQ false _ _ hM hW.out rep_v
        · skip
          exact hN124 () _ _ hM ⟨_, rfl, hW, hk121⟩
      · skip
        rintro s148 _ H151 hM ⟨w150, rfl, hW, hk149⟩
        replace h18 := rep_keep hk149 h18
        replace h28 := rep_keep hk149 h28
        replace h33 := rep_keep hk149 h33
        replace h38 := rep_keep hk149 h38
        replace h108 := rep_keep hk149 h108
        refine ⟨_, rfl, ?_⟩
        refine ⟨_, rfl, ?_⟩
        apply rep_meth (m := "rounds") h28 (by decide +kernel)
        refine ⟨(As ++ ms), _, r30, _, rfl, hW.enter0, h28, hM, fun r152 u155 H156 hM e154 h153 => ?_⟩
        replace h18 := rep_ext e154 h18
        replace h28 := rep_ext e154 h28
        replace h33 := rep_ext e154 h33
        replace h38 := rep_ext e154 h38
        replace h108 := rep_ext e154 h108
        replace hW := hW.ret0 e154
        apply rep_eqOwnA h28 h153 (by rfl)
        refine ⟨(As ++ ms), _, _, r30, r152, _, rfl, hW.enter0, h28, h153, hM, fun r157 u160 H161 hM e159 h158 => ?_⟩
        replace h18 := rep_ext e159 h18
        replace h28 := rep_ext e159 h28
        replace h33 := rep_ext e159 h33
        replace h38 := rep_ext e159 h38
        replace h108 := rep_ext e159 h108
        replace h153 := rep_ext e159 h153
        replace hW := hW.ret0 e159
        obtain rfl := of_v h158
        refine ⟨_, rfl, ?_⟩
        refine ⟨_, rfl, ?_⟩
        refine ite3 hM (fun hM => ?_) (fun hM => ?_)
        · skip
          refine iteT ?_
          exact hQ false _ _ hM hW.out rep_v
        · skip
          refine ⟨_, rfl, ?_⟩
          refine ⟨_, rfl, ?_⟩
          apply rep_ownText h28
          refine ⟨(As ++ ms), _, r30, _, rfl, hW.enter0, h28, hM, fun r162 u165 H166 hM e164 h163 => ?_⟩
          replace h18 := rep_ext e164 h18
          replace h28 := rep_ext e164 h28
          replace h33 := rep_ext e164 h33
          replace h38 := rep_ext e164 h38
          replace h108 := rep_ext e164 h108
          replace h153 := rep_ext e164 h153
          replace hW := hW.ret0 e164
          obtain rfl := of_v h163
          refine ⟨_, rfl, ?_⟩
          apply rep_eqOwnA h28 (rep_v (ms := (As ++ ms))) (by rfl)
          refine ⟨(As ++ ms), _, r30, r162, _, rfl, hW.enter0, h28, hM, fun r167 u170 H171 hM e169 h168 => ?_⟩
          replace h18 := rep_ext e169 h18
          replace h28 := rep_ext e169 h28
          replace h33 := rep_ext e169 h33
          replace h38 := rep_ext e169 h38
          replace h108 := rep_ext e169 h108
          replace h153 := rep_ext e169 h153
          replace hW := hW.ret0 e169
          obtain rfl := of_v h168
          refine ⟨_, rfl, ?_⟩
          refine ⟨_, rfl, ?_⟩
          refine ite3 hM (fun hM => ?_) (fun hM => ?_)
          · skip
            refine iteT ?_
            exact hQ false _ _ hM hW.out rep_v
          · skip
            refine ⟨_, rfl, ?_⟩
            refine ⟨_, rfl, ?_⟩
            apply rep_prop h28
            intro _ h172
            refine ⟨(As ++ ms), _, r30, _, rfl, hW.enter0, h172, hM, fun r173 u176 H177 hM e175 h174 => ?_⟩
            replace h18 := rep_ext e175 h18
            replace h28 := rep_ext e175 h28
            replace h33 := rep_ext e175 h33
            replace h38 := rep_ext e175 h38
            replace h108 := rep_ext e175 h108
            replace h153 := rep_ext e175 h153
            replace hW := hW.ret0 e175
            obtain rfl := of_v h174
            apply rep_eqOwnA h28 (rep_v (ms := (As ++ ms))) (by rfl)
            refine ⟨(As ++ ms), _, r30, r173, _, rfl, hW.enter0, h28, hM, fun r178 u181 H182 hM e180 h179 => ?_⟩
            replace h18 := rep_ext e180 h18
            replace h28 := rep_ext e180 h28
            replace h33 := rep_ext e180 h33
            replace h38 := rep_ext e180 h38
            replace h108 := rep_ext e180 h108
            replace h153 := rep_ext e180 h153
            replace hW := hW.ret0 e180
            obtain rfl := of_v h179
            refine ⟨_, rfl, ?_⟩
            refine ⟨_, rfl, ?_⟩
            refine ite3 hM (fun hM => ?_) (fun hM => ?_)
            · skip
              exact hQ false _ _ hM hW.out rep_v
            · skip
              refine ⟨_, rfl, ?_⟩
              refine ⟨_, rfl, ?_⟩
              refine ⟨_, rfl, ?_⟩
              refine ⟨_, rfl, ?_⟩
              refine ⟨(As ++ ms), ap, _, _, r30, r17, r1, _, rfl, hW.enterP, h28, h18, hM, fun r183 u186 H187 hM e185 h184 => ?_⟩
              replace h18 := rep_ret hW e185 h18
              replace h28 := rep_ret hW e185 h28
              replace h33 := rep_ret hW e185 h33
              replace h38 := rep_ret hW e185 h38
              replace h108 := rep_ret hW e185 h108
              replace h153 := rep_ret hW e185 h153
              replace hW := hW.retP e185
              obtain rfl := of_v h184
              refine ⟨_, rfl, ?_⟩
              refine ite3 hM (fun hM => ?_) (fun hM => ?_)
              · skip
                refine ⟨_, rfl, ?_⟩
                refine ⟨_, rfl, ?_⟩
                refine ⟨_, rfl, ?_⟩
                refine ⟨(As ++ ms), _, _, r40, r17, r1, _, rfl, hW.enter0, h38, h18, hM, fun r188 u191 H192 hM e190 h189 => ?_⟩
                replace h18 := rep_ext e190 h18
                replace h28 := rep_ext e190 h28
                replace h33 := rep_ext e190 h33
                replace h38 := rep_ext e190 h38
                replace h108 := rep_ext e190 h108
                replace h153 := rep_ext e190 h153
                replace hW := hW.ret0 e190
                obtain rfl := of_v h189
                exact hQ r188 _ _ hM hW.out rep_v
              · skip
                exact hQ false _ _ hM hW.out rep_v
/-! ### the pot of a cell, and the law -/
def sp_pot (K : PySem.W.Frag) : Sp := fun vs H Q _ => ∃ (a : Addr) (ns : List Int) (k : Int), vs = [.ref a, .int k] ∧ SqL K H a (ns.map V.int) ∧ ns.length ≤ 63 ∧ 0 ≤ k ∧ k ≤ 100 ∧
  ∀ (p : Addr) (H1 : Hp) (i j : Int), H p = none → Rx.Ext H H1 → H1 p = some (.lst [.int i, .int j]) → j.natAbs < 4294967296 → Q (.ref p) H1
theorem ok_pot {P : Program} {w : World} {K : PySem.W.Frag} {mg : Str → Option Value} {base : Heap} {A : Ad} (T : Txt w K mg A) : FnOk P w K mg base CX0 1 A.a_pot A.d_pot ["_law_script", "_law_k"] (sp_pot K) := by
  refine T.F_pot.ok sc_pot (fun vs H Q E h => ?_) (fun cdv A_ outer s_ H_0 vs Q E hr h => ?_)
  · obtain ⟨a, ns, k, rfl, _⟩ := h
    rfl
  · obtain ⟨a, ns, k, rfl, hS, hl, k0, k1, hQ⟩ := h
    refine ⟨_, pss_cons (ps_set (i := 2) sc_pot.nd rfl (.inl rfl) (pe_op op_add (pe_op op_mul pe_int (pv 1)) pe_int))
      (pss_cons (ps_if (pt_cmpR op_lt (pv 1) (pe_callB call_len (by rfl) T.z_len PySem.boot_len (pa_cons (pv 0) pa_nil)) (nomark _))
        (pss_one (ps_set (i := 2) sc_pot.nd rfl (.inl rfl) (pe_callB call_abs (by rfl) T.z_abs (by decide +kernel) (pa_cons (pe_ix ix_list (pv 0) (pv 1) (fun _ _ => rfl)) pa_nil)))) pss_nil)
      (pss_one (ps_ret (pe_lst (pa_cons (pe_callB (call_max2 rfl) (by rfl) T.z_max (by decide +kernel) (pa_cons pe_int (pa_cons (pe_op op_sub (pv 2) (pe_op op_pow pe_int pe_int)) pa_nil)))
        (pa_cons (pe_op op_add (pe_op op_mod (pe_op op_mul (pe_callTy call_int1 (by rfl) T.z_int (by decide +kernel) (pa_cons (pe_op op_add (pe_op op_mod (pe_callTy call_int1 (by rfl) T.z_int (by decide +kernel) (pa_cons (pv 2) pa_nil)) pe_int) pe_int) pa_nil))
          (pe_op op_pow (pe_op op_add (pe_op op_mul pe_int (pv 1)) pe_int) pe_int)) pe_int) pe_int) pa_nil)))))), ?_⟩
    refine ⟨_, rfl, _, _, rfl, rfl, .inl ⟨by decide, by decide⟩, _, _, rfl, rfl, ?_⟩
    refine ⟨_, rfl, _, rfl, _, ns.length, rfl, .inl ⟨_, hS, by rw [List.length_map]⟩, _, _, rfl, rfl, _, rfl, ?_⟩
    have fin : ∀ (c : Int) (p : Addr) (x y : Int), H_0 p = none → Q (.ref p) (upd H_0 p (.lst [.int x, .int (y % 2147483477 + 1)])) := fun c p x y np =>
      hQ p _ _ _ np (Rx.Ext.new np) upd_same (by omega)
    refine ite2 (fun c => ?_) (fun c => ?_)
    · have hk : k.toNat < ns.length := by
        have := of_decide_eq_true c
        omega
      refine ⟨_, rfl, _, rfl, a, _, k, .int (ns[k.toNat]), rfl, rfl, hS, at_of (j := k.toNat) (by omega) (by rw [List.getElem?_map, List.getElem?_eq_getElem hk]; rfl), _, rfl, ?_⟩
      refine ⟨_, rfl, _, _, rfl, rfl, ⟨by decide, by decide, by decide⟩, _, _, rfl, rfl, _, _, rfl, _, rfl, .inl ⟨_, rfl, _, _, rfl, rfl, (by show (0 : Int) < 2147483549; decide), _, _, rfl, rfl, .inl ⟨_, rfl, _, rfl, _, _, rfl, rfl, .inl ⟨by decide, by decide⟩, _, _, rfl, rfl, _, _, rfl, rfl, ⟨by decide, by decide, by show (2 * k + 3).natAbs < 2 ^ 64; omega⟩, _, _, rfl, rfl, ?_, _, _, rfl, rfl, (by show (0 : Int) < 2147483477; decide), _, _, rfl, rfl, (by show 2 ≤ sizeLine; decide), fun p np => fin 0 p _ _ np⟩⟩⟩
      exact .inl ⟨by omega, by omega⟩
    · refine ⟨_, rfl, _, _, rfl, rfl, ⟨by decide, by decide, by decide⟩, _, _, rfl, rfl, _, _, rfl, _, rfl, .inl ⟨_, rfl, _, _, rfl, rfl, (by show (0 : Int) < 2147483549; decide), _, _, rfl, rfl, .inl ⟨_, rfl, _, rfl, _, _, rfl, rfl, .inl ⟨by decide, by decide⟩, _, _, rfl, rfl, _, _, rfl, rfl, ⟨by decide, by decide, by show (2 * k + 3).natAbs < 2 ^ 64; omega⟩, _, _, rfl, rfl, ?_, _, _, rfl, rfl, (by show (0 : Int) < 2147483477; decide), _, _, rfl, rfl, (by show 2 ≤ sizeLine; decide), fun p np => fin 0 p _ _ np⟩⟩⟩
      exact .inl ⟨by omega, by omega⟩

open Wm
set_option exponentiation.threshold 20000
/-! texts and comparisons -/
theorem ints_py (ns : List Int) : pyOf (D.lst (ns.map fun y => D.v (V.int y))) = .list (ns.map PyData.int) := by
  simp only [pyOf]
  congr 1
  induction ns with
  | nil => rfl
  | cons n ns ih =>
    rw [List.map_cons, List.map_cons]
    simp only [pyL, pyOf]
    rw [ih]
theorem ints_plain (ns : List Int) : plainD (D.lst (ns.map fun y => D.v (V.int y))) = true := by
  simp only [plainD]
  induction ns with
  | nil => rfl
  | cons n ns ih =>
    rw [List.map_cons]
    simp only [plainL, plainD, Bool.true_and]
    exact ih
theorem ints_shaped (ns : List Int) : SeqAt.shaped (pyOf (D.lst (ns.map fun y => D.v (V.int y)))) = true := by
  rw [ints_py]
  unfold SeqAt.shaped
  rw [Bool.and_eq_true]
  have h : ∀ ns : List Int, PyData.canLayAll0 (ns.map PyData.int) = true ∧ PyData.depthAll (ns.map PyData.int) ≤ 1 := by
    intro ns
    induction ns with
    | nil => exact ⟨rfl, by simp [PyData.depthAll]⟩
    | cons n ns ih =>
      refine ⟨?_, ?_⟩
      · rw [List.map_cons]
        simp only [PyData.canLayAll0, PyData.canLay0, Bool.true_and]
        exact ih.1
      · rw [List.map_cons]
        simp only [PyData.depthAll, PyData.depth]
        have := ih.2
        omega
  refine ⟨?_, ?_⟩
  · simp only [PyData.canLay0]
    exact (h ns).1
  · refine decide_eq_true ?_
    simp only [PyData.depth]
    have := (h ns).2
    omega
structure OkS (d : D) (k n : Nat) : Prop where
  pl : plainD d = true
  sw : (pyOf d).showable = true
  nd : (pyOf d).hasDict = false
  dp : (pyOf d).depth ≤ k
  ln : (pyOf d).shown.length ≤ n
  cl : (pyOf d).canLay0 = true
theorem OkS.rp {d : D} {k n : Nat} (h : OkS d k n) (hk : k ≤ 60) (hn : n ≤ 16777216) : plainD d = true ∧ (pyOf d).showable = true ∧ (pyOf d).hasDict = false ∧ (pyOf d).depth ≤ 60 ∧ (pyOf d).shown.length ≤ sizeLine :=
  ⟨h.pl, h.sw, h.nd, Nat.le_trans h.dp hk, by rw [sizeLine_eq]; exact Nat.le_trans h.ln hn⟩
theorem OkS.sh {d : D} {k n : Nat} (h : OkS d k n) (hk : k ≤ 60) : SeqAt.shaped (pyOf d) = true := by
  unfold SeqAt.shaped
  rw [h.cl, Bool.true_and]
  exact decide_eq_true (by have := h.dp; omega)
theorem OkS.rf {d : D} {k n : Nat} (h : OkS d k n) (hk : k ≤ 60) : PyData.eqv (pyOf d) (pyOf d) = true := SeqAt.eqv_refl _ (SeqAt.canLay_of_shaped (h.sh hk))
theorem OkS.mono {d : D} {k n k' n' : Nat} (h : OkS d k n) (hk : k ≤ k') (hn : n ≤ n') : OkS d k' n' := ⟨h.pl, h.sw, h.nd, Nat.le_trans h.dp hk, Nat.le_trans h.ln hn, h.cl⟩
theorem oks_int {i : Int} (h : i.natAbs < 2 ^ 1920) : OkS (D.v (V.int i)) 1 1921 := by
  have l : i.natAbs.log2 < 1920 := PySem.Flt.log2_lt_of (by decide) h
  refine ⟨rfl, decide_eq_true l, rfl, ?_, int_text_len_1921 l, rfl⟩
  simp [pyOf, PyData.depth]
theorem len_app (a b : Str) : (a ++ b).length = a.length + b.length := by
  rw [len_L, len_L, len_L, L_app, List.length_append]
theorem textFrom_le : ∀ {ts : List Str} {i : Nat} {acc : Str} {n : Nat}, (∀ t ∈ ts, t.length ≤ n) → (textFrom i acc ts).length ≤ acc.length + ts.length * (n + 2)
  | [], i, acc, n, _ => by
    show acc.length ≤ acc.length + 0 * (n + 2)
    omega
  | t :: ts, i, acc, n, h => by
    have h1 := h t List.mem_cons_self
    have ih := textFrom_le (ts := ts) (i := i + 1) (acc := acc ++ (if i > 0 then ", " else "" : String) ++ t) (n := n) fun t ht => h t (List.mem_cons_of_mem _ ht)
    show (textFrom (i + 1) (acc ++ (if i > 0 then ", " else "" : String) ++ t) ts).length ≤ _
    refine Nat.le_trans ih ?_
    have e : ((if i > 0 then ", " else "" : String) : Str).length ≤ 2 := by
      split <;> decide +kernel
    rw [len_app, len_app, List.length_cons, Nat.succ_mul]
    omega
theorem shownAll_len : ∀ ds : List D, (PyData.shownAll (pyL ds)).length = ds.length
  | [] => rfl
  | d :: ds => by
    simp only [pyL, PyData.shownAll, List.length_cons, shownAll_len ds]
theorem oks_all {k n : Nat} : ∀ {ds : List D}, (∀ d ∈ ds, OkS d k n) → plainL ds = true ∧ PyData.showableAll (pyL ds) = true ∧ PyData.hasDictAll (pyL ds) = false ∧ PyData.depthAll (pyL ds) ≤ k ∧ (∀ t ∈ PyData.shownAll (pyL ds), t.length ≤ n) ∧ PyData.canLayAll0 (pyL ds) = true
  | [], _ => ⟨rfl, rfl, rfl, by simp [pyL, PyData.depthAll], fun t ht => by simp [pyL, PyData.shownAll] at ht, rfl⟩
  | d :: ds, h => by
    obtain ⟨a1, a2, a3, a4, a5, a6⟩ := oks_all (ds := ds) fun e he => h e (List.mem_cons_of_mem _ he)
    have hd := h d List.mem_cons_self
    refine ⟨?_, ?_, ?_, ?_, ?_, ?_⟩
    · simp only [plainL, hd.pl, a1, Bool.and_self]
    · simp only [pyL, PyData.showableAll, hd.sw, a2, Bool.and_self]
    · simp only [pyL, PyData.hasDictAll, hd.nd, a3, Bool.or_self]
    · simp only [pyL, PyData.depthAll]
      have := hd.dp
      omega
    · intro t ht
      simp only [pyL, PyData.shownAll, List.mem_cons] at ht
      rcases ht with rfl | ht
      · exact hd.ln
      · exact a5 t ht
    · simp only [pyL, PyData.canLayAll0, hd.cl, a6, Bool.and_self]
theorem oks_lst {ds : List D} {k n m : Nat} (h : ∀ d ∈ ds, OkS d k n) (hm : ds.length ≤ m) : OkS (D.lst ds) (k + 1) (m * (n + 2) + 2) := by
  obtain ⟨a1, a2, a3, a4, a5, a6⟩ := oks_all h
  refine ⟨?_, ?_, ?_, ?_, ?_, ?_⟩
  · simp only [plainD]; exact a1
  · simp only [pyOf, PyData.showable]; exact a2
  · simp only [pyOf, PyData.hasDict]; exact a3
  · simp only [pyOf, PyData.depth]; omega
  · simp only [pyOf, PyData.shown]
    unfold listText
    rw [len_app]
    have t := textFrom_le (i := 0) (acc := "[") a5
    rw [shownAll_len] at t
    have l1 : (("[" : String) : Str).length = 1 := by decide +kernel
    have l2 : (("]" : String) : Str).length = 1 := by decide +kernel
    have : ds.length * (n + 2) ≤ m * (n + 2) := Nat.mul_le_mul_right _ hm
    first
      | omega
      | (show (textFrom 0 ("[" : Str) _).length + ("]" : Str).length ≤ _; have l3 : ("[" : Str).length = 1 := by decide +kernel; have l4 : ("]" : Str).length = 1 := by decide +kernel; omega)
  · simp only [pyOf, PyData.canLay0]; exact a6
theorem oks_map {α : Type} {e : α → D} {xs : List α} {k n m : Nat} (h : ∀ x ∈ xs, OkS (e x) k n) (hm : xs.length ≤ m) : OkS (D.lst (xs.map e)) (k + 1) (m * (n + 2) + 2) :=
  oks_lst (fun d hd => by
    obtain ⟨x, hx, rfl⟩ := List.mem_map.mp hd
    exact h x hx) (by rw [List.length_map]; exact hm)
theorem piled_le : ∀ {ts : List Str} {n : Nat}, (∀ t ∈ ts, t.length ≤ n) → piled ts ≤ ts.length * (n + 2)
  | [], n, _ => by
    rw [piled_nil]
    exact Nat.zero_le _
  | t :: ts, n, h => by
    have := piled_le (ts := ts) (n := n) fun x hx => h x (List.mem_cons_of_mem _ hx)
    have := h t List.mem_cons_self
    rw [piled_cons, List.length_cons, Nat.succ_mul]
    omega
theorem tup_text (ts : List Str) : (tupleText ts).length ≤ piled ts + 2 := by
  have e3 : (((if ts.length == 1 then ",)" else ")" : String) : Str)).length ≤ 2 := by split <;> decide +kernel
  have e1 : ((("(" : String) : Str)).length = 1 := rfl
  unfold tupleText
  rw [strLen_append, strLen_append, e1]
  by_cases h : ts = []
  · subst h
    decide +kernel
  · have := join_length_add ts h
    omega
theorem oks_tup {ds : List D} {k n m : Nat} (h : ∀ d ∈ ds, OkS d k n) (hm : ds.length ≤ m) : OkS (D.tup ds) (k + 1) (m * (n + 2) + 2) := by
  obtain ⟨a1, a2, a3, a4, a5, a6⟩ := oks_all h
  refine ⟨?_, ?_, ?_, ?_, ?_, ?_⟩
  · simp only [plainD]; exact a1
  · simp only [pyOf, PyData.showable]; exact a2
  · simp only [pyOf, PyData.hasDict]; exact a3
  · simp only [pyOf, PyData.depth]; omega
  · simp only [pyOf, PyData.shown]
    have t := tup_text (PyData.shownAll (pyL ds))
    have p := piled_le a5
    rw [shownAll_len] at p
    have : ds.length * (n + 2) ≤ m * (n + 2) := Nat.mul_le_mul_right _ hm
    omega
  · simp only [pyOf, PyData.canLay0]; exact a6
theorem line_of {z : Str} {n : Nat} (h : (L z).length ≤ n) (hn : n ≤ 100000) : z.length ≤ sizeLine := by
  rw [len_L]
  exact Nat.le_trans h (Nat.le_trans hn (by decide))
theorem draw_ok {n : Int} {k : Int → Prop} (h0 : 0 < n) (h1 : n < 1073741824) (q : ∀ d, 0 ≤ d → d < n → k d) : M_draw n k := ⟨⟨h0, h1⟩, q⟩
theorem str1 (c : Nat) : (Str.mk #[c]).length = 1 := rfl
abbrev eI (y : Int) : D := D.v (V.int y)
theorem eqv_iI : ∀ {xs ys : List Int}, PyData.eqvAll (pyL (xs.map eI)) (pyL (ys.map eI)) = decide (xs = ys)
  | [], [] => by simp [pyL, PyData.eqvAll]
  | [], y :: ys => by simp [pyL, PyData.eqvAll]
  | x :: xs, [] => by simp [pyL, PyData.eqvAll]
  | x :: xs, y :: ys => by
    simp only [List.map_cons, pyL, PyData.eqvAll, pyOf, PyData.eqv, eqv_iI]
    by_cases a : x = y <;> by_cases b : xs = ys <;> simp [a, b]
theorem eqv_int {xs ys : List Int} : PyData.eqv (pyOf (D.lst (xs.map eI))) (pyOf (D.lst (ys.map eI))) = decide (xs = ys) := by
  simp only [pyOf, PyData.eqv]
  exact eqv_iI
theorem getD_at {l : List Int} {i : Nat} (h : i < l.length) : l[i]'h = l.getD i 0 := by
  rw [List.getD_eq_getElem?_getD, List.getElem?_eq_getElem h]
  rfl
theorem same4 (a b : List Int) : plainD (D.lst (a.map (fun y_ : Int => (D.v (V.int y_))))) = true ∧ plainD (D.lst (b.map (fun y_ : Int => (D.v (V.int y_))))) = true ∧ SeqAt.shaped (pyOf (D.lst (a.map (fun y_ : Int => (D.v (V.int y_)))))) = true ∧ SeqAt.shaped (pyOf (D.lst (b.map (fun y_ : Int => (D.v (V.int y_)))))) = true :=
  ⟨ints_plain a, ints_plain b, ints_shaped a, ints_shaped b⟩
theorem eqv_t {a b : List Int} (e : a = b) : PyData.eqv (pyOf (D.lst (a.map (fun y_ : Int => (D.v (V.int y_)))))) (pyOf (D.lst (b.map (fun y_ : Int => (D.v (V.int y_)))))) = true := by
  rw [eqv_int]
  exact decide_eq_true e
theorem nI {a b : Int} (e : a = b) : ¬ (!(decide (V.int a = V.int b))) = true := by
  subst e
  simp
mutual
theorem px_of : ∀ d : D, plainD d = true → plainX d = true ∧ pyX d = pyOf d
  | .v x, h => by cases x <;> simp_all [plainD, plainX, pyX, pyOf]
  | .lst ds, h => by
    have := pxs_of ds (by simpa [plainD] using h)
    exact ⟨by simpa [plainX] using this.1, by simp [pyX, pyOf, this.2]⟩
  | .tup ds, h => by
    have := pxs_of ds (by simpa [plainD] using h)
    exact ⟨by simpa [plainX] using this.1, by simp [pyX, pyOf, this.2]⟩
  | .ins _ _ _, h => by simp [plainD] at h
  | .dct _ _, h => by simp [plainD] at h
  | .dcT _ _, h => by simp [plainD] at h
theorem pxs_of : ∀ ds : List D, plainL ds = true → plainXs ds = true ∧ pyXs ds = pyL ds
  | [], _ => ⟨rfl, rfl⟩
  | d :: ds, h => by
    simp only [plainL, Bool.and_eq_true] at h
    have a := px_of d h.1
    have b := pxs_of ds h.2
    exact ⟨by simp [plainXs, a.1, b.1], by simp [pyXs, pyL, a.2, b.2]⟩
end
theorem OkS.tx {d : D} {k n : Nat} (h : OkS d k n) (hk : k ≤ 60) (hn : n ≤ 16777216) : plainX d = true ∧ (pyX d).showable = true ∧ (pyX d).depth ≤ 60 ∧ (pyX d).shown.length ≤ sizeLine := by
  have r := h.rp hk hn
  have p := px_of d r.1
  rw [p.2]
  exact ⟨p.1, r.2.1, r.2.2.2.1, r.2.2.2.2⟩
abbrev tp (y : Int × Int) : D := D.tup [(D.v (V.int y.1)), (D.v (V.int y.2))]
theorem tps : ∀ ys : List (Int × Int), plainL (ys.map tp) = true ∧ PyData.canLayAll0 (pyL (ys.map tp)) = true ∧ PyData.depthAll (pyL (ys.map tp)) ≤ 3
  | [] => ⟨rfl, rfl, by simp [pyL, PyData.depthAll]⟩
  | y :: ys => by
    obtain ⟨a, b, c⟩ := tps ys
    refine ⟨?_, ?_, ?_⟩
    · simp only [List.map_cons, plainL, a, Bool.and_true]
      rfl
    · simp only [List.map_cons, pyL, PyData.canLayAll0, b, Bool.and_true]
      rfl
    · simp only [List.map_cons, pyL, PyData.depthAll]
      have : (pyOf (tp y)).depth ≤ 3 := by simp [pyOf, pyL, PyData.depth, PyData.depthAll]
      omega
theorem tp_sh (y : Int × Int) : SeqAt.shaped (pyOf (tp y)) = true := by
  unfold SeqAt.shaped
  have h1 : (pyOf (tp y)).canLay0 = true := rfl
  have h2 : (pyOf (tp y)).depth ≤ 3 := by simp [pyOf, pyL, PyData.depth, PyData.depthAll]
  rw [h1, Bool.true_and]
  exact decide_eq_true (by omega)
theorem tps_sh (ys : List (Int × Int)) : plainD (D.lst (ys.map tp)) = true ∧ SeqAt.shaped (pyOf (D.lst (ys.map tp))) = true := by
  obtain ⟨a, b, c⟩ := tps ys
  refine ⟨by simp only [plainD]; exact a, ?_⟩
  unfold SeqAt.shaped
  have h1 : (pyOf (D.lst (ys.map tp))).canLay0 = true := by simp only [pyOf, PyData.canLay0]; exact b
  have h2 : (pyOf (D.lst (ys.map tp))).depth ≤ 4 := by simp only [pyOf, PyData.depth]; omega
  rw [h1, Bool.true_and]
  exact decide_eq_true (by omega)
theorem in_tps {y : Int × Int} {ys : List (Int × Int)} (h : y ∈ ys) : inDv (tp y) (ys.map tp) = true := by
  unfold inDv
  induction ys with
  | nil => exact absurd h List.not_mem_nil
  | cons x xs ih =>
    simp only [List.map_cons, pyL, List.any_cons]
    rcases List.mem_cons.mp h with rfl | h
    · rw [SeqAt.eqv_refl _ (SeqAt.canLay_of_shaped (tp_sh y)), Bool.true_or]
    · rw [ih h, Bool.or_true]
theorem eqv_tp {p q : Int × Int} : PyData.eqv (pyOf (tp p)) (pyOf (tp q)) = true ↔ p = q := by
  simp only [pyOf, pyL, PyData.eqv, PyData.eqvAll, Bool.and_true, Bool.and_eq_true, beq_iff_eq]
  constructor
  · intro h
    exact Prod.ext h.1 h.2
  · rintro rfl
    exact ⟨rfl, rfl⟩
theorem inDv_tps {y : Int × Int} {ys : List (Int × Int)} : inDv (tp y) (ys.map tp) = true ↔ y ∈ ys := by
  refine ⟨fun h => ?_, in_tps⟩
  unfold inDv at h
  induction ys with
  | nil => simp [pyL] at h
  | cons x xs ih =>
    simp only [List.map_cons, pyL, List.any_cons, Bool.or_eq_true] at h
    rcases h with h | h
    · rw [eqv_tp.mp h]
      exact List.mem_cons_self
    · exact List.mem_cons_of_mem _ (ih h)
/-! the tables -/
theorem sorted_perm : ∀ {xs ys : List Int}, ys.Perm xs → xs.Pairwise (· ≤ ·) → ys.Pairwise (· ≤ ·) → ys = xs := fun {xs ys} p h1 h2 => p.eq_of_pairwise (fun a b _ _ h3 h4 => Int.le_antisymm h3 h4) h2 h1
def Al {α β : Type} (R : α → β → Prop) : List α → List β → Prop
  | [], [] => True
  | x :: xs, y :: ys => R x y ∧ Al R xs ys
  | _, _ => False
theorem mapC_rel {α β : Type} {body : α → (β → Prop) → Prop} {k : List β → Prop} (R : α → β → Prop) : ∀ {xs : List α} {acc : List β}, (∀ x ∈ xs, ∀ k' : β → Prop, (∀ y, R x y → k' y) → body x k') → (∀ ys : List β, Al R xs ys → k (acc ++ ys)) → mapC body xs acc k
  | [], acc, _, q => by
    have := q [] trivial
    rw [List.append_nil] at this
    exact this
  | x :: xs, acc, h, q => h x List.mem_cons_self _ fun y hy => mapC_rel R (fun z hz => h z (List.mem_cons_of_mem _ hz)) fun ys hl => by
    rw [List.append_assoc]
    exact q (y :: ys) ⟨hy, hl⟩
theorem al_len {α β : Type} {R : α → β → Prop} : ∀ {xs : List α} {ys : List β}, Al R xs ys → ys.length = xs.length
  | [], [], _ => rfl
  | _ :: _, _ :: _, h => congrArg Nat.succ (al_len h.2)
  | [], _ :: _, h => h.elim
  | _ :: _, [], h => h.elim
theorem al_mem {α β : Type} {R : α → β → Prop} : ∀ {xs : List α} {ys : List β}, Al R xs ys → ∀ y ∈ ys, ∃ x ∈ xs, R x y
  | [], [], _, y, h => absurd h List.not_mem_nil
  | x :: _, y :: _, h, z, hz => by
    rcases List.mem_cons.mp hz with rfl | hz
    · exact ⟨x, List.mem_cons_self, h.1⟩
    · obtain ⟨w, hw, r⟩ := al_mem h.2 z hz
      exact ⟨w, List.mem_cons_of_mem _ hw, r⟩
  | [], _ :: _, h, _, _ => h.elim
  | _ :: _, [], h, _, _ => h.elim
theorem forC_idx {α S : Type} {body : α → S → (S → Prop) → Prop} {k : S → Prop} (I : Nat → S → Prop) : ∀ {xs : List α} {n : Nat} {s0 : S}, (∀ x ∈ xs, ∀ (i : Nat) (s : S) (k' : S → Prop), I i s → (∀ s', I (i + 1) s' → k' s') → i < n + xs.length → body x s k') → I n s0 → (∀ s, I (n + xs.length) s → k s) → forC body xs s0 k
  | [], n, s0, _, i, q => q s0 i
  | x :: xs, n, s0, h, i, q => h x List.mem_cons_self n s0 _ i (fun s' i' => forC_idx I (n := n + 1) (fun y hy j s k' a b c => h y (List.mem_cons_of_mem _ hy) j s k' a b (by rw [List.length_cons]; omega)) i' fun s hs => q s (by rw [List.length_cons, Nat.add_comm xs.length, ← Nat.add_assoc]; exact hs)) (by rw [List.length_cons]; omega)
theorem pick_ok {xs : List Int} (h0 : 0 < xs.length) (h1 : xs.length < 1073741824) {k : Int → Prop} (q : ∀ x ∈ xs, k x) : M_pick xs k := by
  refine draw_ok (by omega) (by omega) fun d d0 d1 => ⟨d0, by omega, ?_⟩
  rintro _ rfl
  exact q _ (List.getElem_mem _)
theorem many_ok {k : Int → Prop} (q : ∀ n : Nat, 2 ≤ n → n ≤ 12 → k (2 * (n : Int))) : M_many k := by
  refine draw_ok (by decide) (by decide) fun d d0 d1 => pick_ok (by simp) (by simp) fun x hx => ?_
  have h : ∃ n : Nat, 2 ≤ n ∧ n ≤ 12 ∧ x = 2 * (n : Int) := by
    simp only [List.mem_cons, List.mem_nil_iff, or_false] at hx
    refine ⟨(x / 2).toNat, ?_, ?_, ?_⟩ <;> omega
  obtain ⟨n, h1, h2, rfl⟩ := h
  exact q n h1 h2
theorem er_perm {α : Type} : ∀ (l : List α) (i : Nat) (h : i < l.length), (l[i]'h :: l.eraseIdx i).Perm l
  | [], i, h => by simp at h
  | a :: l, 0, _ => List.Perm.refl _
  | a :: l, i + 1, h => by
    have ih := er_perm l i (by simpa using h)
    show ((l[i]'(by simpa using h)) :: a :: l.eraseIdx i).Perm (a :: l)
    exact (List.Perm.swap _ _ _).trans (ih.cons a)
theorem mixed_go {α : Type} {k : List α → Prop} {xs : List α} (q : ∀ ys : List α, ys.Perm xs → k ys) (hx : xs.length ≤ 1000) : ∀ (is : List Int) (rest found : List α), is.length = rest.length → (found ++ rest).Perm xs →
    forC (fun (x20 : Int) (s22 : (List α) × (List α)) (k23 : ((List α) × (List α)) → Prop) => (M_draw (s22.1.length : Int) fun r32 => ((0 ≤ r32 ∧ r32 < 2 ^ 63) ∧ ∃ y42, s22.1[Int.toNat r32]? = some y42 ∧ (s22.2.length < 16777216 ∧ (k23 ((s22.1.eraseIdx (Int.toNat r32)), (s22.2 ++ [y42]))))))) is (rest, found) fun s55 => k s55.2
  | [], rest, found, hl, p => by
    have : rest = [] := List.eq_nil_of_length_eq_zero hl.symm
    subst this
    rw [List.append_nil] at p
    exact q found p
  | i :: is, rest, found, hl, p => by
    have hp := p.length_eq
    rw [List.length_append] at hp
    rw [List.length_cons] at hl
    refine draw_ok (n := (rest.length : Int)) (by omega) (by omega) fun d d0 d1 => ⟨⟨d0, by omega⟩, rest[d.toNat]'(by omega), List.getElem?_eq_getElem _, by show found.length < _; omega, ?_⟩
    refine mixed_go q hx is (rest.eraseIdx d.toNat) (found ++ [rest[d.toNat]'(by omega)]) ?_ ?_
    · rw [List.length_eraseIdx, if_pos (by omega)]
      omega
    · refine List.Perm.trans ?_ p
      rw [List.append_assoc]
      refine List.Perm.append_left _ ?_
      exact er_perm rest d.toNat (by omega)
theorem mixed_ok {xs : List Int} {k : List Int → Prop} (hx : xs.length ≤ 1000) (q : ∀ ys : List Int, ys.Perm xs → k ys) : M_mixed xs k := by
  unfold M_mixed
  refine mixed_go q hx _ _ _ ?_ (by simp)
  rw [rangeI_len]
  simp
theorem mixedP_ok {xs : List (Int × Int)} {k : List (Int × Int) → Prop} (hx : xs.length ≤ 1000) (q : ∀ ys : List (Int × Int), ys.Perm xs → k ys) : M_mixed_pltii xs k := by
  unfold M_mixed_pltii
  refine mixed_go q hx _ _ _ ?_ (by simp)
  rw [rangeI_len]
  simp
abbrev two (y : Int × Int) : List Int := [y.1, y.2]
theorem pairs_flat : ∀ (h : Nat) (l : List Int), l.length = 2 * h → ((List.range h).map fun i => (l.getD (2 * i) 0, l.getD (2 * i + 1) 0)).flatMap two = l
  | 0, l, hl => by
    have : l = [] := List.eq_nil_of_length_eq_zero (by omega)
    subst this
    rfl
  | h + 1, a :: b :: l, hl => by
    have ih := pairs_flat h l (by simp at hl; omega)
    rw [List.range_succ_eq_map, List.map_cons, List.map_map, List.flatMap_cons]
    show [a, b] ++ _ = a :: b :: l
    have e : (List.range h).map ((fun i => ((a :: b :: l).getD (2 * i) 0, (a :: b :: l).getD (2 * i + 1) 0)) ∘ Nat.succ) = (List.range h).map fun i => (l.getD (2 * i) 0, l.getD (2 * i + 1) 0) := by
      refine List.map_congr_left fun i _ => ?_
      show ((a :: b :: l).getD (2 * (i + 1)) 0, (a :: b :: l).getD (2 * (i + 1) + 1) 0) = _
      rw [show 2 * (i + 1) = 2 * i + 1 + 1 from by omega]
      rfl
    rw [e, ih]
    rfl
  | h + 1, [], hl => by simp at hl
  | h + 1, [_], hl => by simp at hl; omega
structure DV (n : Nat) (m : List (Int × Int)) : Prop where
  len : m.length = n
  all : (m.flatMap two).Perm (rangeI 0 (2 * (n : Int)))
theorem day_ok {n : Nat} (h1 : 2 ≤ n) (h2 : n ≤ 12) {k : List (Int × Int) → Prop} (q : ∀ m, DV n m → k m) : M_day (2 * (n : Int)) k := by
  unfold M_day
  refine ⟨?_, mixed_ok (by rw [rangeI_len]; omega) fun r hr => ?_⟩
  · first | exact ⟨by omega, by omega⟩ | (unfold RgOk; omega) | (unfold RgOk; refine ⟨?_, ?_⟩ <;> omega)
  have hl := hr.length_eq
  rw [rangeI_len] at hl
  have hl2 : r.length = 2 * n := by omega
  refine ⟨by rw [rangeI_len]; omega, ?_⟩
  refine mapC_ok (fun x => (r.getD (2 * x.toNat) 0, r.getD (2 * x.toNat + 1) 0)) (fun x hx k' hk => ?_) ?_
  · have b := rangeI_mem hx
    refine ⟨by omega, by omega, ?_⟩
    rintro _ rfl
    refine ⟨by omega, by omega, ?_⟩
    rintro _ rfl
    have g1 := getD_at (l := r) (i := (2 * x).toNat) (by omega)
    have g2 := getD_at (l := r) (i := (2 * x + 1).toNat) (by omega)
    rw [g1, g2, show (2 * x).toNat = 2 * x.toNat from by omega, show (2 * x + 1).toNat = 2 * x.toNat + 1 from by omega]
    exact hk
  · rw [List.nil_append]
    have e : (rangeI 0 (2 * (n : Int) / 2)).map (fun x => (r.getD (2 * x.toNat) 0, r.getD (2 * x.toNat + 1) 0)) = (List.range n).map fun i => (r.getD (2 * i) 0, r.getD (2 * i + 1) 0) := by
      unfold rangeI
      rw [List.map_map, show (2 * (n : Int) / 2 - 0).toNat = n from by omega]
      refine List.map_congr_left fun i _ => ?_
      show (r.getD (2 * (0 + (i : Int)).toNat) 0, r.getD (2 * (0 + (i : Int)).toNat + 1) 0) = _
      rw [show (0 + (i : Int)).toNat = i from by omega]
    rw [e]
    refine q _ ⟨by simp, ?_⟩
    rw [pairs_flat n r hl2]
    exact hr
theorem turned_dv {n : Nat} : ∀ {xs ys : List (Int × Int)}, Al (fun x y => y = (x.2, x.1) ∨ y = (x.1, x.2)) xs ys → (ys.flatMap two).Perm (xs.flatMap two)
  | [], [], _ => List.Perm.refl _
  | x :: xs, y :: ys, h => by
    rw [List.flatMap_cons, List.flatMap_cons]
    refine List.Perm.append ?_ (turned_dv (n := n) h.2)
    rcases h.1 with e | e
    · rw [e]
      exact List.Perm.swap _ _ _
    · rw [e]
  | [], _ :: _, h => h.elim
  | _ :: _, [], h => h.elim
theorem days_ok {n : Nat} (h1 : 2 ≤ n) (h2 : n ≤ 12) {most : Int} (b1 : 1 ≤ most) (b2 : most ≤ 51) {k : List (List (Int × Int)) → Prop} (q : ∀ ds : List (List (Int × Int)), 0 < ds.length → ds.length ≤ 51 → (∀ d ∈ ds, DV n d) → k ds) : M_days (2 * (n : Int)) most k := by
  unfold M_days
  refine day_ok h1 h2 fun d0 hd0 => draw_ok (by omega) (by omega) fun r r0 r1 => ?_
  refine forC_idx (fun i (s : List (List (Int × Int))) => s.length = i + 1 ∧ ∀ d ∈ s, DV n d) (n := 0) (fun x hx i s k' hs hk hi => ?_) ⟨rfl, fun d hd => by rw [List.mem_singleton.mp hd]; exact hd0⟩ fun s hs => ?_
  · rw [rangeI_len] at hi
    have l := hs.1
    have add : ∀ d, DV n d → (s ++ [d]).length = i + 1 + 1 ∧ ∀ e ∈ s ++ [d], DV n e := fun d hd => ⟨by simp [l], fun e he => by
      rcases List.mem_append.mp he with z | z
      · exact hs.2 e z
      · rw [List.mem_singleton.mp z]
        exact hd⟩
    refine draw_ok (by decide) (by decide) fun w w0 w1 => ⟨by omega, ?_⟩
    refine draw_ok (by omega) (by omega) fun p p0 p1 => ⟨p0, by omega, ?_⟩
    rintro _ rfl
    have hn := hs.2 _ (List.getElem_mem (l := s) (n := p.toNat) (by omega))
    generalize s[p.toNat]'(by omega) = near at hn
    by_cases c1 : w < 2
    · rw [if_pos (by simpa using c1)]
      exact day_ok h1 h2 fun d hd => ⟨by omega, hk _ (add d hd)⟩
    rw [if_neg (by simpa using c1)]
    by_cases c2 : w = 2
    · rw [if_pos (by rw [c2]; rfl)]
      refine ⟨by have := hn.len; omega, ?_⟩
      refine mapC_rel (fun x y => y = (x.2, x.1) ∨ y = (x.1, x.2)) (fun x hx k' hk' => ?_) fun ys hy => ⟨by omega, hk _ (add _ ⟨by rw [List.nil_append, al_len hy]; exact hn.len, (turned_dv (n := n) hy).trans hn.all⟩)⟩
      refine ⟨fun y => y = (x.2, x.1) ∨ y = (x.1, x.2), draw_ok (by decide) (by decide) fun z z0 z1 => ?_, fun y hy => hk' y hy⟩
      by_cases c3 : z = 0
      · rw [if_pos (by rw [c3]; rfl)]
        exact .inl rfl
      · rw [if_neg (by rw [eqI]; simpa using c3)]
        exact .inr rfl
    · rw [if_neg (by rw [eqI]; simpa using c2)]
      exact ⟨by omega, hk _ (add _ hn)⟩
  · rw [rangeI_len] at hs
    exact q s (by have := hs.1; omega) (by have := hs.1; omega) hs.2

theorem le_anti {a b : Int × Int} (h1 : lePI a b) (h2 : lePI b a) : a = b := by
  unfold lePI at h1 h2
  exact Prod.ext (by omega) (by omega)
theorem srt_uniq {xs ys zs : List (Int × Int)} (p : ys.Perm xs) (q : zs.Perm xs) (h1 : ys.Pairwise lePI) (h2 : zs.Pairwise lePI) : ys = zs := (p.trans q.symm).eq_of_pairwise (fun a b _ _ h3 h4 => le_anti h3 h4) h1 h2
abbrev TB (ds tb : List (List (Int × Int))) : Prop := Al (fun d t => t.Perm d ∧ t.Pairwise lePI) ds tb
abbrev PE (ds es : List (List (Int × Int))) : Prop := Al (fun d e => e.Perm d) ds es
theorem tb_uniq : ∀ {ds a b : List (List (Int × Int))}, TB ds a → TB ds b → a = b
  | [], [], [], _, _ => rfl
  | d :: ds, x :: a, y :: b, h, g => by rw [srt_uniq h.1.1 g.1.1 h.1.2 g.1.2, tb_uniq h.2 g.2]
  | [], _ :: _, _, h, _ => h.elim
  | [], _, _ :: _, _, g => g.elim
  | _ :: _, [], _, h, _ => h.elim
  | _ :: _, _, [], _, g => g.elim
theorem tb_pe : ∀ {ds es tb : List (List (Int × Int))}, PE ds es → TB es tb → TB ds tb
  | [], [], [], _, _ => trivial
  | d :: ds, e :: es, t :: tb, h, g => ⟨⟨g.1.1.trans h.1, g.1.2⟩, tb_pe h.2 g.2⟩
  | [], [], _ :: _, _, g => g.elim
  | [], _ :: _, _, h, _ => h.elim
  | _ :: _, [], _, h, _ => h.elim
  | _ :: _, _ :: _, [], _, g => g.elim
theorem tb_to : ∀ {ds tb : List (List (Int × Int))}, TB ds tb → PE ds tb
  | [], [], _ => trivial
  | d :: ds, t :: tb, h => ⟨h.1.1, tb_to h.2⟩
  | [], _ :: _, h => h.elim
  | _ :: _, [], h => h.elim
structure OKD (n : Nat) (ds : List (List (Int × Int))) : Prop where
  n1 : 2 ≤ n
  n2 : n ≤ 12
  pos : 0 < ds.length
  len : ds.length ≤ 60
  dv : ∀ d ∈ ds, DV n d
theorem OKD.pe {n : Nat} {ds es : List (List (Int × Int))} (h : OKD n ds) (p : PE ds es) : OKD n es := by
  have l := al_len p
  refine ⟨h.n1, h.n2, by rw [l]; exact h.pos, by rw [l]; exact h.len, fun e he => ?_⟩
  obtain ⟨d, hd, q⟩ := al_mem p e he
  have hv := h.dv d hd
  exact ⟨by rw [q.length_eq]; exact hv.len, (q.flatMap_right two).trans hv.all⟩
theorem OKD.tb {n : Nat} {ds tb : List (List (Int × Int))} (h : OKD n ds) (p : TB ds tb) : OKD n tb := h.pe (tb_to p)
theorem al_map {α β γ : Type} {R : α → β → Prop} {f : γ → β} : ∀ {xs : List α} {ys : List γ}, Al (fun x y => R x (f y)) xs ys → Al R xs (ys.map f)
  | [], [], _ => trivial
  | _ :: _, _ :: _, h => ⟨h.1, al_map h.2⟩
  | [], _ :: _, h => h.elim
  | _ :: _, [], h => h.elim
theorem forC_al {α β : Type} {body : α → List β → (List β → Prop) → Prop} {k : List β → Prop} (R : α → β → Prop) : ∀ {xs : List α} {s0 : List β}, (∀ x ∈ xs, ∀ (s : List β) (k' : List β → Prop), s.length < s0.length + xs.length → (∀ y, R x y → k' (s ++ [y])) → body x s k') → (∀ ys, Al R xs ys → k (s0 ++ ys)) → forC body xs s0 k
  | [], s0, _, q => by
    have := q [] trivial
    rw [List.append_nil] at this
    exact this
  | x :: xs, s0, h, q => h x List.mem_cons_self s0 _ (by rw [List.length_cons]; omega) fun y hy => forC_al R (s0 := s0 ++ [y]) (fun z hz s k' hl hk => h z (List.mem_cons_of_mem _ hz) s k' (by rw [List.length_append, List.length_singleton] at hl; rw [List.length_cons]; omega) hk) fun ys ha => by
    rw [List.append_assoc]
    exact q (y :: ys) ⟨hy, ha⟩
theorem passed_ok {n : Nat} {ds : List (List (Int × Int))} (h : OKD n ds) {k : (Bool × List (Bool × List (Int × Int))) → Prop} (q : ∀ b xs, PE ds (xs.map (·.2)) → k (b, xs)) : M_passed ds k := by
  have l := h.len
  have n2 := h.n2
  refine forC_al (fun d (e : Bool × List (Int × Int)) => e.2.Perm d) (fun d hd s k' hl hk => ?_) fun ys hy => ?_
  · have dl := (h.dv d hd).len
    refine mixedP_ok (by omega) fun r hr => ⟨fun z => z.2 = r, draw_ok (by decide) (by decide) fun e e0 e1 => ?_, fun z hz => ⟨by simp only [List.length_nil] at hl; omega, hk z (by rw [hz]; exact hr)⟩⟩
    by_cases c : e = 0
    · rw [if_pos (by rw [c]; rfl)]
    · rw [if_neg (by rw [eqI]; simpa using c)]
  · rw [List.nil_append]
    refine ⟨fun z => z.2 = ys, draw_ok (by decide) (by decide) fun e e0 e1 => ?_, fun z hz => ?_⟩
    · by_cases c : e = 0
      · rw [if_pos (by rw [c]; rfl)]
      · rw [if_neg (by rw [eqI]; simpa using c)]
    · obtain ⟨b, xs⟩ := z
      cases hz
      exact q b _ (al_map hy)
/-! making a table -/
theorem range_sorted (lo hi : Int) : (rangeI lo hi).Pairwise (· ≤ ·) := by
  unfold rangeI
  refine List.pairwise_map.mpr ?_
  refine List.Pairwise.imp ?_ (List.pairwise_lt_range)
  intro a b h
  omega
theorem is_meeting_ok (p : Int × Int) {k : Bool → Prop} (q : k true) : M_is_meeting p k := by
  unfold M_is_meeting M_is_integer
  rw [if_pos (by decide)]
  show (if (!false) = true then _ else _)
  rw [if_pos (by decide)]
  exact q
theorem is_round_ok {n : Nat} (h1 : 2 ≤ n) (h2 : n ≤ 12) {m : List (Int × Int)} (h : DV n m) {k : Bool → Prop} (q : k true) : M_is_round_ltii m k := by
  have hl := h.len
  unfold M_is_round_ltii M_is_list_ltii
  show (if (!true) = true then _ else _)
  rw [if_neg (by decide), if_neg (by simp only [decide_eq_true_eq]; omega), if_neg (by simp only [decide_eq_true_eq]; omega)]
  refine ⟨by omega, ?_⟩
  refine mapC_ok (fun _ => true) (fun x hx k' hk => is_meeting_ok x hk) ?_
  have al : List.all ([] ++ m.map fun _ => true) id = true := by
    rw [List.nil_append, List.all_eq_true]
    intro x hx
    obtain ⟨y, _, rfl⟩ := List.mem_map.mp hx
    rfl
  rw [al, if_neg (by decide)]
  have fl := h.all.length_eq
  rw [rangeI_len] at fl
  refine ⟨by show (m.flatMap two).length ≤ _; omega, fun ys hp hs => ⟨?_, same4 _ _, ?_⟩⟩
  · first | exact ⟨by omega, by omega⟩ | (unfold RgOk; omega) | (unfold RgOk; refine ⟨?_, ?_⟩ <;> omega)
  · have hp2 : ys.Perm (rangeI 0 (2 * (m.length : Int))) := by
      rw [hl]
      exact (show ys.Perm (m.flatMap two) from hp).trans h.all
    rw [eqv_t (sorted_perm hp2 (range_sorted _ _) hs)]
    exact q
theorem is_roundS_ok {n : Nat} (h1 : 2 ≤ n) (h2 : n ≤ 12) {m : Bool × List (Int × Int)} (h : DV n m.2) {k : Bool → Prop} (q : k true) : M_is_round m k := is_round_ok (m := m.2) h1 h2 h q
theorem rounds_ok {n : Nat} {ds : List (List (Int × Int))} (h : OKD n ds) {k : Unit → Prop} (q : k ()) : M_check_rounds_lltii ds k := by
  have h1 := h.n1
  have h2 := h.n2
  have d0 := h.pos
  have d1 := h.len
  unfold M_check_rounds_lltii M_is_list_lltii
  show (if (!true) = true then _ else _)
  rw [if_neg (by decide), if_neg (by rw [eqI]; simp only [decide_eq_true_eq]; omega)]
  refine forC_ok (fun _ => True) (fun x hx s k' _ hk => ?_) trivial fun s _ => ?_
  · have hx2 := h.dv x.2 (List.of_mem_zip hx).2
    refine is_round_ok h1 h2 hx2 ?_
    rw [if_neg (by decide)]
    refine ⟨by decide, d0, ?_⟩
    rintro _ rfl
    have h0 := h.dv _ (List.getElem_mem (l := ds) (n := Int.toNat 0) d0)
    rw [if_neg (nI (by rw [hx2.len, h0.len]))]
    exact hk _ trivial
  · rw [if_neg (by simp only [decide_eq_true_eq]; omega)]
    exact q
theorem roundsS_ok {n : Nat} {b : Bool} {ds : List (Bool × List (Int × Int))} (h : OKD n (ds.map (·.2))) {k : Unit → Prop} (q : k ()) : M_check_rounds (b, ds) k := by
  have h1 := h.n1
  have h2 := h.n2
  have d0 := h.pos
  have d1 := h.len
  rw [List.length_map] at d0 d1
  unfold M_check_rounds M_is_list
  show (if (!true) = true then _ else _)
  rw [if_neg (by decide), if_neg (by rw [eqI]; simp only [decide_eq_true_eq]; omega)]
  refine forC_ok (fun _ => True) (fun x hx s k' _ hk => ?_) trivial fun s _ => ?_
  · have hx2 := h.dv x.2.2 (List.mem_map_of_mem (List.of_mem_zip hx).2)
    refine is_roundS_ok h1 h2 hx2 ?_
    rw [if_neg (by decide)]
    refine ⟨by decide, d0, ?_⟩
    rintro _ rfl
    have h0 := h.dv _ (List.mem_map_of_mem (List.getElem_mem (l := ds) (n := Int.toNat 0) d0))
    rw [if_neg (nI (by rw [hx2.len, h0.len]))]
    exact hk _ trivial
  · rw [if_neg (by simp only [decide_eq_true_eq]; omega)]
    exact q
theorem sorted_in {n : Nat} {x : List (Int × Int)} (h1 : n ≤ 12) (h : DV n x) {k' : List (Int × Int) → Prop} (hk : ∀ y, (y.Perm x ∧ y.Pairwise lePI) → k' y) : x.length < 100000 ∧ mapC (fun (x44 : (Int × Int)) (k37 : (Int × Int) → Prop) => (k37 (x44.1, x44.2))) x [] fun ys74 => (∀ ys78 : List (Int × Int), ys78.Perm ys74 → ys78.Pairwise lePI → (k' ys78)) := by
  have := h.len
  refine ⟨by omega, ?_⟩
  refine mapC_ok (fun p => p) (fun p hp k'' hk'' => hk'') ?_
  rw [List.nil_append, List.map_id']
  exact fun ys hp hs => hk ys ⟨hp, hs⟩
theorem tinit_ok {n : Nat} {ds : List (List (Int × Int))} (h : OKD n ds) {k : List (List (Int × Int)) → Prop} (q : ∀ t, TB ds t → k t) : M_Table_init_nlltii ds k := by
  have d1 := h.len
  unfold M_Table_init_nlltii
  refine rounds_ok h ⟨by omega, ?_⟩
  refine mapC_rel (fun x y => y.Perm x ∧ y.Pairwise lePI) (fun x hx k' hk => sorted_in h.n2 (h.dv x hx) hk) fun ys hy => ?_
  rw [List.nil_append]
  exact q ys hy
theorem al_unmap {α β γ : Type} {R : α → β → Prop} {f : γ → α} : ∀ {xs : List γ} {ys : List β}, Al (fun x y => R (f x) y) xs ys → Al R (xs.map f) ys
  | [], [], _ => trivial
  | _ :: _, _ :: _, h => ⟨h.1, al_unmap h.2⟩
  | [], _ :: _, h => h.elim
  | _ :: _, [], h => h.elim
theorem tinitS_ok {n : Nat} {b : Bool} {ds : List (Bool × List (Int × Int))} (h : OKD n (ds.map (·.2))) {k : List (List (Int × Int)) → Prop} (q : ∀ t, TB (ds.map (·.2)) t → k t) : M_Table_init (b, ds) k := by
  have d1 := h.len
  rw [List.length_map] at d1
  unfold M_Table_init
  refine roundsS_ok h ⟨by show ds.length < _; omega, ?_⟩
  refine mapC_rel (fun x y => y.Perm x.2 ∧ y.Pairwise lePI) (fun x hx k' hk => sorted_in h.n2 (h.dv x.2 (List.mem_map_of_mem hx)) hk) fun ys hy => ?_
  rw [List.nil_append]
  exact q ys (al_unmap hy)
theorem sorted_ok {n : Nat} {ds : List (List (Int × Int))} (h : OKD n ds) {k : List (List (Int × Int)) → Prop} (q : ∀ t, TB ds t → k t) : M_sorted ds k := by
  have d1 := h.len
  unfold M_sorted
  refine ⟨by omega, ?_⟩
  refine mapC_rel (fun x y => y.Perm x ∧ y.Pairwise lePI) (fun x hx k' hk => sorted_in h.n2 (h.dv x hx) hk) fun ys hy => ?_
  rw [List.nil_append]
  exact q ys hy
theorem sorted_tb {n : Nat} {ds tb : List (List (Int × Int))} (h : OKD n ds) (t : TB ds tb) {k : List (List (Int × Int)) → Prop} (q : k tb) : M_sorted ds k := sorted_ok h fun t' ht => by rw [tb_uniq ht t]; exact q
/-! turning -/
def turn (some : List (Int × Int)) (p : Int × Int) : Int × Int := if p ∈ some then (p.2, p.1) else p
abbrev trn (ds : List (List (Int × Int))) (some : List (Int × Int)) : List (List (Int × Int)) := ds.map fun d => d.map (turn some)
theorem conds (p : Int × Int) (xs : List (Int × Int)) : plainD (tp p) = true ∧ plainD (D.lst (xs.map tp)) = true ∧ SeqAt.shaped (pyOf (tp p)) = true ∧ SeqAt.shaped (pyOf (D.lst (xs.map tp))) = true := ⟨rfl, (tps_sh xs).1, tp_sh p, (tps_sh xs).2⟩
theorem turned_ok {n : Nat} {ds : List (List (Int × Int))} {some : List (Int × Int)} (h : OKD n ds) {k : List (List (Int × Int)) → Prop} (q : k (trn ds some)) : M_turned ds some k := by
  have d1 := h.len
  have n2 := h.n2
  unfold M_turned
  refine ⟨by omega, ?_⟩
  refine mapC_ok (fun d => d.map (turn some)) (fun x hx k' hk => ?_) (by rw [List.nil_append]; exact q)
  have := (h.dv x hx).len
  refine ⟨by omega, ?_⟩
  refine mapC_ok (turn some) (fun p hp k'' hk'' => ⟨fun z => z = turn some p, ⟨conds p some, ?_⟩, fun z hz => by rw [hz]; exact hk''⟩) (by rw [List.nil_append]; exact hk)
  unfold turn
  by_cases c : p ∈ some
  · rw [if_pos (inDv_tps.mpr c), if_pos c]
  · rw [if_neg (fun z => c (inDv_tps.mp z)), if_neg c]
theorem two_turn (some : List (Int × Int)) : ∀ d : List (Int × Int), ((d.map (turn some)).flatMap two).Perm (d.flatMap two)
  | [] => List.Perm.refl _
  | p :: d => by
    rw [List.map_cons, List.flatMap_cons, List.flatMap_cons]
    refine List.Perm.append ?_ (two_turn some d)
    unfold turn
    split
    · exact List.Perm.swap _ _ _
    · exact List.Perm.refl _
theorem OKD.trn {n : Nat} {ds : List (List (Int × Int))} (h : OKD n ds) (some : List (Int × Int)) : OKD n (trn ds some) := by
  refine ⟨h.n1, h.n2, by rw [List.length_map]; exact h.pos, by rw [List.length_map]; exact h.len, fun d hd => ?_⟩
  obtain ⟨e, he, rfl⟩ := List.mem_map.mp hd
  have hv := h.dv e he
  exact ⟨by rw [List.length_map]; exact hv.len, (two_turn some e).trans hv.all⟩
theorem rounds_get {n : Nat} {tb : List (List (Int × Int))} (h : OKD n tb) {k : List (List (Int × Int)) → Prop} (q : k tb) : M_Table_rounds tb k := by
  have d1 := h.len
  unfold M_Table_rounds
  refine ⟨by omega, ?_⟩
  refine mapC_ok (fun p => p) (fun p hp k'' hk'' => hk'') ?_
  rw [List.nil_append, List.map_id']
  exact q
/-! what a table tells -/
theorem DV.bd {n : Nat} {d : List (Int × Int)} (h : DV n d) {p : Int × Int} (hp : p ∈ d) : (0 ≤ p.1 ∧ p.1 < 2 * (n : Int)) ∧ (0 ≤ p.2 ∧ p.2 < 2 * (n : Int)) := by
  have m : ∀ x ∈ two p, 0 ≤ x ∧ x < 2 * (n : Int) := fun x hx => rangeI_mem (h.all.mem_iff.mp (List.mem_flatMap.mpr ⟨p, hp, hx⟩))
  exact ⟨m _ (by simp), m _ (by simp)⟩
theorem oks_tp {n : Nat} {d : List (Int × Int)} (n2 : n ≤ 12) (h : DV n d) {p : Int × Int} (hp : p ∈ d) : OkS (tp p) 2 3848 := by
  have b := h.bd hp
  have pw : (24 : Nat) < 2 ^ 1920 := Nat.lt_of_lt_of_le (show 24 < 2 ^ 5 by decide) (Nat.pow_le_pow_right (by decide) (by decide))
  refine oks_tup (k := 1) (n := 1921) (m := 2) (fun e he => ?_) (by simp)
  simp only [List.mem_cons, List.not_mem_nil, or_false] at he
  rcases he with rfl | rfl
  · exact oks_int (by omega)
  · exact oks_int (by omega)
abbrev eD (y_ : List (Int × Int)) : D := D.lst (y_.map tp)
theorem oks_E {n : Nat} {tb : List (List (Int × Int))} (h : OKD n tb) : OkS (D.lst (tb.map eD)) 4 2772242 :=
  oks_map (k := 3) (n := 46202) (m := 60) (fun d hd => oks_map (k := 2) (n := 3848) (m := 12) (fun p hp => oks_tp h.n2 (h.dv d hd) hp) (by rw [(h.dv d hd).len]; exact h.n2)) h.len
theorem oks_4 {n : Nat} {tb : List (List (Int × Int))} (h : OKD n tb) {a b : Int} (ha : a.natAbs < 100) (hb : b.natAbs < 100) : OkS (D.lst (([(D.v (V.int a)), (D.v (V.int b)), D.lst (tb.map eD), D.lst (tb.map eD)] : List D).map (fun y_ : D => y_))) 5 11088978 := by
  have pw : (100 : Nat) < 2 ^ 1920 := Nat.lt_of_lt_of_le (show 100 < 2 ^ 7 by decide) (Nat.pow_le_pow_right (by decide) (by decide))
  rw [List.map_id']
  refine oks_lst (k := 4) (n := 2772242) (m := 4) (fun e he => ?_) (by simp)
  simp only [List.mem_cons, List.not_mem_nil, or_false] at he
  rcases he with rfl | rfl | rfl | rfl
  · exact (oks_int (by omega)).mono (by decide) (by decide)
  · exact (oks_int (by omega)).mono (by decide) (by decide)
  · exact oks_E h
  · exact oks_E h
theorem dec_s (s : Str) : (!(decide (V.str s = V.str s))) = false := by simp
theorem size_ok {n : Nat} {tb : List (List (Int × Int))} (h : OKD n tb) {k : Int → Prop} (q : k (2 * (n : Int))) : M_Table_size tb k := by
  have d0 := h.pos
  refine ⟨by decide, d0, ?_⟩
  rintro _ rfl
  have h0 := h.dv _ (List.getElem_mem (l := tb) (n := Int.toNat 0) d0)
  rw [h0.len]
  exact q
theorem get_tb (tb : List (List (Int × Int))) : (rangeI 0 (tb.length : Int)).map (fun x => tb.getD x.toNat []) = tb := by
  unfold rangeI
  rw [List.map_map]
  refine List.ext_getElem (by simp) fun i h1 h2 => ?_
  rw [List.getElem_map, List.getElem_range]
  show tb.getD (0 + (i : Int)).toNat [] = _
  rw [show (0 + (i : Int)).toNat = i by omega, List.getD_eq_getElem?_getD, List.getElem?_eq_getElem h2]
  rfl
theorem meet_ok {n : Nat} {tb : List (List (Int × Int))} (h : OKD n tb) {x : Int} (x0 : 0 ≤ x) (x1 : x < (tb.length : Int)) {k : List (Int × Int) → Prop} (q : k (tb.getD x.toNat [])) : M_Table_meetings tb x k := by
  unfold M_Table_meetings M_check_day M_is_count M_is_integer
  show (if (!false) = true then (if (!(decide (0 ≤ x))) = true then _ else _) else _)
  rw [if_pos (by decide), decide_eq_true x0, if_neg (by decide), if_neg (by simp only [decide_eq_true_eq]; omega)]
  refine ⟨x0, by omega, ?_⟩
  rintro _ rfl
  have e : tb[x.toNat]'(by omega) = tb.getD x.toNat [] := by
    rw [List.getD_eq_getElem?_getD, List.getElem?_eq_getElem (by omega)]
    rfl
  rw [e]
  exact q
def mk (x : Int) (d : List (Int × Int)) : Str := if x ∈ d.map (·.1) then ("h" : Str) else ("a" : Str)
abbrev rowS (ds : List (List (Int × Int))) (x : Int) : Str := Txt.join ("" : Str) (ds.map (mk x))
theorem mk_len (x : Int) (d : List (Int × Int)) : (mk x d).length = 1 := by
  unfold mk
  split
  · rw [h_mk]; exact str1 _
  · rw [a_mk]; exact str1 _
theorem mk_sum (x : Int) : ∀ ds : List (List (Int × Int)), ((ds.map (mk x)).map (·.length)).sum = ds.length
  | [] => rfl
  | d :: ds => by
    rw [List.map_cons, List.map_cons, List.sum_cons, mk_sum x ds, mk_len, List.length_cons]
    omega
theorem join_cond {n : Nat} {ds : List (List (Int × Int))} (h : OKD n ds) (x : Int) : ((ds.map (mk x)).map (·.length)).sum + (ds.map (mk x)).length * ("" : Str).length ≤ 16777216 := by
  have := h.len
  rw [mk_sum, show ("" : Str).length = 0 from rfl, Nat.mul_zero]
  omega
theorem mk_perm {x : Int} {d e : List (Int × Int)} (p : e.Perm d) : mk x e = mk x d := by
  unfold mk
  by_cases c : x ∈ d.map (·.1)
  · rw [if_pos c, if_pos ((p.map (·.1)).mem_iff.mpr c)]
  · rw [if_neg c, if_neg fun z => c ((p.map (·.1)).mem_iff.mp z)]
theorem pe_mk {x : Int} : ∀ {ds es : List (List (Int × Int))}, PE ds es → es.map (mk x) = ds.map (mk x)
  | [], [], _ => rfl
  | _ :: _, _ :: _, h => by rw [List.map_cons, List.map_cons, mk_perm h.1, pe_mk h.2]
  | [], _ :: _, h => h.elim
  | _ :: _, [], h => h.elim
theorem mark_ok {n : Nat} {d : List (Int × Int)} (n2 : n ≤ 12) (h : DV n d) {x : Int} {k : Str → Prop} (q : k (mk x d)) : ∃ KB23 : Str → Prop, (d.length < 100000 ∧ mapC (fun (x42 : (Int × Int)) (k35 : Int → Prop) => (k35 x42.1)) d [] fun ys67 => (if (inV (V.int x) (ys67.map V.int)) = true then (KB23 ("h" : Str)) else (KB23 ("a" : Str)))) ∧ ∀ r71 : Str, KB23 r71 → (k r71) := by
  have := h.len
  refine ⟨fun z => z = mk x d, ⟨by omega, ?_⟩, fun z hz => by rw [hz]; exact q⟩
  refine mapC_ok (fun p => p.1) (fun p hp k' hk => hk) ?_
  rw [List.nil_append]
  unfold mk
  by_cases c : x ∈ d.map (·.1)
  · rw [if_pos (inV_int.mpr c), if_pos c]
  · rw [if_neg (fun z => c (inV_int.mp z)), if_neg c]
theorem team_ok {n : Nat} {t : Int} (t0 : 0 ≤ t) (t1 : t < 2 * (n : Int)) {k : Unit → Prop} (q : k ()) : M_check_team t (2 * (n : Int)) k := by
  unfold M_check_team M_is_count M_is_integer
  show (if (!false) = true then (if (!(decide (0 ≤ t))) = true then _ else _) else _)
  rw [if_pos (by decide), decide_eq_true t0, if_neg (by decide), if_neg (by simp only [decide_eq_true_eq]; omega)]
  exact q
theorem row_of_ok {n : Nat} {tb : List (List (Int × Int))} (h : OKD n tb) {t : Int} (t0 : 0 ≤ t) (t1 : t < 2 * (n : Int)) {k : Str → Prop} (q : k (rowS tb t)) : M_Table_row_of tb t k := by
  have d1 := h.len
  unfold M_Table_row_of
  refine size_ok h (team_ok t0 t1 ⟨by omega, ?_⟩)
  refine mapC_ok (mk t) (fun x hx k' hk => mark_ok h.n2 (h.dv x hx) hk) ?_
  rw [List.nil_append]
  exact ⟨join_cond h t, q⟩
theorem row_ok {n : Nat} {ds : List (List (Int × Int))} (h : OKD n ds) {t : Int} {k : Str → Prop} (q : k (rowS ds t)) : M_row ds t k := by
  have d1 := h.len
  unfold M_row
  refine ⟨by omega, ?_⟩
  refine mapC_ok (mk t) (fun x hx k' hk => mark_ok h.n2 (h.dv x hx) hk) ?_
  rw [List.nil_append]
  exact ⟨join_cond h t, q⟩
theorem strOk_mk {s : Str} (h : ∀ c ∈ L s, c = 104 ∨ c = 97) : PyData.strOk s = true := by
  unfold PyData.strOk
  rw [Array.all_eq_true']
  intro c hc
  have := h c (by simpa [L] using hc)
  simp only [decide_eq_true_eq]
  omega
theorem row_st (x : Int) (ds : List (List (Int × Int))) : PyData.strOk (rowS ds x) = true := strOk_mk fun c hc => by
  rw [join_L, List.map_map] at hc
  obtain ⟨l, hl, hc⟩ := List.mem_flatten.mp hc
  obtain ⟨d, hd, rfl⟩ := List.mem_map.mp hl
  have hc : c ∈ L (mk x d) := hc
  unfold mk at hc
  split at hc
  · rw [L_h] at hc
    exact .inl (List.mem_singleton.mp hc)
  · rw [L_a] at hc
    exact .inr (List.mem_singleton.mp hc)
theorem strs_sh (ns : List Str) (hn : ∀ s ∈ ns, PyData.strOk s = true) : plainD (D.lst (ns.map fun y => D.v (V.str y))) = true ∧ SeqAt.shaped (pyOf (D.lst (ns.map fun y => D.v (V.str y)))) = true := by
  have h : ∀ ns : List Str, (∀ s ∈ ns, PyData.strOk s = true) → plainL (ns.map fun y => D.v (V.str y)) = true ∧ PyData.canLayAll0 (pyL (ns.map fun y => D.v (V.str y))) = true ∧ PyData.depthAll (pyL (ns.map fun y => D.v (V.str y))) ≤ 1 := by
    intro ns
    induction ns with
    | nil => intro _; exact ⟨rfl, rfl, by simp [pyL, PyData.depthAll]⟩
    | cons n ns ih =>
      intro hn
      have h1 := hn n List.mem_cons_self
      obtain ⟨a, b, c⟩ := ih fun s hs => hn s (List.mem_cons_of_mem _ hs)
      refine ⟨?_, ?_, ?_⟩
      · rw [List.map_cons]
        simp only [plainL, plainD, Bool.true_and]
        exact a
      · rw [List.map_cons]
        simp only [pyL, PyData.canLayAll0, pyOf, PyData.canLay0, h1, Bool.true_and]
        exact b
      · rw [List.map_cons]
        simp only [pyL, PyData.depthAll, pyOf, PyData.depth]
        omega
  obtain ⟨a, b, c⟩ := h ns hn
  refine ⟨by simp only [plainD]; exact a, ?_⟩
  unfold SeqAt.shaped
  have h1 : (pyOf (D.lst (ns.map fun y => D.v (V.str y)))).canLay0 = true := by simp only [pyOf, PyData.canLay0]; exact b
  have h2 : (pyOf (D.lst (ns.map fun y => D.v (V.str y)))).depth ≤ 4 := by simp only [pyOf, PyData.depth]; omega
  rw [h1, Bool.true_and]
  exact decide_eq_true (by omega)
theorem eqv_self {d : D} (h : SeqAt.shaped (pyOf d) = true) : PyData.eqv (pyOf d) (pyOf d) = true := SeqAt.eqv_refl _ (SeqAt.canLay_of_shaped h)
theorem e_tab : (Str.empty ++ ("Table(" : Str)) = ("Table(" : Str) := by decide +kernel
theorem repr_ok {n : Nat} {tb : List (List (Int × Int))} (h : OKD n tb) {k : Str → Prop} (q : k ((("Table(" : Str) ++ (pyOf (D.lst (tb.map eD))).shown) ++ (")" : Str))) : M_Table_repr tb k := by
  have o := oks_E h
  have l := o.ln
  have l1 : ("Table(" : Str).length = 6 := by decide +kernel
  have l2 : (")" : Str).length = 1 := by decide +kernel
  unfold M_Table_repr
  rw [e_tab]
  refine ⟨by rw [sizeLine_eq]; omega, o.rp (by decide) (by decide), ?_, ?_, q⟩
  · rw [len_app, sizeLine_eq, l1]; exact Nat.le_trans (Nat.add_le_add_left l 6) (by decide)
  · rw [len_app, len_app, sizeLine_eq, l1, l2]; exact Nat.le_trans (Nat.add_le_add_right (Nat.add_le_add_left l 6) 1) (by decide)
theorem is_ok {n : Nat} {ds tb : List (List (Int × Int))} (h : OKD n ds) (t : TB ds tb) {k : Bool → Prop} (q : k true) : M_is tb ds (2 * (n : Int)) k := by
  have g := h.tb t
  have l := al_len t
  have d1 := h.len
  have n2 := h.n2
  have o := oks_E g
  have l1 : ("Table(" : Str).length = 6 := by decide +kernel
  have l2 : (")" : Str).length = 1 := by decide +kernel
  have o4 := oks_4 (a := 2 * (n : Int)) (b := (ds.length : Int)) g (by omega) (by omega)
  unfold M_is M_Table_len
  refine size_ok g ⟨by omega, rounds_get g ⟨by rw [rangeI_len]; omega, ?_⟩⟩
  refine mapC_ok (fun x => tb.getD x.toNat []) (fun x hx k' hk => meet_ok g (rangeI_mem hx).1 (by have := (rangeI_mem hx).2; omega) hk) ?_
  rw [List.nil_append, ← l, get_tb, l]
  refine ⟨o4.tx (by decide) (by decide), sorted_tb h t (sorted_tb h t ⟨o4.tx (by decide) (by decide), ?_⟩)⟩
  rw [dec_s, if_neg (by decide)]
  refine repr_ok g (sorted_tb h t ⟨o.rp (by decide) (by decide), ?_, ?_, ?_⟩)
  · have := o.ln; rw [sizeLine_eq]; exact Nat.le_trans (show _ ≤ 6 + 2772242 by exact Nat.add_le_add (Nat.le_of_eq l1) this) (by decide)
  · rw [len_app, sizeLine_eq]; have := o.ln; exact Nat.le_trans (show _ ≤ 6 + 2772242 + 1 by exact Nat.add_le_add (Nat.add_le_add (Nat.le_of_eq l1) this) (Nat.le_of_eq l2)) (by decide)
  · rw [dec_s, if_neg (by decide)]
    refine ⟨by rw [rangeI_len]; omega, ?_⟩
    refine mapC_ok (rowS tb) (fun x hx k' hk => row_of_ok g (rangeI_mem hx).1 (rangeI_mem hx).2 hk) ?_
    refine ⟨by rw [rangeI_len]; omega, ?_⟩
    refine mapC_ok (rowS tb) (fun x hx k' hk => row_ok h (by have e := pe_mk (x := x) (tb_to t); show k' (Txt.join "" (ds.map (mk x))); rw [← e]; exact hk)) ?_
    rw [List.nil_append]
    have s := strs_sh ((rangeI 0 (2 * (n : Int))).map (rowS tb)) fun s hs => by
      obtain ⟨x, _, rfl⟩ := List.mem_map.mp hs
      exact row_st x tb
    refine ⟨⟨s.1, s.1, s.2, s.2⟩, ?_⟩
    rw [eqv_self s.2]
    exact q
/-! meetings -/
abbrev gm (a b : Int) (x : Int × List (Int × Int)) : Option Int := if (a, b) ∈ x.2 ∨ (b, a) ∈ x.2 then some x.1 else none
theorem gm_al {a b : Int} : ∀ {is : List Int} {u v : List (List (Int × Int))}, Al (fun x y => ((a, b) ∈ x ∨ (b, a) ∈ x) ↔ ((b, a) ∈ y ∨ (a, b) ∈ y)) u v → (is.zip u).filterMap (gm a b) = (is.zip v).filterMap (gm b a)
  | [], u, v, _ => rfl
  | i :: is, [], [], _ => rfl
  | i :: is, x :: u, y :: v, h => by
    have ih := gm_al (is := is) h.2
    rw [List.zip_cons_cons, List.zip_cons_cons]
    by_cases c : (a, b) ∈ x ∨ (b, a) ∈ x
    · rw [List.filterMap_cons_some (show gm a b (i, x) = some i from if_pos c), List.filterMap_cons_some (show gm b a (i, y) = some i from if_pos (h.1.mp c)), ih]
    · rw [List.filterMap_cons_none (show gm a b (i, x) = none from if_neg c), List.filterMap_cons_none (show gm b a (i, y) = none from if_neg fun z => c (h.1.mpr z)), ih]
  | _ :: _, [], _ :: _, h => h.elim
  | _ :: _, _ :: _, [], h => h.elim
theorem met_ok {n : Nat} {tb : List (List (Int × Int))} (h : OKD n tb) {a b : Int} (a0 : 0 ≤ a ∧ a < 2 * (n : Int)) (b0 : 0 ≤ b ∧ b < 2 * (n : Int)) (ne : a ≠ b) {k : List Int → Prop} (q : k (((rangeI 0 (tb.length : Int)).zip tb).filterMap (gm a b))) : M_Table_met_in tb a b k := by
  have d1 := h.len
  unfold M_Table_met_in M_check_pair
  refine size_ok h (team_ok a0.1 a0.2 (team_ok b0.1 b0.2 ?_))
  rw [eqI, if_neg (by simpa using ne)]
  refine ⟨by rw [List.length_zip, rangeI_len]; omega, ?_⟩
  refine filC_ok (gm a b) (fun x hx k' hk => ⟨conds (a, b) x.2, ?_⟩) (by rw [List.nil_append]; exact q)
  by_cases c : (a, b) ∈ x.2
  · rw [if_pos (show inDv (tp (a, b)) (x.2.map tp) = true from inDv_tps.mpr c)]
    have e : gm a b x = some x.1 := if_pos (.inl c)
    rw [e] at hk
    exact hk
  · rw [if_neg (show ¬ inDv (tp (a, b)) (x.2.map tp) = true from fun z => c (inDv_tps.mp z))]
    refine ⟨conds (b, a) x.2, ?_⟩
    by_cases d : (b, a) ∈ x.2
    · rw [if_pos (show inDv (tp (b, a)) (x.2.map tp) = true from inDv_tps.mpr d)]
      have e : gm a b x = some x.1 := if_pos (.inr d)
      rw [e] at hk
      exact hk
    · rw [if_neg (show ¬ inDv (tp (b, a)) (x.2.map tp) = true from fun z => d (inDv_tps.mp z))]
      have e : gm a b x = none := if_neg fun z => z.elim c d
      rw [e] at hk
      exact hk
theorem eD4 {n m : Nat} {u v : List (List (Int × Int))} (h : OKD n u) (g : OKD m v) : plainD (D.lst (u.map eD)) = true ∧ plainD (D.lst (v.map eD)) = true ∧ SeqAt.shaped (pyOf (D.lst (u.map eD))) = true ∧ SeqAt.shaped (pyOf (D.lst (v.map eD))) = true :=
  ⟨(oks_E h).pl, (oks_E g).pl, (oks_E h).sh (by decide), (oks_E g).sh (by decide)⟩
/-! rounds that are these, or nearly these -/
theorem cut_takeM {α : Type} (xs : List α) (k : Nat) : cutM xs none (some (k : Int)) = xs.take k := by
  unfold cutM
  rw [HT.sIx_none, HT.sIx_nat, List.drop_zero]
  show List.take (min k xs.length - 0) xs = _
  rw [Nat.sub_zero]
  by_cases c : k ≤ xs.length
  · rw [Nat.min_eq_left c]
  · rw [Nat.min_eq_right (by omega), List.take_length, List.take_of_length_le (by omega)]
theorem DV.nd {n : Nat} {d : List (Int × Int)} (h : DV n d) : (d.flatMap two).Nodup := by
  refine h.all.nodup_iff.mpr ?_
  unfold rangeI
  refine List.Pairwise.map _ ?_ List.nodup_range
  intro a b hab z
  omega
theorem turn_nodup {d : List (Int × Int)} (h : (d.flatMap two).Nodup) : d.Nodup := by
  induction d with
  | nil => exact List.nodup_nil
  | cons p d ih =>
    have nd : (p.1 :: p.2 :: d.flatMap two).Nodup := h
    rw [List.nodup_cons, List.nodup_cons] at nd
    refine List.nodup_cons.mpr ⟨fun z => nd.1 (List.mem_cons_of_mem _ (List.mem_flatMap.mpr ⟨p, z, by simp⟩)), ih nd.2.2⟩
theorem fe_ (d s : List (Int × Int)) : d.filterMap (fun p => if p ∈ s then none else some p) = d.filter (fun p => decide (¬ p ∈ s)) := by
  induction d with
  | nil => rfl
  | cons x d ih =>
    by_cases c : x ∈ s
    · rw [List.filterMap_cons, List.filter_cons_of_neg (by simpa using c), ih]
      simp [c]
    · rw [List.filterMap_cons, List.filter_cons_of_pos (by simpa using c), ih]
      simp [c]
theorem at_nat' {α : Type} {xs : List α} {i : Int} {c : α} (h0 : 0 ≤ i) (h : xs[i.toNat]? = some c) : atI xs i = some c := by
  rw [show i = ((i.toNat : Nat) : Int) by omega]
  exact atI_nat h
theorem cut_dropM {α : Type} (xs : List α) {k : Int} (h : 0 ≤ k) : cutM xs (some k) none = xs.drop k.toNat := by
  obtain ⟨n, rfl⟩ := Int.eq_ofNat_of_zero_le h
  unfold cutM
  rw [HT.sIx_none, HT.sIx_nat, Int.toNat_natCast]
  by_cases c : n ≤ xs.length
  · rw [Nat.min_eq_left c, List.take_of_length_le (by rw [List.length_drop]; omega)]
  · rw [Nat.min_eq_right (by omega), Nat.sub_self, List.take_zero, List.drop_of_length_le (by omega)]
theorem atI_last {α : Type} (i : List α) (x : α) : atI (i ++ [x]) (-1) = some x := by
  unfold atI
  have e : ixN (i ++ [x]).length (-1) = some i.length := by
    unfold ixN
    simp
    omega
  rw [e]
  simp
theorem itn {c a b : Prop} [Decidable c] (h : ¬ c) (q : b) : if c then a else b := by rw [if_neg h]; exact q
theorem itp {c a b : Prop} [Decidable c] (h : c) (q : a) : if c then a else b := by rw [if_pos h]; exact q
theorem sz {n : Nat} (h : n ≤ 1000) : n ≤ sizeLine := by rw [sizeLine_eq]; omega
theorem at_prev {α : Type} {xs : List α} (h2 : 2 ≤ xs.length) (nd : xs.Nodup) {r : Int} (r0 : 0 ≤ r) (r1 : r < (xs.length : Int)) :
    ∃ a b, atI xs (r - 1) = some a ∧ atI xs r = some b ∧ a ∈ xs ∧ b ∈ xs ∧ a ≠ b := by
  have lt : r.toNat < xs.length := by omega
  have hb : atI xs r = some (xs[r.toNat]'lt) := at_nat' r0 (List.getElem?_eq_getElem lt)
  have pw := List.pairwise_iff_getElem.mp nd
  by_cases c : r = 0
  · have ne : xs ≠ [] := fun z => by rw [z] at h2; simp at h2
    have e : xs = xs.dropLast ++ [xs.getLast ne] := (List.dropLast_concat_getLast ne).symm
    have hl : xs.getLast ne = xs[xs.length - 1]'(by omega) := List.getLast_eq_getElem ne
    refine ⟨xs.getLast ne, _, ?_, hb, List.getLast_mem ne, List.getElem_mem lt, fun z => ?_⟩
    · rw [c]
      conv => lhs; rw [e]
      exact atI_last _ _
    · refine pw r.toNat (xs.length - 1) lt (by omega) (by omega) ?_
      rw [← hl]
      exact z.symm
  · have l2 : (r - 1).toNat < xs.length := by omega
    refine ⟨xs[(r - 1).toNat]'l2, _, at_nat' (by omega) (List.getElem?_eq_getElem l2), hb, List.getElem_mem l2, List.getElem_mem lt, fun z => ?_⟩
    exact pw (r - 1).toNat r.toNat l2 lt (by omega) z
theorem two_rest {d : List (Int × Int)} (nd : d.Nodup) {a b : Int × Int} (ha : a ∈ d) (hb : b ∈ d) (ne : a ≠ b) : (d.filter (fun q => decide (¬ q ∈ [a, b])) ++ [a, b]).Perm d := by
  have h1 : (d.filter (fun q => decide (q ∈ [a, b]))).Perm [a, b] := by
    refine (List.perm_ext_iff_of_nodup (nd.filter _) (by simp [ne])).mpr fun q => ?_
    rw [List.mem_filter, decide_eq_true_eq]
    refine ⟨fun z => z.2, fun z => ⟨?_, z⟩⟩
    simp only [List.mem_cons, List.not_mem_nil, or_false] at z
    rcases z with z | z
    · rw [z]; exact ha
    · rw [z]; exact hb
  have h2 := List.filter_append_perm (fun q => decide (q ∈ [a, b])) d
  have e : (d.filter fun q => !decide (q ∈ [a, b])) = d.filter fun q => decide (¬ q ∈ [a, b]) := by
    refine List.filter_congr fun q _ => ?_
    by_cases c : q ∈ [a, b]
    · rw [decide_eq_true c, decide_eq_false (fun z => z c)]; rfl
    · rw [decide_eq_false c, decide_eq_true c]; rfl
  rw [e] at h2
  exact (List.perm_append_comm.trans (List.Perm.append_right _ h1.symm)).trans h2
theorem DV.crossed {n : Nat} {d : List (Int × Int)} (h : DV n d) {a b : Int × Int} (ha : a ∈ d) (hb : b ∈ d) (ne : a ≠ b) : DV n (d.filter (fun q => decide (¬ q ∈ [a, b])) ++ [(a.1, b.1), (a.2, b.2)]) := by
  have p := two_rest (turn_nodup h.nd) ha hb ne
  have l := p.length_eq
  rw [List.length_append] at l
  refine ⟨by rw [List.length_append]; exact l.trans h.len, ?_⟩
  refine List.Perm.trans ?_ ((p.flatMap_right two).trans h.all)
  rw [List.flatMap_append, List.flatMap_append]
  refine List.Perm.append_left _ ?_
  show [a.1, b.1, a.2, b.2].Perm [a.1, a.2, b.1, b.2]
  exact List.Perm.cons _ (List.Perm.swap _ _ _)
theorem OKD.one {n : Nat} {ds : List (List (Int × Int))} (h : OKD n ds) {d : List (Int × Int)} (hd : DV n d) : OKD n [d] := ⟨h.n1, h.n2, by simp, by simp, fun e he => by rw [List.mem_singleton.mp he]; exact hd⟩
theorem put_okd {n : Nat} {ds : List (List (Int × Int))} (h : OKD n ds) {r : Nat} (hr : r < ds.length) {x : List (Int × Int)} (hx : DV n x) : OKD n ((ds.take r ++ [x]) ++ ds.drop (r + 1)) := by
  have d1 := h.len
  refine ⟨h.n1, h.n2, by simp only [List.length_append, List.length_take, List.length_drop, List.length_cons, List.length_nil]; omega, by simp only [List.length_append, List.length_take, List.length_drop, List.length_cons, List.length_nil]; omega, fun e he => ?_⟩
  rcases List.mem_append.mp he with z | z
  · rcases List.mem_append.mp z with z | z
    · exact h.dv e (List.mem_of_mem_take z)
    · rw [List.mem_singleton.mp z]; exact hx
  · exact h.dv e (List.mem_of_mem_drop z)
theorem cut_okd {n : Nat} {ds : List (List (Int × Int))} (h : OKD n ds) {r : Nat} (hr : r < ds.length) (h1 : 1 < ds.length) : OKD n (ds.take r ++ ds.drop (r + 1)) := by
  have d1 := h.len
  refine ⟨h.n1, h.n2, by simp only [List.length_append, List.length_take, List.length_drop]; omega, by simp only [List.length_append, List.length_take, List.length_drop]; omega, fun e he => ?_⟩
  rcases List.mem_append.mp he with z | z
  · exact h.dv e (List.mem_of_mem_take z)
  · exact h.dv e (List.mem_of_mem_drop z)
theorem two_in (x a b : Int × Int) : plainD (tp x) = true ∧ plainD (D.tup [tp a, tp b]) = true ∧ SeqAt.shaped (pyOf (tp x)) = true ∧ SeqAt.shaped (pyOf (D.tup [tp a, tp b])) = true := by
  refine ⟨rfl, rfl, tp_sh x, ?_⟩
  unfold SeqAt.shaped
  have h1 : (pyOf (D.tup [tp a, tp b])).canLay0 = true := rfl
  have h2 : (pyOf (D.tup [tp a, tp b])).depth ≤ 4 := by simp [pyOf, pyL, PyData.depth, PyData.depthAll]
  rw [h1, Bool.true_and]
  exact decide_eq_true (by omega)
theorem near_ok {n : Nat} {ds : List (List (Int × Int))} (h : OKD n ds) (hl : ds.length ≤ 51) {k : List (List (List (Int × Int))) → Prop} (q : ∀ es : List (List (List (Int × Int))), (∀ e ∈ es, OKD n e) → k es) : M_near_days ds k := by
  have d0 := h.pos
  have n1 := h.n1
  have n2 := h.n2
  unfold M_near_days
  refine draw_ok (by omega) (by omega) fun r r0 r1 => ?_
  have lt : r.toNat < ds.length := by omega
  refine ⟨ds[r.toNat]'lt, at_nat' r0 (List.getElem?_eq_getElem lt), ?_⟩
  have hx := h.dv _ (List.getElem_mem lt)
  generalize ds[r.toNat]'lt = x at hx
  have lx := hx.len
  have e1 : cutM ds none (some r) = ds.take r.toNat := by
    have z := cut_takeM ds r.toNat
    rwa [Int.toNat_of_nonneg r0] at z
  have e2 : cutM ds (some (r + 1)) none = ds.drop (r.toNat + 1) := by
    rw [cut_dropM ds (by omega), show (r + 1).toNat = r.toNat + 1 by omega]
  have lT : (ds.take r.toNat).length ≤ 51 := by rw [List.length_take]; omega
  have lD : (ds.drop (r.toNat + 1)).length ≤ 51 := by rw [List.length_drop]; omega
  have pt := fun {y : List (Int × Int)} (hy : DV n y) => put_okd h lt hy
  have ct := cut_okd h lt
  rw [e1, e2]
  generalize ds.take r.toNat = T at lT pt ct ⊢
  generalize ds.drop (r.toNat + 1) = B at lD pt ct ⊢
  refine draw_ok (by omega) (by omega) fun s s0 s1 => ⟨sz (by simp only [List.length_cons, List.length_nil]; omega), ?_⟩
  obtain ⟨a, b, ha, hb, ma, mb, ne⟩ := at_prev (by omega) (turn_nodup hx.nd) s0 s1
  refine ⟨b, hb, turned_ok (h.one hx) ?_⟩
  have hz : DV n (x.map (turn [b])) := ((h.one hx).trn [b]).dv _ List.mem_cons_self
  have l1 : ∀ (y : List (Int × Int)), T.length + [y].length ≤ sizeLine := fun y => sz (by simp only [List.length_cons, List.length_nil]; omega)
  have l2 : ∀ (y : List (Int × Int)), (T ++ [y]).length + B.length ≤ sizeLine := fun y => sz (by simp only [List.length_append, List.length_cons, List.length_nil]; omega)
  refine ⟨l1 _, l2 _, mixedP_ok (by omega) fun m hm => ⟨l1 _, l2 _, by simp, a, ha, b, hb, by omega, ?_⟩⟩
  have hmx : DV n m := ⟨by rw [hm.length_eq]; exact lx, (hm.flatMap_right two).trans hx.all⟩
  refine filC_ok (fun p => if p ∈ [a, b] then none else some p) (fun p hp k' hk' => ⟨two_in p a b, ?_⟩) ?_
  · by_cases c : p ∈ [a, b]
    · have e : inDv (tp p) [tp a, tp b] = true := inDv_tps (ys := [a, b]).mpr c
      rw [e]
      rw [if_pos c] at hk'
      exact itn (by decide) hk'
    · have e : inDv (tp p) [tp a, tp b] = false := by
        rw [Bool.eq_false_iff]
        exact fun z => c (inDv_tps (ys := [a, b]).mp z)
      rw [e]
      rw [if_neg c] at hk'
      exact itp (by decide) hk'
  rw [List.nil_append, fe_]
  have hc := hx.crossed ma mb ne
  have lc : (x.filter (fun q => decide (¬ q ∈ [a, b]))).length ≤ 12 := by
    have := List.length_filter_le (fun q => decide (¬ q ∈ [a, b])) x
    omega
  generalize x.filter (fun q => decide (¬ q ∈ [a, b])) = f at hc lc ⊢
  have okr : OKD n ds.reverse := ⟨h.n1, h.n2, by rw [List.length_reverse]; exact d0, by rw [List.length_reverse]; exact h.len, fun e he => h.dv e (List.mem_reverse.mp he)⟩
  have oka : OKD n (ds ++ [x]) := ⟨h.n1, h.n2, by simp, by rw [List.length_append]; simp only [List.length_cons, List.length_nil]; omega, fun e he => by
    rcases List.mem_append.mp he with z | z
    · exact h.dv e z
    · rw [List.mem_singleton.mp z]; exact hx⟩
  have okt : OKD n ((T ++ trn [x] [b]) ++ B) := pt hz
  have base : ∀ e ∈ (([ds.reverse, ds ++ [x], (T ++ trn [x] [b]) ++ B] : List (List (List (Int × Int)))) ++ [(T ++ [m]) ++ B]) ++ [(T ++ [f ++ [(a.1, b.1), (a.2, b.2)]]) ++ B], OKD n e := by
    intro e he
    simp only [List.mem_append, List.mem_cons, List.not_mem_nil, or_false] at he
    rcases he with ((z | z | z) | z) | z <;> rw [z]
    · exact okr
    · exact oka
    · exact okt
    · exact pt hmx
    · exact pt hc
  refine ⟨sz (by simp only [List.length_cons, List.length_nil]; omega), l1 _, l2 _, by simp, ?_⟩
  by_cases c : 1 < ds.length
  · refine itp (by rw [decide_eq_true_eq]; omega) ⟨sz (by omega), by simp, q _ fun e he => ?_⟩
    rcases List.mem_append.mp he with z | z
    · exact base e z
    · rw [List.mem_singleton.mp z]
      exact ct c
  · exact itn (by rw [decide_eq_true_eq]; omega) (q _ base)
/-! the law -/
theorem gm_comm (a b : Int) : gm a b = gm b a := by
  funext x
  unfold gm
  by_cases c : (a, b) ∈ x.2 ∨ (b, a) ∈ x.2
  · rw [if_pos c, if_pos c.symm]
  · rw [if_neg c, if_neg fun z => c z.symm]
theorem gm_pe {a b : Int} : ∀ {is : List Int} {ds es : List (List (Int × Int))}, PE ds es → (is.zip es).filterMap (gm a b) = (is.zip ds).filterMap (gm a b)
  | [], _, _, _ => rfl
  | _ :: _, [], [], _ => rfl
  | i :: is, d :: ds, e :: es, h => by
    have ih := gm_pe (a := a) (b := b) (is := is) h.2
    have c : ((a, b) ∈ e ∨ (b, a) ∈ e) ↔ ((a, b) ∈ d ∨ (b, a) ∈ d) := by rw [h.1.mem_iff, h.1.mem_iff]
    rw [List.zip_cons_cons, List.zip_cons_cons]
    by_cases m : (a, b) ∈ d ∨ (b, a) ∈ d
    · rw [List.filterMap_cons_some (show gm a b (i, e) = some i from if_pos (c.mpr m)), List.filterMap_cons_some (show gm a b (i, d) = some i from if_pos m), ih]
    · rw [List.filterMap_cons_none (show gm a b (i, e) = none from if_neg fun z => m (c.mp z)), List.filterMap_cons_none (show gm a b (i, d) = none from if_neg m), ih]
  | _ :: _, [], _ :: _, h => h.elim
  | _ :: _, _ :: _, [], h => h.elim
theorem met2_ok {n : Nat} {ds : List (List (Int × Int))} (h : OKD n ds) {a b : Int} {k : List Int → Prop} (q : k (((rangeI 0 (ds.length : Int)).zip ds).filterMap (gm a b))) : M_met ds a b k := by
  have d1 := h.len
  unfold M_met
  refine ⟨by rw [List.length_zip, rangeI_len]; omega, ?_⟩
  refine filC_ok (gm a b) (fun x hx k' hk => ⟨conds (a, b) x.2, ?_⟩) (by rw [List.nil_append]; exact q)
  by_cases c : (a, b) ∈ x.2
  · have e : gm a b x = some x.1 := if_pos (.inl c)
    rw [e] at hk
    exact itp (show inDv (tp (a, b)) (x.2.map tp) = true from inDv_tps.mpr c) hk
  · refine itn (show ¬ inDv (tp (a, b)) (x.2.map tp) = true from fun z => c (inDv_tps.mp z)) ⟨conds (b, a) x.2, ?_⟩
    by_cases d : (b, a) ∈ x.2
    · have e : gm a b x = some x.1 := if_pos (.inr d)
      rw [e] at hk
      exact itp (show inDv (tp (b, a)) (x.2.map tp) = true from inDv_tps.mpr d) hk
    · have e : gm a b x = none := if_neg fun z => z.elim c d
      rw [e] at hk
      exact itn (show ¬ inDv (tp (b, a)) (x.2.map tp) = true from fun z => d (inDv_tps.mp z)) hk
theorem met_same {ds tb : List (List (Int × Int))} (t : TB ds tb) (a b : Int) : ((rangeI 0 (tb.length : Int)).zip tb).filterMap (gm a b) = ((rangeI 0 (ds.length : Int)).zip ds).filterMap (gm a b) := by
  rw [al_len t]
  exact gm_pe (tb_to t)
theorem ne_t {d : D} (h : PyData.eqv (pyOf d) (pyOf d) = true) : ¬ (!(PyData.eqv (pyOf d) (pyOf d))) = true := by rw [h]; decide
theorem are_met_ok {n : Nat} {ds tb : List (List (Int × Int))} (h : OKD n ds) (t : TB ds tb) {k : Bool → Prop} (q : k true) : M_are_met tb ds (2 * (n : Int)) k := by
  have g := h.tb t
  unfold M_are_met
  refine forC_ok (fun _ => True) (fun x hx s k' _ hk => ?_) trivial fun s _ => q
  refine forC_ok (fun _ => True) (fun y hy s' k'' _ hk' => ?_) trivial fun s' _ => hk _ trivial
  by_cases c : x = y
  · refine itn (by rw [eqI, c]; simp) (hk' _ trivial)
  · refine itp (by rw [eqI]; simpa using c) (met_ok g (rangeI_mem hx) (rangeI_mem hy) c (met2_ok h ⟨same4 _ _, ?_⟩))
    rw [met_same t]
    exact itn (ne_t (eqv_t rfl)) (hk' _ trivial)
theorem eq_ok {n m : Nat} {u v : List (List (Int × Int))} (h : OKD n u) (g : OKD m v) {k : Bool → Prop} (q : k (PyData.eqv (pyOf (D.lst (u.map eD))) (pyOf (D.lst (v.map eD))))) : M_Table_eq u v k := ⟨eD4 h g, q⟩
theorem eqD_self {n : Nat} {u : List (List (Int × Int))} (h : OKD n u) : PyData.eqv (pyOf (D.lst (u.map eD))) (pyOf (D.lst (u.map eD))) = true := eqv_self ((oks_E h).sh (by decide))
theorem named_ok {n : Nat} {ds tb : List (List (Int × Int))} (h : OKD n ds) (t : TB ds tb) {k : Bool → Prop} (q : k true) : M_named_right tb ds (2 * (n : Int)) k := by
  have g := h.tb t
  have n1 := h.n1
  have n2 := h.n2
  have d0 := h.pos
  have d1 := h.len
  have l := al_len t
  unfold M_named_right
  refine draw_ok (by omega) (by omega) fun r r0 r1 => draw_ok (by omega) (by omega) fun s s0 s1 => draw_ok (by omega) (by omega) fun z z0 z1 => ⟨by omega, meet_ok g r0 (by omega) (sorted_tb h t ⟨r0, by omega, ?_⟩)⟩
  rintro x ex
  have e : x = tb.getD r.toNat [] := by
    rw [ex, List.getD_eq_getElem?_getD, List.getElem?_eq_getElem (by omega)]
    rfl
  rw [← e]
  have sh := tps_sh x
  refine ⟨⟨sh.1, sh.1, sh.2, sh.2⟩, itn (ne_t (d := D.lst (x.map tp)) (eqv_self sh.2)) ?_⟩
  have er : rowS tb s = rowS ds s := by
    show Txt.join _ (tb.map (mk s)) = Txt.join _ (ds.map (mk s))
    rw [pe_mk (tb_to t)]
  refine row_of_ok g s0 s1 (row_ok h ?_)
  rw [er]
  refine itn (by simp) ?_
  have m0 := Int.emod_nonneg (s + 1 + z) (show (2 * (n : Int)) ≠ 0 by omega)
  have m1 := Int.emod_lt_of_pos (s + 1 + z) (show 0 < 2 * (n : Int) by omega)
  have ne : s ≠ (s + 1 + z) % (2 * (n : Int)) := by
    by_cases c : s + 1 + z < 2 * (n : Int)
    · rw [Int.emod_eq_of_lt (by omega) c]
      omega
    · have : (s + 1 + z) % (2 * (n : Int)) = s + 1 + z - 2 * (n : Int) := by
        rw [← Int.sub_emod_right, Int.emod_eq_of_lt (by omega) (by omega)]
      rw [this]
      omega
  refine met_ok g ⟨s0, s1⟩ ⟨m0, m1⟩ ne (met2_ok h ⟨same4 _ _, ?_⟩)
  rw [met_same t, gm_comm, eqv_t rfl]
  exact q
theorem empty_ok {x : Bool × List (Bool × List (Int × Int))} {k : Unit → Prop} (q : k ()) : M_empty x k := q
theorem emptyL_ok {x : List (List (Int × Int))} {k : Unit → Prop} (q : k ()) : M_empty_lltii x k := q
theorem eqL_ok {a b : List (List (Int × Int))} {k : Bool → Prop} (q : k false) : M_Table_eq_oTablelltii a b k := q
theorem eqS_ok {a : List (List (Int × Int))} {b : Str} {k : Bool → Prop} (q : k false) : M_Table_eq_oTables a b k := q
theorem eqN_ok {a : List (List (Int × Int))} {b : Int} {k : Bool → Prop} (q : k false) : M_Table_eq_oTablei a b k := q
theorem right_true : M_right fun r => r = true := by
  unfold M_right
  refine many_ok fun n n1 n2 => pick_ok (by simp) (by simp) fun most hm => ?_
  have hm2 : 1 ≤ most ∧ most ≤ 51 := by
    simp only [List.mem_cons, List.not_mem_nil, or_false] at hm
    omega
  refine days_ok n1 n2 hm2.1 hm2.2 fun ds d0 d1 dv => ?_
  have h : OKD n ds := ⟨n1, n2, d0, by omega, dv⟩
  refine passed_ok h fun b xs pe => tinitS_ok (h.pe pe) fun tb ht => ?_
  have t : TB ds tb := tb_pe pe ht
  refine passed_ok h fun b2 ys pe2 => tinitS_ok (h.pe pe2) fun tw ht2 => ?_
  obtain rfl : tw = tb := tb_uniq (tb_pe pe2 ht2) t
  have g := h.tb t
  refine empty_ok (forC_ok (fun _ => True) (fun x hx s k' _ hk => ?_) trivial fun s _ => ?_)
  · refine is_ok h t (itn (by decide) (are_met_ok h t (itn (by decide) (eq_ok g g ?_))))
    rw [eqD_self g]
    exact itn (by decide) (rounds_get g (meet_ok g (by decide) (by have := g.pos; omega) (emptyL_ok (hk _ trivial))))
  · refine near_ok h d1 fun es hes => forC_ok (fun _ => True) (fun x hx s k' _ hk => ?_) trivial fun s _ => ?_
    · have hx' := hes x hx
      refine tinit_ok hx' fun u hu => eq_ok (hx'.tb hu) g (sorted_tb hx' hu (sorted_tb h t ⟨eD4 (hx'.tb hu) g, itn (by simp) (hk _ trivial)⟩))
    · refine rounds_get g (eqL_ok (itn (by decide) (repr_ok g (eqS_ok (itn (by decide) (size_ok g (eqN_ok (itn (by decide) (named_ok h t (itp rfl (is_ok h t rfl)))))))))))

def sp_law (K : PySem.W.Frag) : Sp := fun vs H Q _ => ∃ (a : Addr) (ns : List Int), vs = [.ref a] ∧ SqL K H a (ns.map V.int) ∧ ns.length ≤ 63 ∧ ∀ H1 : Hp, Q (.bl true) H1
theorem law_enter {K : PySem.W.Frag} {H : Hp} {a : Addr} {ns : List Int} (hl : ns.length ≤ 63) (_ : Only H) (hS : SqL K H a (ns.map V.int)) : sp_law K [.ref a] H (fun v _ => v = .bl true) fun _ _ _ => False := ⟨a, ns, rfl, hS, hl, fun _ => rfl⟩
theorem sq_keep {K : PySem.W.Frag} {H H1 : Hp} {a : Addr} {xs : List V} (k : ∀ b o, H b = some o → H1 b = some o) (h : SqL K H a xs) : SqL K H1 a xs := by
  rcases h with (h | ⟨o, h⟩) | h
  · exact .inl (.inl (k _ _ h))
  · exact .inl (.inr ⟨o, k _ _ h⟩)
  · exact .inr h
theorem ok_law {P : Program} {w : World} {K : PySem.W.Frag} {mg : Str → Option Value} {base : Heap} {A : Ad} (T : Txt w K mg A) : FnG P w K mg base 8 A.a_law A.d_law ["_law_script"] (sp_law K) := by
  refine okG T.F_law sc_law (fun vs H Q E h => ?_) (fun cdv A_ outer s_ H_0 vs Q E gu hr h => ?_)
  · obtain ⟨a, ns, rfl, _⟩ := h
    rfl
  · obtain ⟨a, ns, rfl, hS, hl, hQ⟩ := h
    refine ⟨_, pss_one (ps_ret (pe_callB (cr_all rfl) (by rfl) T.z_all (by decide +kernel) (pa_cons (pe_lc (own := [("_law_k", 1)]) (g := gName 1) rfl sc_law.nd
      (pi_range1 (by rfl) T.z_range (pa_cons (pe_callB (call_max2 rfl) (by rfl) T.z_max (by decide +kernel) (pa_cons pe_int (pa_cons (pe_callB (call_min2 rfl) (by rfl) T.z_min (by decide +kernel) (pa_cons (pe_callB call_len (by rfl) T.z_len PySem.boot_len (pa_cons (pv 0) pa_nil)) (pa_cons pe_int pa_nil))) pa_nil))) pa_nil))
      (blkOk_by (N := ["_law_script", "_law_k"]) (sc := defScope s_law) (by decide +kernel)) (fun _ _ _ _ _ => pg_name (i := 1) sc_law.nd rfl (by first | exact Or.inl rfl | exact Or.inr rfl)) (fun _ _ _ _ _ => pts_nil)
      (fun _ _ _ _ _ => pe_callG (ok_right T) gu (hr.mono (by decide)) (by rfl) T.g_right T.F_right.kp T.b_right (pa_cons (pe_call (ok_pot T) (hr.mono (by decide)) (by rfl) T.g_pot T.F_pot.kp T.b_pot .nil pass0 (pa_cons (pv 0) (pa_cons (pv 1) pa_nil))) pa_nil))) pa_nil))), ?_⟩
    refine ⟨_, rfl, _, ns.length, rfl, .inl ⟨_, hS, by rw [List.length_map]⟩, _, _, rfl, _, _, rfl, _, rfl, ?_, ?_, fun L nl => ?_⟩
    · split <;> split <;> omega
    · split <;> split <;> omega
    have hsq : ∀ H : Hp, (∀ o, H_0 a = some o → H a = some o) → SqL K H a (ns.map V.int) := fun H k => by
      rcases hS with (h | ⟨o, h⟩) | h
      · exact .inl (.inl (k _ h))
      · exact .inl (.inr ⟨o, k _ h⟩)
      · exact .inr h
    refine lc_range (lo := 0) (fun i H => (∀ o, H_0 a = some o → H a = some o) ∧ ∃ n, n ≤ i ∧ H L = some (.lst (List.replicate n (.bl true)))) ⟨fun o h => (Rx.Ext.new nl).keep h, 0, Nat.le_refl _, upd_same⟩ (fun i H hi ⟨hS1, n, hn, hL⟩ => ?_) (fun H ⟨hS1, n, hn, hL⟩ => ?_)
    · refine ⟨rfl, ?_⟩
      refine tyes_of ?_
      have hi4 : i < 64 := by
        refine Nat.lt_of_lt_of_le hi ?_
        split <;> split <;> omega
      refine ⟨_, rfl, _, rfl, a, ns, 0 + (i : Int), rfl, hsq H hS1, hl, by omega, by omega, fun p H1 i1 j1 np e1 hp hj => ?_⟩
      refine ⟨[p], p, fun r => r = true, rfl, ⟨fun _ _ _ h => h, fun _ h => h, fun m hm => ?_, fun b hb => ?_, fun b hb => hb, fun c hc => absurd hc List.not_mem_nil⟩, right_true, fun r u H2 hr2 e2 hu => ?_⟩
      · rw [List.mem_singleton.mp hm, hp]
        exact fun z => nomatch z
      · rw [List.mem_singleton.mp hb]
        exact (⟨i1, j1, hp, hj⟩ : PotH _ _)
      · obtain rfl := of_v hu
        have e3 : ∀ b o, H b = some o → H2 b = some o := fun b o h => e2.kp b o (fun z => by
          rw [(List.mem_singleton.mp z : b = p), np] at h
          cases h) (e1.keep h)
        refine ⟨_, e3 _ _ hL, ?_, fun o h => ?_, n + 1, Nat.succ_le_succ hn, by rw [upd_same, hr2, List.replicate_succ']⟩
        · rw [List.length_replicate]
          exact Nat.lt_of_le_of_lt (show n ≤ 64 by omega) (by decide)
        · rw [upd_ne (ne_of_none h nl)]
          exact e3 _ _ (hS1 _ h)
    · refine ⟨L, List.replicate n true, rfl, .inl (.inl (by rw [List.map_replicate]; exact hL)), ?_⟩
      have : (List.replicate n true).all id = true := by
        rw [List.all_eq_true]
        intro x hx
        rw [(List.mem_replicate.mp hx).2]
        rfl
      rw [this]
      exact hQ _

theorem all_mk {l : PySem.W.OpenLaw} {w : World} {K : PySem.W.Frag} {h : Heap} {mg : Str → Option Value} {fa Adraw Apick Amany Amixed Aday Adays Apassed Ais_list Ais_integer Ais_meeting Ais_round Acheck_rounds ATable_init Aempty ATable_size ATable_len ATable_rounds Ais_count Acheck_day ATable_meetings Asorted ATable_repr Acheck_team Amark_in ATable_row_of Arow Ais Acheck_pair ATable_met_in Amet Aare_met ATable_eq Aturned Anear_days Anamed_right Aright Apot Alaw CTable : Addr} (X : K.In h) (G : h.Ns mainGlobals mg) (hfa : mg "law" = some (.ref fa))
    {oddraw andraw : Option Addr} {sldraw : Array (Option Value)} {ocdraw kVdraw dcdraw pmdraw cddraw ctdraw : Value}
    {odpick anpick : Option Addr} {slpick : Array (Option Value)} {ocpick kVpick dcpick pmpick cdpick ctpick : Value}
    {odmany anmany : Option Addr} {slmany : Array (Option Value)} {ocmany kVmany dcmany pmmany cdmany ctmany : Value}
    {odmixed anmixed : Option Addr} {slmixed : Array (Option Value)} {ocmixed kVmixed dcmixed pmmixed cdmixed ctmixed : Value}
    {odday anday : Option Addr} {slday : Array (Option Value)} {ocday kVday dcday pmday cdday ctday : Value}
    {oddays andays : Option Addr} {sldays : Array (Option Value)} {ocdays kVdays dcdays pmdays cddays ctdays : Value}
    {odpassed anpassed : Option Addr} {slpassed : Array (Option Value)} {ocpassed kVpassed dcpassed pmpassed cdpassed ctpassed : Value}
    {odis_list anis_list : Option Addr} {slis_list : Array (Option Value)} {ocis_list kVis_list dcis_list pmis_list cdis_list ctis_list : Value}
    {odis_integer anis_integer : Option Addr} {slis_integer : Array (Option Value)} {ocis_integer kVis_integer dcis_integer pmis_integer cdis_integer ctis_integer : Value}
    {odis_meeting anis_meeting : Option Addr} {slis_meeting : Array (Option Value)} {ocis_meeting kVis_meeting dcis_meeting pmis_meeting cdis_meeting ctis_meeting : Value}
    {odis_round anis_round : Option Addr} {slis_round : Array (Option Value)} {ocis_round kVis_round dcis_round pmis_round cdis_round ctis_round : Value}
    {odcheck_rounds ancheck_rounds : Option Addr} {slcheck_rounds : Array (Option Value)} {occheck_rounds kVcheck_rounds dccheck_rounds pmcheck_rounds cdcheck_rounds ctcheck_rounds : Value}
    {odTable_init anTable_init : Option Addr} {slTable_init : Array (Option Value)} {ocTable_init kVTable_init dcTable_init pmTable_init cdTable_init ctTable_init : Value}
    {odempty anempty : Option Addr} {slempty : Array (Option Value)} {ocempty kVempty dcempty pmempty cdempty ctempty : Value}
    {PTable_size : Addr}
    {RTable_size : List Value}
    {odTable_size anTable_size : Option Addr} {slTable_size : Array (Option Value)} {ocTable_size kVTable_size dcTable_size pmTable_size cdTable_size ctTable_size : Value}
    {odTable_len anTable_len : Option Addr} {slTable_len : Array (Option Value)} {ocTable_len kVTable_len dcTable_len pmTable_len cdTable_len ctTable_len : Value}
    {odTable_rounds anTable_rounds : Option Addr} {slTable_rounds : Array (Option Value)} {ocTable_rounds kVTable_rounds dcTable_rounds pmTable_rounds cdTable_rounds ctTable_rounds : Value}
    {odis_count anis_count : Option Addr} {slis_count : Array (Option Value)} {ocis_count kVis_count dcis_count pmis_count cdis_count ctis_count : Value}
    {odcheck_day ancheck_day : Option Addr} {slcheck_day : Array (Option Value)} {occheck_day kVcheck_day dccheck_day pmcheck_day cdcheck_day ctcheck_day : Value}
    {odTable_meetings anTable_meetings : Option Addr} {slTable_meetings : Array (Option Value)} {ocTable_meetings kVTable_meetings dcTable_meetings pmTable_meetings cdTable_meetings ctTable_meetings : Value}
    {odsorted ansorted : Option Addr} {slsorted : Array (Option Value)} {ocsorted kVsorted dcsorted pmsorted cdsorted ctsorted : Value}
    {odTable_repr anTable_repr : Option Addr} {slTable_repr : Array (Option Value)} {ocTable_repr kVTable_repr dcTable_repr pmTable_repr cdTable_repr ctTable_repr : Value}
    {odcheck_team ancheck_team : Option Addr} {slcheck_team : Array (Option Value)} {occheck_team kVcheck_team dccheck_team pmcheck_team cdcheck_team ctcheck_team : Value}
    {odmark_in anmark_in : Option Addr} {slmark_in : Array (Option Value)} {ocmark_in kVmark_in dcmark_in pmmark_in cdmark_in ctmark_in : Value}
    {odTable_row_of anTable_row_of : Option Addr} {slTable_row_of : Array (Option Value)} {ocTable_row_of kVTable_row_of dcTable_row_of pmTable_row_of cdTable_row_of ctTable_row_of : Value}
    {odrow anrow : Option Addr} {slrow : Array (Option Value)} {ocrow kVrow dcrow pmrow cdrow ctrow : Value}
    {odis anis : Option Addr} {slis : Array (Option Value)} {ocis kVis dcis pmis cdis ctis : Value}
    {odcheck_pair ancheck_pair : Option Addr} {slcheck_pair : Array (Option Value)} {occheck_pair kVcheck_pair dccheck_pair pmcheck_pair cdcheck_pair ctcheck_pair : Value}
    {odTable_met_in anTable_met_in : Option Addr} {slTable_met_in : Array (Option Value)} {ocTable_met_in kVTable_met_in dcTable_met_in pmTable_met_in cdTable_met_in ctTable_met_in : Value}
    {odmet anmet : Option Addr} {slmet : Array (Option Value)} {ocmet kVmet dcmet pmmet cdmet ctmet : Value}
    {odare_met anare_met : Option Addr} {slare_met : Array (Option Value)} {ocare_met kVare_met dcare_met pmare_met cdare_met ctare_met : Value}
    {odTable_eq anTable_eq : Option Addr} {slTable_eq : Array (Option Value)} {ocTable_eq kVTable_eq dcTable_eq pmTable_eq cdTable_eq ctTable_eq : Value}
    {odturned anturned : Option Addr} {slturned : Array (Option Value)} {octurned kVturned dcturned pmturned cdturned ctturned : Value}
    {odnear_days annear_days : Option Addr} {slnear_days : Array (Option Value)} {ocnear_days kVnear_days dcnear_days pmnear_days cdnear_days ctnear_days : Value}
    {odnamed_right annamed_right : Option Addr} {slnamed_right : Array (Option Value)} {ocnamed_right kVnamed_right dcnamed_right pmnamed_right cdnamed_right ctnamed_right : Value}
    {odright anright : Option Addr} {slright : Array (Option Value)} {ocright kVright dcright pmright cdright ctright : Value}
    {odpot anpot : Option Addr} {slpot : Array (Option Value)} {ocpot kVpot dcpot pmpot cdpot ctpot : Value}
    {odlaw anlaw : Option Addr} {sllaw : Array (Option Value)} {oclaw kVlaw dclaw pmlaw cdlaw ctlaw : Value}
    {tFEWEST_MEETINGS : Tok}
    {tMOST_MEETINGS : Tok}
    {tMOST_ROUNDS : Tok}
    (a_draw : PySem.W.nsIn K mainGlobals "_law_draw" = some (some (.ref Adraw)))
    (l_draw : K.lookup Adraw = some ⟨ocdraw, oddraw, .func (PySem.W.fnOf "_law_draw" "_law_draw" (defArgs s_draw) (defBody s_draw) (defScope s_draw) .none kVdraw dcdraw pmdraw andraw cddraw ctdraw), sldraw⟩)
    (o_draw : PySem.W.codeIn K cddraw "_law_draw" = true)
    (k_draw : PySem.W.keepIn K (.ref Adraw) = true)
    (a_pick : PySem.W.nsIn K mainGlobals "_law_pick" = some (some (.ref Apick)))
    (l_pick : K.lookup Apick = some ⟨ocpick, odpick, .func (PySem.W.fnOf "_law_pick" "_law_pick" (defArgs s_pick) (defBody s_pick) (defScope s_pick) .none kVpick dcpick pmpick anpick cdpick ctpick), slpick⟩)
    (o_pick : PySem.W.codeIn K cdpick "_law_pick" = true)
    (k_pick : PySem.W.keepIn K (.ref Apick) = true)
    (a_many : PySem.W.nsIn K mainGlobals "_law_many" = some (some (.ref Amany)))
    (l_many : K.lookup Amany = some ⟨ocmany, odmany, .func (PySem.W.fnOf "_law_many" "_law_many" (defArgs s_many) (defBody s_many) (defScope s_many) .none kVmany dcmany pmmany anmany cdmany ctmany), slmany⟩)
    (o_many : PySem.W.codeIn K cdmany "_law_many" = true)
    (k_many : PySem.W.keepIn K (.ref Amany) = true)
    (a_mixed : PySem.W.nsIn K mainGlobals "_law_mixed" = some (some (.ref Amixed)))
    (l_mixed : K.lookup Amixed = some ⟨ocmixed, odmixed, .func (PySem.W.fnOf "_law_mixed" "_law_mixed" (defArgs s_mixed) (defBody s_mixed) (defScope s_mixed) .none kVmixed dcmixed pmmixed anmixed cdmixed ctmixed), slmixed⟩)
    (o_mixed : PySem.W.codeIn K cdmixed "_law_mixed" = true)
    (k_mixed : PySem.W.keepIn K (.ref Amixed) = true)
    (a_day : PySem.W.nsIn K mainGlobals "_law_day" = some (some (.ref Aday)))
    (l_day : K.lookup Aday = some ⟨ocday, odday, .func (PySem.W.fnOf "_law_day" "_law_day" (defArgs s_day) (defBody s_day) (defScope s_day) .none kVday dcday pmday anday cdday ctday), slday⟩)
    (o_day : PySem.W.codeIn K cdday "_law_day" = true)
    (k_day : PySem.W.keepIn K (.ref Aday) = true)
    (a_days : PySem.W.nsIn K mainGlobals "_law_days" = some (some (.ref Adays)))
    (l_days : K.lookup Adays = some ⟨ocdays, oddays, .func (PySem.W.fnOf "_law_days" "_law_days" (defArgs s_days) (defBody s_days) (defScope s_days) .none kVdays dcdays pmdays andays cddays ctdays), sldays⟩)
    (o_days : PySem.W.codeIn K cddays "_law_days" = true)
    (k_days : PySem.W.keepIn K (.ref Adays) = true)
    (a_passed : PySem.W.nsIn K mainGlobals "_law_passed" = some (some (.ref Apassed)))
    (l_passed : K.lookup Apassed = some ⟨ocpassed, odpassed, .func (PySem.W.fnOf "_law_passed" "_law_passed" (defArgs s_passed) (defBody s_passed) (defScope s_passed) .none kVpassed dcpassed pmpassed anpassed cdpassed ctpassed), slpassed⟩)
    (o_passed : PySem.W.codeIn K cdpassed "_law_passed" = true)
    (k_passed : PySem.W.keepIn K (.ref Apassed) = true)
    (a_is_list : PySem.W.nsIn K mainGlobals "is_list" = some (some (.ref Ais_list)))
    (l_is_list : K.lookup Ais_list = some ⟨ocis_list, odis_list, .func (PySem.W.fnOf "is_list" "is_list" (defArgs s_is_list) (defBody s_is_list) (defScope s_is_list) .none kVis_list dcis_list pmis_list anis_list cdis_list ctis_list), slis_list⟩)
    (o_is_list : PySem.W.codeIn K cdis_list "is_list" = true)
    (k_is_list : PySem.W.keepIn K (.ref Ais_list) = true)
    (a_is_integer : PySem.W.nsIn K mainGlobals "is_integer" = some (some (.ref Ais_integer)))
    (l_is_integer : K.lookup Ais_integer = some ⟨ocis_integer, odis_integer, .func (PySem.W.fnOf "is_integer" "is_integer" (defArgs s_is_integer) (defBody s_is_integer) (defScope s_is_integer) .none kVis_integer dcis_integer pmis_integer anis_integer cdis_integer ctis_integer), slis_integer⟩)
    (o_is_integer : PySem.W.codeIn K cdis_integer "is_integer" = true)
    (k_is_integer : PySem.W.keepIn K (.ref Ais_integer) = true)
    (a_is_meeting : PySem.W.nsIn K mainGlobals "_is_meeting" = some (some (.ref Ais_meeting)))
    (l_is_meeting : K.lookup Ais_meeting = some ⟨ocis_meeting, odis_meeting, .func (PySem.W.fnOf "_is_meeting" "_is_meeting" (defArgs s_is_meeting) (defBody s_is_meeting) (defScope s_is_meeting) .none kVis_meeting dcis_meeting pmis_meeting anis_meeting cdis_meeting ctis_meeting), slis_meeting⟩)
    (o_is_meeting : PySem.W.codeIn K cdis_meeting "_is_meeting" = true)
    (k_is_meeting : PySem.W.keepIn K (.ref Ais_meeting) = true)
    (a_is_round : PySem.W.nsIn K mainGlobals "is_round" = some (some (.ref Ais_round)))
    (l_is_round : K.lookup Ais_round = some ⟨ocis_round, odis_round, .func (PySem.W.fnOf "is_round" "is_round" (defArgs s_is_round) (defBody s_is_round) (defScope s_is_round) .none kVis_round dcis_round pmis_round anis_round cdis_round ctis_round), slis_round⟩)
    (o_is_round : PySem.W.codeIn K cdis_round "is_round" = true)
    (k_is_round : PySem.W.keepIn K (.ref Ais_round) = true)
    (a_check_rounds : PySem.W.nsIn K mainGlobals "_check_rounds" = some (some (.ref Acheck_rounds)))
    (l_check_rounds : K.lookup Acheck_rounds = some ⟨occheck_rounds, odcheck_rounds, .func (PySem.W.fnOf "_check_rounds" "_check_rounds" (defArgs s_check_rounds) (defBody s_check_rounds) (defScope s_check_rounds) .none kVcheck_rounds dccheck_rounds pmcheck_rounds ancheck_rounds cdcheck_rounds ctcheck_rounds), slcheck_rounds⟩)
    (o_check_rounds : PySem.W.codeIn K cdcheck_rounds "_check_rounds" = true)
    (k_check_rounds : PySem.W.keepIn K (.ref Acheck_rounds) = true)
    (a_Table_init : PySem.W.findIn K (.ref CTable) "__init__" = some (some (.ref ATable_init)))
    (i_Table_init : PySem.W.isFn K (.ref ATable_init) = true)
    (l_Table_init : K.lookup ATable_init = some ⟨ocTable_init, odTable_init, .func (PySem.W.fnOf "__init__" "Table.__init__" (defArgs s_Table_init) (defBody s_Table_init) (defScope s_Table_init) .none kVTable_init dcTable_init pmTable_init anTable_init cdTable_init ctTable_init), slTable_init⟩)
    (o_Table_init : PySem.W.codeIn K cdTable_init "Table.__init__" = true)
    (k_Table_init : PySem.W.keepIn K (.ref ATable_init) = true)
    (a_empty : PySem.W.nsIn K mainGlobals "_law_empty" = some (some (.ref Aempty)))
    (l_empty : K.lookup Aempty = some ⟨ocempty, odempty, .func (PySem.W.fnOf "_law_empty" "_law_empty" (defArgs s_empty) (defBody s_empty) (defScope s_empty) .none kVempty dcempty pmempty anempty cdempty ctempty), slempty⟩)
    (o_empty : PySem.W.codeIn K cdempty "_law_empty" = true)
    (k_empty : PySem.W.keepIn K (.ref Aempty) = true)
    (pa_Table_size : PySem.W.findIn K (.ref CTable) "size" = some (some (.ref PTable_size)))
    (pg_Table_size : PySem.W.specialIn K (.ref PTable_size) "__get__" = some (some (.builtin "property.__get__")))
    (pt_Table_size : PySem.W.takesIn K (.ref PTable_size) = some true)
    (pr_Table_size : PySem.W.recIn K PTable_size "property" = some (.ref ATable_size :: RTable_size))
    (l_Table_size : K.lookup ATable_size = some ⟨ocTable_size, odTable_size, .func (PySem.W.fnOf "size" "Table.size" (defArgs s_Table_size) (defBody s_Table_size) (defScope s_Table_size) .none kVTable_size dcTable_size pmTable_size anTable_size cdTable_size ctTable_size), slTable_size⟩)
    (o_Table_size : PySem.W.codeIn K cdTable_size "Table.size" = true)
    (k_Table_size : PySem.W.keepIn K (.ref ATable_size) = true)
    (a_Table_len : PySem.W.findIn K (.ref CTable) "__len__" = some (some (.ref ATable_len)))
    (i_Table_len : PySem.W.isFn K (.ref ATable_len) = true)
    (l_Table_len : K.lookup ATable_len = some ⟨ocTable_len, odTable_len, .func (PySem.W.fnOf "__len__" "Table.__len__" (defArgs s_Table_len) (defBody s_Table_len) (defScope s_Table_len) .none kVTable_len dcTable_len pmTable_len anTable_len cdTable_len ctTable_len), slTable_len⟩)
    (o_Table_len : PySem.W.codeIn K cdTable_len "Table.__len__" = true)
    (k_Table_len : PySem.W.keepIn K (.ref ATable_len) = true)
    (a_Table_rounds : PySem.W.findIn K (.ref CTable) "rounds" = some (some (.ref ATable_rounds)))
    (i_Table_rounds : PySem.W.isFn K (.ref ATable_rounds) = true)
    (l_Table_rounds : K.lookup ATable_rounds = some ⟨ocTable_rounds, odTable_rounds, .func (PySem.W.fnOf "rounds" "Table.rounds" (defArgs s_Table_rounds) (defBody s_Table_rounds) (defScope s_Table_rounds) .none kVTable_rounds dcTable_rounds pmTable_rounds anTable_rounds cdTable_rounds ctTable_rounds), slTable_rounds⟩)
    (o_Table_rounds : PySem.W.codeIn K cdTable_rounds "Table.rounds" = true)
    (k_Table_rounds : PySem.W.keepIn K (.ref ATable_rounds) = true)
    (a_is_count : PySem.W.nsIn K mainGlobals "is_count" = some (some (.ref Ais_count)))
    (l_is_count : K.lookup Ais_count = some ⟨ocis_count, odis_count, .func (PySem.W.fnOf "is_count" "is_count" (defArgs s_is_count) (defBody s_is_count) (defScope s_is_count) .none kVis_count dcis_count pmis_count anis_count cdis_count ctis_count), slis_count⟩)
    (o_is_count : PySem.W.codeIn K cdis_count "is_count" = true)
    (k_is_count : PySem.W.keepIn K (.ref Ais_count) = true)
    (a_check_day : PySem.W.nsIn K mainGlobals "check_day" = some (some (.ref Acheck_day)))
    (l_check_day : K.lookup Acheck_day = some ⟨occheck_day, odcheck_day, .func (PySem.W.fnOf "check_day" "check_day" (defArgs s_check_day) (defBody s_check_day) (defScope s_check_day) .none kVcheck_day dccheck_day pmcheck_day ancheck_day cdcheck_day ctcheck_day), slcheck_day⟩)
    (o_check_day : PySem.W.codeIn K cdcheck_day "check_day" = true)
    (k_check_day : PySem.W.keepIn K (.ref Acheck_day) = true)
    (a_Table_meetings : PySem.W.findIn K (.ref CTable) "meetings" = some (some (.ref ATable_meetings)))
    (i_Table_meetings : PySem.W.isFn K (.ref ATable_meetings) = true)
    (l_Table_meetings : K.lookup ATable_meetings = some ⟨ocTable_meetings, odTable_meetings, .func (PySem.W.fnOf "meetings" "Table.meetings" (defArgs s_Table_meetings) (defBody s_Table_meetings) (defScope s_Table_meetings) .none kVTable_meetings dcTable_meetings pmTable_meetings anTable_meetings cdTable_meetings ctTable_meetings), slTable_meetings⟩)
    (o_Table_meetings : PySem.W.codeIn K cdTable_meetings "Table.meetings" = true)
    (k_Table_meetings : PySem.W.keepIn K (.ref ATable_meetings) = true)
    (a_sorted : PySem.W.nsIn K mainGlobals "_law_sorted" = some (some (.ref Asorted)))
    (l_sorted : K.lookup Asorted = some ⟨ocsorted, odsorted, .func (PySem.W.fnOf "_law_sorted" "_law_sorted" (defArgs s_sorted) (defBody s_sorted) (defScope s_sorted) .none kVsorted dcsorted pmsorted ansorted cdsorted ctsorted), slsorted⟩)
    (o_sorted : PySem.W.codeIn K cdsorted "_law_sorted" = true)
    (k_sorted : PySem.W.keepIn K (.ref Asorted) = true)
    (a_Table_repr : PySem.W.findIn K (.ref CTable) "__repr__" = some (some (.ref ATable_repr)))
    (i_Table_repr : PySem.W.isFn K (.ref ATable_repr) = true)
    (l_Table_repr : K.lookup ATable_repr = some ⟨ocTable_repr, odTable_repr, .func (PySem.W.fnOf "__repr__" "Table.__repr__" (defArgs s_Table_repr) (defBody s_Table_repr) (defScope s_Table_repr) .none kVTable_repr dcTable_repr pmTable_repr anTable_repr cdTable_repr ctTable_repr), slTable_repr⟩)
    (o_Table_repr : PySem.W.codeIn K cdTable_repr "Table.__repr__" = true)
    (k_Table_repr : PySem.W.keepIn K (.ref ATable_repr) = true)
    (a_check_team : PySem.W.nsIn K mainGlobals "check_team" = some (some (.ref Acheck_team)))
    (l_check_team : K.lookup Acheck_team = some ⟨occheck_team, odcheck_team, .func (PySem.W.fnOf "check_team" "check_team" (defArgs s_check_team) (defBody s_check_team) (defScope s_check_team) .none kVcheck_team dccheck_team pmcheck_team ancheck_team cdcheck_team ctcheck_team), slcheck_team⟩)
    (o_check_team : PySem.W.codeIn K cdcheck_team "check_team" = true)
    (k_check_team : PySem.W.keepIn K (.ref Acheck_team) = true)
    (a_mark_in : PySem.W.nsIn K mainGlobals "_mark_in" = some (some (.ref Amark_in)))
    (l_mark_in : K.lookup Amark_in = some ⟨ocmark_in, odmark_in, .func (PySem.W.fnOf "_mark_in" "_mark_in" (defArgs s_mark_in) (defBody s_mark_in) (defScope s_mark_in) .none kVmark_in dcmark_in pmmark_in anmark_in cdmark_in ctmark_in), slmark_in⟩)
    (o_mark_in : PySem.W.codeIn K cdmark_in "_mark_in" = true)
    (k_mark_in : PySem.W.keepIn K (.ref Amark_in) = true)
    (a_Table_row_of : PySem.W.findIn K (.ref CTable) "row_of" = some (some (.ref ATable_row_of)))
    (i_Table_row_of : PySem.W.isFn K (.ref ATable_row_of) = true)
    (l_Table_row_of : K.lookup ATable_row_of = some ⟨ocTable_row_of, odTable_row_of, .func (PySem.W.fnOf "row_of" "Table.row_of" (defArgs s_Table_row_of) (defBody s_Table_row_of) (defScope s_Table_row_of) .none kVTable_row_of dcTable_row_of pmTable_row_of anTable_row_of cdTable_row_of ctTable_row_of), slTable_row_of⟩)
    (o_Table_row_of : PySem.W.codeIn K cdTable_row_of "Table.row_of" = true)
    (k_Table_row_of : PySem.W.keepIn K (.ref ATable_row_of) = true)
    (a_row : PySem.W.nsIn K mainGlobals "_law_row" = some (some (.ref Arow)))
    (l_row : K.lookup Arow = some ⟨ocrow, odrow, .func (PySem.W.fnOf "_law_row" "_law_row" (defArgs s_row) (defBody s_row) (defScope s_row) .none kVrow dcrow pmrow anrow cdrow ctrow), slrow⟩)
    (o_row : PySem.W.codeIn K cdrow "_law_row" = true)
    (k_row : PySem.W.keepIn K (.ref Arow) = true)
    (a_is : PySem.W.nsIn K mainGlobals "_law_is" = some (some (.ref Ais)))
    (l_is : K.lookup Ais = some ⟨ocis, odis, .func (PySem.W.fnOf "_law_is" "_law_is" (defArgs s_is) (defBody s_is) (defScope s_is) .none kVis dcis pmis anis cdis ctis), slis⟩)
    (o_is : PySem.W.codeIn K cdis "_law_is" = true)
    (k_is : PySem.W.keepIn K (.ref Ais) = true)
    (a_check_pair : PySem.W.nsIn K mainGlobals "check_pair" = some (some (.ref Acheck_pair)))
    (l_check_pair : K.lookup Acheck_pair = some ⟨occheck_pair, odcheck_pair, .func (PySem.W.fnOf "check_pair" "check_pair" (defArgs s_check_pair) (defBody s_check_pair) (defScope s_check_pair) .none kVcheck_pair dccheck_pair pmcheck_pair ancheck_pair cdcheck_pair ctcheck_pair), slcheck_pair⟩)
    (o_check_pair : PySem.W.codeIn K cdcheck_pair "check_pair" = true)
    (k_check_pair : PySem.W.keepIn K (.ref Acheck_pair) = true)
    (a_Table_met_in : PySem.W.findIn K (.ref CTable) "met_in" = some (some (.ref ATable_met_in)))
    (i_Table_met_in : PySem.W.isFn K (.ref ATable_met_in) = true)
    (l_Table_met_in : K.lookup ATable_met_in = some ⟨ocTable_met_in, odTable_met_in, .func (PySem.W.fnOf "met_in" "Table.met_in" (defArgs s_Table_met_in) (defBody s_Table_met_in) (defScope s_Table_met_in) .none kVTable_met_in dcTable_met_in pmTable_met_in anTable_met_in cdTable_met_in ctTable_met_in), slTable_met_in⟩)
    (o_Table_met_in : PySem.W.codeIn K cdTable_met_in "Table.met_in" = true)
    (k_Table_met_in : PySem.W.keepIn K (.ref ATable_met_in) = true)
    (a_met : PySem.W.nsIn K mainGlobals "_law_met" = some (some (.ref Amet)))
    (l_met : K.lookup Amet = some ⟨ocmet, odmet, .func (PySem.W.fnOf "_law_met" "_law_met" (defArgs s_met) (defBody s_met) (defScope s_met) .none kVmet dcmet pmmet anmet cdmet ctmet), slmet⟩)
    (o_met : PySem.W.codeIn K cdmet "_law_met" = true)
    (k_met : PySem.W.keepIn K (.ref Amet) = true)
    (a_are_met : PySem.W.nsIn K mainGlobals "_law_are_met" = some (some (.ref Aare_met)))
    (l_are_met : K.lookup Aare_met = some ⟨ocare_met, odare_met, .func (PySem.W.fnOf "_law_are_met" "_law_are_met" (defArgs s_are_met) (defBody s_are_met) (defScope s_are_met) .none kVare_met dcare_met pmare_met anare_met cdare_met ctare_met), slare_met⟩)
    (o_are_met : PySem.W.codeIn K cdare_met "_law_are_met" = true)
    (k_are_met : PySem.W.keepIn K (.ref Aare_met) = true)
    (a_Table_eq : PySem.W.findIn K (.ref CTable) "__eq__" = some (some (.ref ATable_eq)))
    (i_Table_eq : PySem.W.isFn K (.ref ATable_eq) = true)
    (l_Table_eq : K.lookup ATable_eq = some ⟨ocTable_eq, odTable_eq, .func (PySem.W.fnOf "__eq__" "Table.__eq__" (defArgs s_Table_eq) (defBody s_Table_eq) (defScope s_Table_eq) .none kVTable_eq dcTable_eq pmTable_eq anTable_eq cdTable_eq ctTable_eq), slTable_eq⟩)
    (o_Table_eq : PySem.W.codeIn K cdTable_eq "Table.__eq__" = true)
    (k_Table_eq : PySem.W.keepIn K (.ref ATable_eq) = true)
    (a_turned : PySem.W.nsIn K mainGlobals "_law_turned" = some (some (.ref Aturned)))
    (l_turned : K.lookup Aturned = some ⟨octurned, odturned, .func (PySem.W.fnOf "_law_turned" "_law_turned" (defArgs s_turned) (defBody s_turned) (defScope s_turned) .none kVturned dcturned pmturned anturned cdturned ctturned), slturned⟩)
    (o_turned : PySem.W.codeIn K cdturned "_law_turned" = true)
    (k_turned : PySem.W.keepIn K (.ref Aturned) = true)
    (a_near_days : PySem.W.nsIn K mainGlobals "_law_near_days" = some (some (.ref Anear_days)))
    (l_near_days : K.lookup Anear_days = some ⟨ocnear_days, odnear_days, .func (PySem.W.fnOf "_law_near_days" "_law_near_days" (defArgs s_near_days) (defBody s_near_days) (defScope s_near_days) .none kVnear_days dcnear_days pmnear_days annear_days cdnear_days ctnear_days), slnear_days⟩)
    (o_near_days : PySem.W.codeIn K cdnear_days "_law_near_days" = true)
    (k_near_days : PySem.W.keepIn K (.ref Anear_days) = true)
    (a_named_right : PySem.W.nsIn K mainGlobals "_law_named_right" = some (some (.ref Anamed_right)))
    (l_named_right : K.lookup Anamed_right = some ⟨ocnamed_right, odnamed_right, .func (PySem.W.fnOf "_law_named_right" "_law_named_right" (defArgs s_named_right) (defBody s_named_right) (defScope s_named_right) .none kVnamed_right dcnamed_right pmnamed_right annamed_right cdnamed_right ctnamed_right), slnamed_right⟩)
    (o_named_right : PySem.W.codeIn K cdnamed_right "_law_named_right" = true)
    (k_named_right : PySem.W.keepIn K (.ref Anamed_right) = true)
    (a_right : PySem.W.nsIn K mainGlobals "_law_right" = some (some (.ref Aright)))
    (l_right : K.lookup Aright = some ⟨ocright, odright, .func (PySem.W.fnOf "_law_right" "_law_right" (defArgs s_right) (defBody s_right) (defScope s_right) .none kVright dcright pmright anright cdright ctright), slright⟩)
    (o_right : PySem.W.codeIn K cdright "_law_right" = true)
    (k_right : PySem.W.keepIn K (.ref Aright) = true)
    (a_pot : PySem.W.nsIn K mainGlobals "_law_pot" = some (some (.ref Apot)))
    (l_pot : K.lookup Apot = some ⟨ocpot, odpot, .func (PySem.W.fnOf "_law_pot" "_law_pot" (defArgs s_pot) (defBody s_pot) (defScope s_pot) .none kVpot dcpot pmpot anpot cdpot ctpot), slpot⟩)
    (o_pot : PySem.W.codeIn K cdpot "_law_pot" = true)
    (k_pot : PySem.W.keepIn K (.ref Apot) = true)
    (a_law : PySem.W.nsIn K mainGlobals "law" = some (some (.ref Alaw)))
    (l_law : K.lookup Alaw = some ⟨oclaw, odlaw, .func (PySem.W.fnOf "law" "law" (defArgs s_law) (defBody s_law) (defScope s_law) .none kVlaw dclaw pmlaw anlaw cdlaw ctlaw), sllaw⟩)
    (o_law : PySem.W.codeIn K cdlaw "law" = true)
    (k_law : PySem.W.keepIn K (.ref Alaw) = true)
    (aC_Table : PySem.W.nsIn K mainGlobals "Table" = some (some (.ref CTable)))
    (pg_Table : PySem.W.plainGet K CTable Str.empty = true)
    (hd_Table : PySem.W.hasDictIn K CTable = true)
    (po_Table : PySem.W.plainOver K CTable = true)
    (sa_Table : PySem.W.findIn K (.ref CTable) "__setattr__" = some (some (.builtin "object.__setattr__")))
    (mk_Table : PySem.W.makesIn K CTable = true)
    (kc_Table : PySem.W.keepIn K (.ref CTable) = true)
    (na_Table__rounds : PySem.W.findIn K (.ref CTable) "_rounds" = some none)
    (ic1_Table : PySem.W.findIn K (.ref CTable) "__class__" = some (some (.builtin "object.__class__")))
    (ic2_Table : PySem.W.specialIn K (.builtin "object.__class__") "__get__" = some (some (.builtin "getset_descriptor.__get__")))
    (ic3_Table : PySem.W.takesIn K (.builtin "object.__class__") = some true)
    (ic4_Table : PySem.W.mroIn K CTable (.type "object") = some true)
    (in1_Table : PySem.W.isClsIn K CTable = true)
    (in2_Table : PySem.W.typeIn K (.ref CTable) = some (.type "type"))
    (z_abs : PySem.W.nsIn K mainGlobals "abs" = some none)
    (z_all : PySem.W.nsIn K mainGlobals "all" = some none)
    (z_any : PySem.W.nsIn K mainGlobals "any" = some none)
    (z_bool : PySem.W.nsIn K mainGlobals "bool" = some none)
    (z_dict : PySem.W.nsIn K mainGlobals "dict" = some none)
    (z_divmod : PySem.W.nsIn K mainGlobals "divmod" = some none)
    (z_enumerate : PySem.W.nsIn K mainGlobals "enumerate" = some none)
    (z_int : PySem.W.nsIn K mainGlobals "int" = some none)
    (z_isinstance : PySem.W.nsIn K mainGlobals "isinstance" = some none)
    (z_len : PySem.W.nsIn K mainGlobals "len" = some none)
    (z_list : PySem.W.nsIn K mainGlobals "list" = some none)
    (z_max : PySem.W.nsIn K mainGlobals "max" = some none)
    (z_min : PySem.W.nsIn K mainGlobals "min" = some none)
    (z_range : PySem.W.nsIn K mainGlobals "range" = some none)
    (z_repr : PySem.W.nsIn K mainGlobals "repr" = some none)
    (z_set : PySem.W.nsIn K mainGlobals "set" = some none)
    (z_sorted : PySem.W.nsIn K mainGlobals "sorted" = some none)
    (z_sum : PySem.W.nsIn K mainGlobals "sum" = some none)
    (z_tuple : PySem.W.nsIn K mainGlobals "tuple" = some none)
    (z_zip : PySem.W.nsIn K mainGlobals "zip" = some none)
    (c_FEWEST_MEETINGS : PySem.W.nsIn K mainGlobals "FEWEST_MEETINGS" = some (some (.int 2 tFEWEST_MEETINGS)))
    (c_MOST_MEETINGS : PySem.W.nsIn K mainGlobals "MOST_MEETINGS" = some (some (.int 12 tMOST_MEETINGS)))
    (c_MOST_ROUNDS : PySem.W.nsIn K mainGlobals "MOST_ROUNDS" = some (some (.int 60 tMOST_ROUNDS))) :
    ∃ fd : FuncData, (∀ (s : Shared) (v : Value), BindsTo s fd ⟨[v], []⟩ [("_law_script", v)]) ∧ ∀ base : Heap, K.In base → base.Ns mainGlobals mg → FnG l.prog w K mg base 8 fa fd ["_law_script"] (sp_law K) := by
  have e := hfa.symm.trans (PySem.W.mg_of X G a_law)
  cases e
  have T : Txt w K mg ⟨Adraw, (PySem.W.fnOf "_law_draw" "_law_draw" (defArgs s_draw) (defBody s_draw) (defScope s_draw) .none kVdraw dcdraw pmdraw andraw cddraw ctdraw), Apick, (PySem.W.fnOf "_law_pick" "_law_pick" (defArgs s_pick) (defBody s_pick) (defScope s_pick) .none kVpick dcpick pmpick anpick cdpick ctpick), Amany, (PySem.W.fnOf "_law_many" "_law_many" (defArgs s_many) (defBody s_many) (defScope s_many) .none kVmany dcmany pmmany anmany cdmany ctmany), Amixed, (PySem.W.fnOf "_law_mixed" "_law_mixed" (defArgs s_mixed) (defBody s_mixed) (defScope s_mixed) .none kVmixed dcmixed pmmixed anmixed cdmixed ctmixed), Aday, (PySem.W.fnOf "_law_day" "_law_day" (defArgs s_day) (defBody s_day) (defScope s_day) .none kVday dcday pmday anday cdday ctday), Adays, (PySem.W.fnOf "_law_days" "_law_days" (defArgs s_days) (defBody s_days) (defScope s_days) .none kVdays dcdays pmdays andays cddays ctdays), Apassed, (PySem.W.fnOf "_law_passed" "_law_passed" (defArgs s_passed) (defBody s_passed) (defScope s_passed) .none kVpassed dcpassed pmpassed anpassed cdpassed ctpassed), Ais_list, (PySem.W.fnOf "is_list" "is_list" (defArgs s_is_list) (defBody s_is_list) (defScope s_is_list) .none kVis_list dcis_list pmis_list anis_list cdis_list ctis_list), Ais_integer, (PySem.W.fnOf "is_integer" "is_integer" (defArgs s_is_integer) (defBody s_is_integer) (defScope s_is_integer) .none kVis_integer dcis_integer pmis_integer anis_integer cdis_integer ctis_integer), Ais_meeting, (PySem.W.fnOf "_is_meeting" "_is_meeting" (defArgs s_is_meeting) (defBody s_is_meeting) (defScope s_is_meeting) .none kVis_meeting dcis_meeting pmis_meeting anis_meeting cdis_meeting ctis_meeting), Ais_round, (PySem.W.fnOf "is_round" "is_round" (defArgs s_is_round) (defBody s_is_round) (defScope s_is_round) .none kVis_round dcis_round pmis_round anis_round cdis_round ctis_round), Acheck_rounds, (PySem.W.fnOf "_check_rounds" "_check_rounds" (defArgs s_check_rounds) (defBody s_check_rounds) (defScope s_check_rounds) .none kVcheck_rounds dccheck_rounds pmcheck_rounds ancheck_rounds cdcheck_rounds ctcheck_rounds), ATable_init, (PySem.W.fnOf "__init__" "Table.__init__" (defArgs s_Table_init) (defBody s_Table_init) (defScope s_Table_init) .none kVTable_init dcTable_init pmTable_init anTable_init cdTable_init ctTable_init), Aempty, (PySem.W.fnOf "_law_empty" "_law_empty" (defArgs s_empty) (defBody s_empty) (defScope s_empty) .none kVempty dcempty pmempty anempty cdempty ctempty), ATable_size, (PySem.W.fnOf "size" "Table.size" (defArgs s_Table_size) (defBody s_Table_size) (defScope s_Table_size) .none kVTable_size dcTable_size pmTable_size anTable_size cdTable_size ctTable_size), ATable_len, (PySem.W.fnOf "__len__" "Table.__len__" (defArgs s_Table_len) (defBody s_Table_len) (defScope s_Table_len) .none kVTable_len dcTable_len pmTable_len anTable_len cdTable_len ctTable_len), ATable_rounds, (PySem.W.fnOf "rounds" "Table.rounds" (defArgs s_Table_rounds) (defBody s_Table_rounds) (defScope s_Table_rounds) .none kVTable_rounds dcTable_rounds pmTable_rounds anTable_rounds cdTable_rounds ctTable_rounds), Ais_count, (PySem.W.fnOf "is_count" "is_count" (defArgs s_is_count) (defBody s_is_count) (defScope s_is_count) .none kVis_count dcis_count pmis_count anis_count cdis_count ctis_count), Acheck_day, (PySem.W.fnOf "check_day" "check_day" (defArgs s_check_day) (defBody s_check_day) (defScope s_check_day) .none kVcheck_day dccheck_day pmcheck_day ancheck_day cdcheck_day ctcheck_day), ATable_meetings, (PySem.W.fnOf "meetings" "Table.meetings" (defArgs s_Table_meetings) (defBody s_Table_meetings) (defScope s_Table_meetings) .none kVTable_meetings dcTable_meetings pmTable_meetings anTable_meetings cdTable_meetings ctTable_meetings), Asorted, (PySem.W.fnOf "_law_sorted" "_law_sorted" (defArgs s_sorted) (defBody s_sorted) (defScope s_sorted) .none kVsorted dcsorted pmsorted ansorted cdsorted ctsorted), ATable_repr, (PySem.W.fnOf "__repr__" "Table.__repr__" (defArgs s_Table_repr) (defBody s_Table_repr) (defScope s_Table_repr) .none kVTable_repr dcTable_repr pmTable_repr anTable_repr cdTable_repr ctTable_repr), Acheck_team, (PySem.W.fnOf "check_team" "check_team" (defArgs s_check_team) (defBody s_check_team) (defScope s_check_team) .none kVcheck_team dccheck_team pmcheck_team ancheck_team cdcheck_team ctcheck_team), Amark_in, (PySem.W.fnOf "_mark_in" "_mark_in" (defArgs s_mark_in) (defBody s_mark_in) (defScope s_mark_in) .none kVmark_in dcmark_in pmmark_in anmark_in cdmark_in ctmark_in), ATable_row_of, (PySem.W.fnOf "row_of" "Table.row_of" (defArgs s_Table_row_of) (defBody s_Table_row_of) (defScope s_Table_row_of) .none kVTable_row_of dcTable_row_of pmTable_row_of anTable_row_of cdTable_row_of ctTable_row_of), Arow, (PySem.W.fnOf "_law_row" "_law_row" (defArgs s_row) (defBody s_row) (defScope s_row) .none kVrow dcrow pmrow anrow cdrow ctrow), Ais, (PySem.W.fnOf "_law_is" "_law_is" (defArgs s_is) (defBody s_is) (defScope s_is) .none kVis dcis pmis anis cdis ctis), Acheck_pair, (PySem.W.fnOf "check_pair" "check_pair" (defArgs s_check_pair) (defBody s_check_pair) (defScope s_check_pair) .none kVcheck_pair dccheck_pair pmcheck_pair ancheck_pair cdcheck_pair ctcheck_pair), ATable_met_in, (PySem.W.fnOf "met_in" "Table.met_in" (defArgs s_Table_met_in) (defBody s_Table_met_in) (defScope s_Table_met_in) .none kVTable_met_in dcTable_met_in pmTable_met_in anTable_met_in cdTable_met_in ctTable_met_in), Amet, (PySem.W.fnOf "_law_met" "_law_met" (defArgs s_met) (defBody s_met) (defScope s_met) .none kVmet dcmet pmmet anmet cdmet ctmet), Aare_met, (PySem.W.fnOf "_law_are_met" "_law_are_met" (defArgs s_are_met) (defBody s_are_met) (defScope s_are_met) .none kVare_met dcare_met pmare_met anare_met cdare_met ctare_met), ATable_eq, (PySem.W.fnOf "__eq__" "Table.__eq__" (defArgs s_Table_eq) (defBody s_Table_eq) (defScope s_Table_eq) .none kVTable_eq dcTable_eq pmTable_eq anTable_eq cdTable_eq ctTable_eq), Aturned, (PySem.W.fnOf "_law_turned" "_law_turned" (defArgs s_turned) (defBody s_turned) (defScope s_turned) .none kVturned dcturned pmturned anturned cdturned ctturned), Anear_days, (PySem.W.fnOf "_law_near_days" "_law_near_days" (defArgs s_near_days) (defBody s_near_days) (defScope s_near_days) .none kVnear_days dcnear_days pmnear_days annear_days cdnear_days ctnear_days), Anamed_right, (PySem.W.fnOf "_law_named_right" "_law_named_right" (defArgs s_named_right) (defBody s_named_right) (defScope s_named_right) .none kVnamed_right dcnamed_right pmnamed_right annamed_right cdnamed_right ctnamed_right), Aright, (PySem.W.fnOf "_law_right" "_law_right" (defArgs s_right) (defBody s_right) (defScope s_right) .none kVright dcright pmright anright cdright ctright), Apot, (PySem.W.fnOf "_law_pot" "_law_pot" (defArgs s_pot) (defBody s_pot) (defScope s_pot) .none kVpot dcpot pmpot anpot cdpot ctpot), fa, (PySem.W.fnOf "law" "law" (defArgs s_law) (defBody s_law) (defScope s_law) .none kVlaw dclaw pmlaw anlaw cdlaw ctlaw), CTable, PTable_size⟩ := ⟨fun_mk (st := s_draw) l_draw o_draw k_draw, (fun_mk (st := s_draw) l_draw o_draw k_draw).binds (ps := ["_law_pot_here", "_law_many_here"]) fun _ _ _ _ _ _ us hl => match us, hl with | [_, _], _ => rfl, PySem.W.mg_of X G a_draw, fun_mk (st := s_pick) l_pick o_pick k_pick, (fun_mk (st := s_pick) l_pick o_pick k_pick).binds (ps := ["_law_pot_here", "_law_some"]) fun _ _ _ _ _ _ us hl => match us, hl with | [_, _], _ => rfl, PySem.W.mg_of X G a_pick, fun_mk (st := s_many) l_many o_many k_many, (fun_mk (st := s_many) l_many o_many k_many).binds (ps := ["_law_pot_here"]) fun _ _ _ _ _ _ us hl => match us, hl with | [_], _ => rfl, PySem.W.mg_of X G a_many, fun_mk (st := s_mixed) l_mixed o_mixed k_mixed, (fun_mk (st := s_mixed) l_mixed o_mixed k_mixed).binds (ps := ["_law_pot_here", "_law_some"]) fun _ _ _ _ _ _ us hl => match us, hl with | [_, _], _ => rfl, PySem.W.mg_of X G a_mixed, fun_mk (st := s_day) l_day o_day k_day, (fun_mk (st := s_day) l_day o_day k_day).binds (ps := ["_law_pot_here", "_law_many_here"]) fun _ _ _ _ _ _ us hl => match us, hl with | [_, _], _ => rfl, PySem.W.mg_of X G a_day, fun_mk (st := s_days) l_days o_days k_days, (fun_mk (st := s_days) l_days o_days k_days).binds (ps := ["_law_pot_here", "_law_many_here", "_law_most"]) fun _ _ _ _ _ _ us hl => match us, hl with | [_, _, _], _ => rfl, PySem.W.mg_of X G a_days, fun_mk (st := s_passed) l_passed o_passed k_passed, (fun_mk (st := s_passed) l_passed o_passed k_passed).binds (ps := ["_law_pot_here", "_law_days_here"]) fun _ _ _ _ _ _ us hl => match us, hl with | [_, _], _ => rfl, PySem.W.mg_of X G a_passed, fun_mk (st := s_is_list) l_is_list o_is_list k_is_list, (fun_mk (st := s_is_list) l_is_list o_is_list k_is_list).binds (ps := ["value"]) fun _ _ _ _ _ _ us hl => match us, hl with | [_], _ => rfl, PySem.W.mg_of X G a_is_list, fun_mk (st := s_is_integer) l_is_integer o_is_integer k_is_integer, (fun_mk (st := s_is_integer) l_is_integer o_is_integer k_is_integer).binds (ps := ["value"]) fun _ _ _ _ _ _ us hl => match us, hl with | [_], _ => rfl, PySem.W.mg_of X G a_is_integer, fun_mk (st := s_is_meeting) l_is_meeting o_is_meeting k_is_meeting, (fun_mk (st := s_is_meeting) l_is_meeting o_is_meeting k_is_meeting).binds (ps := ["value"]) fun _ _ _ _ _ _ us hl => match us, hl with | [_], _ => rfl, PySem.W.mg_of X G a_is_meeting, fun_mk (st := s_is_round) l_is_round o_is_round k_is_round, (fun_mk (st := s_is_round) l_is_round o_is_round k_is_round).binds (ps := ["value"]) fun _ _ _ _ _ _ us hl => match us, hl with | [_], _ => rfl, PySem.W.mg_of X G a_is_round, fun_mk (st := s_check_rounds) l_check_rounds o_check_rounds k_check_rounds, (fun_mk (st := s_check_rounds) l_check_rounds o_check_rounds k_check_rounds).binds (ps := ["rounds"]) fun _ _ _ _ _ _ us hl => match us, hl with | [_], _ => rfl, PySem.W.mg_of X G a_check_rounds, fun_mk (st := s_Table_init) l_Table_init o_Table_init k_Table_init, (fun_mk (st := s_Table_init) l_Table_init o_Table_init k_Table_init).binds (ps := ["self", "rounds"]) fun _ _ _ _ _ _ us hl => match us, hl with | [_, _], _ => rfl, fun_mk (st := s_empty) l_empty o_empty k_empty, (fun_mk (st := s_empty) l_empty o_empty k_empty).binds (ps := ["_law_some"]) fun _ _ _ _ _ _ us hl => match us, hl with | [_], _ => rfl, PySem.W.mg_of X G a_empty, fun_mk (st := s_Table_size) l_Table_size o_Table_size k_Table_size, (fun_mk (st := s_Table_size) l_Table_size o_Table_size k_Table_size).binds (ps := ["self"]) fun _ _ _ _ _ _ us hl => match us, hl with | [_], _ => rfl, ⟨pa_Table_size, pg_Table_size, pt_Table_size, ⟨_, pr_Table_size⟩⟩, fun_mk (st := s_Table_len) l_Table_len o_Table_len k_Table_len, (fun_mk (st := s_Table_len) l_Table_len o_Table_len k_Table_len).binds (ps := ["self"]) fun _ _ _ _ _ _ us hl => match us, hl with | [_], _ => rfl, ⟨a_Table_len, i_Table_len, k_Table_len⟩, fun_mk (st := s_Table_rounds) l_Table_rounds o_Table_rounds k_Table_rounds, (fun_mk (st := s_Table_rounds) l_Table_rounds o_Table_rounds k_Table_rounds).binds (ps := ["self"]) fun _ _ _ _ _ _ us hl => match us, hl with | [_], _ => rfl, ⟨a_Table_rounds, i_Table_rounds, k_Table_rounds⟩, fun_mk (st := s_is_count) l_is_count o_is_count k_is_count, (fun_mk (st := s_is_count) l_is_count o_is_count k_is_count).binds (ps := ["value"]) fun _ _ _ _ _ _ us hl => match us, hl with | [_], _ => rfl, PySem.W.mg_of X G a_is_count, fun_mk (st := s_check_day) l_check_day o_check_day k_check_day, (fun_mk (st := s_check_day) l_check_day o_check_day k_check_day).binds (ps := ["day", "rounds"]) fun _ _ _ _ _ _ us hl => match us, hl with | [_, _], _ => rfl, PySem.W.mg_of X G a_check_day, fun_mk (st := s_Table_meetings) l_Table_meetings o_Table_meetings k_Table_meetings, (fun_mk (st := s_Table_meetings) l_Table_meetings o_Table_meetings k_Table_meetings).binds (ps := ["self", "day"]) fun _ _ _ _ _ _ us hl => match us, hl with | [_, _], _ => rfl, ⟨a_Table_meetings, i_Table_meetings, k_Table_meetings⟩, fun_mk (st := s_sorted) l_sorted o_sorted k_sorted, (fun_mk (st := s_sorted) l_sorted o_sorted k_sorted).binds (ps := ["_law_days_here"]) fun _ _ _ _ _ _ us hl => match us, hl with | [_], _ => rfl, PySem.W.mg_of X G a_sorted, fun_mk (st := s_Table_repr) l_Table_repr o_Table_repr k_Table_repr, (fun_mk (st := s_Table_repr) l_Table_repr o_Table_repr k_Table_repr).binds (ps := ["self"]) fun _ _ _ _ _ _ us hl => match us, hl with | [_], _ => rfl, ⟨a_Table_repr, i_Table_repr, k_Table_repr⟩, fun_mk (st := s_check_team) l_check_team o_check_team k_check_team, (fun_mk (st := s_check_team) l_check_team o_check_team k_check_team).binds (ps := ["team", "teams"]) fun _ _ _ _ _ _ us hl => match us, hl with | [_, _], _ => rfl, PySem.W.mg_of X G a_check_team, fun_mk (st := s_mark_in) l_mark_in o_mark_in k_mark_in, (fun_mk (st := s_mark_in) l_mark_in o_mark_in k_mark_in).binds (ps := ["meetings", "team"]) fun _ _ _ _ _ _ us hl => match us, hl with | [_, _], _ => rfl, PySem.W.mg_of X G a_mark_in, fun_mk (st := s_Table_row_of) l_Table_row_of o_Table_row_of k_Table_row_of, (fun_mk (st := s_Table_row_of) l_Table_row_of o_Table_row_of k_Table_row_of).binds (ps := ["self", "team"]) fun _ _ _ _ _ _ us hl => match us, hl with | [_, _], _ => rfl, ⟨a_Table_row_of, i_Table_row_of, k_Table_row_of⟩, fun_mk (st := s_row) l_row o_row k_row, (fun_mk (st := s_row) l_row o_row k_row).binds (ps := ["_law_days_here", "_law_who"]) fun _ _ _ _ _ _ us hl => match us, hl with | [_, _], _ => rfl, PySem.W.mg_of X G a_row, fun_mk (st := s_is) l_is o_is k_is, (fun_mk (st := s_is) l_is o_is k_is).binds (ps := ["_law_made", "_law_days_here", "_law_many_here"]) fun _ _ _ _ _ _ us hl => match us, hl with | [_, _, _], _ => rfl, PySem.W.mg_of X G a_is, fun_mk (st := s_check_pair) l_check_pair o_check_pair k_check_pair, (fun_mk (st := s_check_pair) l_check_pair o_check_pair k_check_pair).binds (ps := ["one", "other", "teams"]) fun _ _ _ _ _ _ us hl => match us, hl with | [_, _, _], _ => rfl, PySem.W.mg_of X G a_check_pair, fun_mk (st := s_Table_met_in) l_Table_met_in o_Table_met_in k_Table_met_in, (fun_mk (st := s_Table_met_in) l_Table_met_in o_Table_met_in k_Table_met_in).binds (ps := ["self", "one", "other"]) fun _ _ _ _ _ _ us hl => match us, hl with | [_, _, _], _ => rfl, ⟨a_Table_met_in, i_Table_met_in, k_Table_met_in⟩, fun_mk (st := s_met) l_met o_met k_met, (fun_mk (st := s_met) l_met o_met k_met).binds (ps := ["_law_days_here", "_law_who", "_law_mate"]) fun _ _ _ _ _ _ us hl => match us, hl with | [_, _, _], _ => rfl, PySem.W.mg_of X G a_met, fun_mk (st := s_are_met) l_are_met o_are_met k_are_met, (fun_mk (st := s_are_met) l_are_met o_are_met k_are_met).binds (ps := ["_law_made", "_law_days_here", "_law_many_here"]) fun _ _ _ _ _ _ us hl => match us, hl with | [_, _, _], _ => rfl, PySem.W.mg_of X G a_are_met, fun_mk (st := s_Table_eq) l_Table_eq o_Table_eq k_Table_eq, (fun_mk (st := s_Table_eq) l_Table_eq o_Table_eq k_Table_eq).binds (ps := ["self", "other"]) fun _ _ _ _ _ _ us hl => match us, hl with | [_, _], _ => rfl, ⟨a_Table_eq, i_Table_eq, k_Table_eq⟩, fun_mk (st := s_turned) l_turned o_turned k_turned, (fun_mk (st := s_turned) l_turned o_turned k_turned).binds (ps := ["_law_days_here", "_law_some"]) fun _ _ _ _ _ _ us hl => match us, hl with | [_, _], _ => rfl, PySem.W.mg_of X G a_turned, fun_mk (st := s_near_days) l_near_days o_near_days k_near_days, (fun_mk (st := s_near_days) l_near_days o_near_days k_near_days).binds (ps := ["_law_pot_here", "_law_days_here"]) fun _ _ _ _ _ _ us hl => match us, hl with | [_, _], _ => rfl, PySem.W.mg_of X G a_near_days, fun_mk (st := s_named_right) l_named_right o_named_right k_named_right, (fun_mk (st := s_named_right) l_named_right o_named_right k_named_right).binds (ps := ["_law_pot_here", "_law_made", "_law_days_here", "_law_many_here"]) fun _ _ _ _ _ _ us hl => match us, hl with | [_, _, _, _], _ => rfl, PySem.W.mg_of X G a_named_right, fun_mk (st := s_right) l_right o_right k_right, (fun_mk (st := s_right) l_right o_right k_right).binds (ps := ["_law_pot_here"]) fun _ _ _ _ _ _ us hl => match us, hl with | [_], _ => rfl, PySem.W.mg_of X G a_right, fun_mk (st := s_pot) l_pot o_pot k_pot, (fun_mk (st := s_pot) l_pot o_pot k_pot).binds (ps := ["_law_script", "_law_k"]) fun _ _ _ _ _ _ us hl => match us, hl with | [_, _], _ => rfl, PySem.W.mg_of X G a_pot, fun_mk (st := s_law) l_law o_law k_law, (fun_mk (st := s_law) l_law o_law k_law).binds (ps := ["_law_script"]) fun _ _ _ _ _ _ us hl => match us, hl with | [_], _ => rfl, PySem.W.mg_of X G a_law, ⟨pg_Table, hd_Table, po_Table, sa_Table⟩, PySem.W.mg_of X G aC_Table, ⟨mk_Table, a_Table_init, i_Table_init, kc_Table⟩, na_Table__rounds, ⟨⟨pg_Table, hd_Table, po_Table, sa_Table⟩, ic1_Table, ic2_Table, ic3_Table, ic4_Table⟩, ⟨in1_Table, in2_Table⟩, ⟨a_Table_len, i_Table_len⟩, ⟨a_Table_repr, i_Table_repr⟩, ⟨a_Table_eq, i_Table_eq⟩, PySem.W.mg_none_of X G z_abs, PySem.W.mg_none_of X G z_all, PySem.W.mg_none_of X G z_any, PySem.W.mg_none_of X G z_bool, PySem.W.mg_none_of X G z_dict, PySem.W.mg_none_of X G z_divmod, PySem.W.mg_none_of X G z_enumerate, PySem.W.mg_none_of X G z_int, PySem.W.mg_none_of X G z_isinstance, PySem.W.mg_none_of X G z_len, PySem.W.mg_none_of X G z_list, PySem.W.mg_none_of X G z_max, PySem.W.mg_none_of X G z_min, PySem.W.mg_none_of X G z_range, PySem.W.mg_none_of X G z_repr, PySem.W.mg_none_of X G z_set, PySem.W.mg_none_of X G z_sorted, PySem.W.mg_none_of X G z_sum, PySem.W.mg_none_of X G z_tuple, PySem.W.mg_none_of X G z_zip, ⟨_, PySem.W.mg_of X G c_FEWEST_MEETINGS, ⟨_, rfl⟩⟩, ⟨_, PySem.W.mg_of X G c_MOST_MEETINGS, ⟨_, rfl⟩⟩, ⟨_, PySem.W.mg_of X G c_MOST_ROUNDS, ⟨_, rfl⟩⟩, ⟨fun s us ws _ h1 h2 => match us, ws, h1, h2 with | [_], [_], _, _ => .of_eq rfl, fun r1 r2 => r1.append (.cons (vals_getD r2 0) (.nil))⟩, ⟨fun s us ws _ h1 h2 => match us, ws, h1, h2 with | [_], [_], _, _ => .of_eq rfl, fun r1 r2 => r1.append (.cons (vals_getD r2 0) (.nil))⟩, ⟨fun s us ws _ h1 h2 => match us, ws, h1, h2 with | [_], [_, _], _, _ => .of_eq rfl, fun r1 r2 => r1.append (.cons (vals_getD r2 1) (.cons (vals_getD r2 0) (.nil)))⟩, ⟨fun s us ws _ h1 h2 => match us, ws, h1, h2 with | [_], [_], _, _ => .of_eq rfl, fun r1 r2 => r1.append (.cons (vals_getD r2 0) (.nil))⟩⟩
  exact ⟨_, fun s v => .of_eq rfl, fun base _ _ => ok_law T⟩
theorem ob_eq (s : PySem.W.SharedT) : ob s = hk.obs s.abs := obF_eq s
theorem facts {l : PySem.W.OpenLaw} {w : World} {mg : Str → Option Value} {fa : Addr} {h : Heap} (Y : hk.says w h) (G : h.Ns mainGlobals mg) (hfa : mg "law" = some (.ref fa)) :
    ∃ K : PySem.W.Frag, K.In h ∧ ∃ (fd : FuncData) (sp : Sp), (∀ (s : Shared) (u : Value), BindsTo s fd ⟨[u], []⟩ [("_law_script", u)]) ∧
      (∀ (H : Hp) (a : Addr) (ns : List Int), ns.length ≤ 63 → Only H → SqL K H a (ns.map V.int) → sp [.ref a] H (fun v _ => v = .bl true) E0) ∧
      ∀ base : Heap, K.In base → base.Ns mainGlobals mg → FnG l.prog w K mg base 8 fa fd ["_law_script"] sp := by
  obtain ⟨K, KX, c_⟩ := Y
  have cx0_ : (gxa K && gxb K) = true := congrArg (fun z : AlR => z.1) c_
  obtain ⟨cx_, cy_⟩ := He.ba cx0_
  have cf_ : (fnL.map fun a => shR K (a K)) = fnV := congrArg (fun z : AlR => z.2.1) c_
  have ct_ : (tsL.map fun t => He.dicW K (t.1 K)) = tsL.map fun t => some (He.keysIn w.params t.2) := congrArg (fun z : AlR => z.2.2) c_
  obtain ⟨g0_, cx_⟩ := He.ba cx_
  obtain ⟨a_draw, fd_draw, o_draw, k_draw, a_pick, fd_pick, o_pick, k_pick, a_many, fd_many⟩ := of_decide_eq_true g0_
  obtain ⟨g1_, cx_⟩ := He.ba cx_
  obtain ⟨o_many, k_many, a_mixed, fd_mixed, o_mixed, k_mixed, a_day, fd_day, o_day, k_day⟩ := of_decide_eq_true g1_
  obtain ⟨g2_, cx_⟩ := He.ba cx_
  obtain ⟨a_days, fd_days, o_days, k_days, a_passed, fd_passed, o_passed, k_passed, a_is_list, fd_is_list⟩ := of_decide_eq_true g2_
  obtain ⟨g3_, cx_⟩ := He.ba cx_
  obtain ⟨o_is_list, k_is_list, a_is_integer, fd_is_integer, o_is_integer, k_is_integer, a_is_meeting, fd_is_meeting, o_is_meeting, k_is_meeting⟩ := of_decide_eq_true g3_
  obtain ⟨g4_, cx_⟩ := He.ba cx_
  obtain ⟨a_is_round, fd_is_round, o_is_round, k_is_round, a_check_rounds, fd_check_rounds, o_check_rounds, k_check_rounds, a_Table_init, i_Table_init⟩ := of_decide_eq_true g4_
  obtain ⟨g5_, cx_⟩ := He.ba cx_
  obtain ⟨fd_Table_init, o_Table_init, k_Table_init, a_empty, fd_empty, o_empty, k_empty, pa_Table_size, pg_Table_size, pt_Table_size⟩ := of_decide_eq_true g5_
  obtain ⟨g6_, cx_⟩ := He.ba cx_
  obtain ⟨fpr_Table_size, fd_Table_size, o_Table_size, k_Table_size, a_Table_len, i_Table_len, fd_Table_len, o_Table_len, k_Table_len, a_Table_rounds⟩ := of_decide_eq_true g6_
  obtain ⟨g7_, cx_⟩ := He.ba cx_
  obtain ⟨i_Table_rounds, fd_Table_rounds, o_Table_rounds, k_Table_rounds, a_is_count, fd_is_count, o_is_count, k_is_count, a_check_day, fd_check_day⟩ := of_decide_eq_true g7_
  obtain ⟨g8_, cx_⟩ := He.ba cx_
  obtain ⟨o_check_day, k_check_day, a_Table_meetings, i_Table_meetings, fd_Table_meetings, o_Table_meetings, k_Table_meetings, a_sorted, fd_sorted, o_sorted⟩ := of_decide_eq_true g8_
  have g9_ := cx_
  obtain ⟨k_sorted, a_Table_repr, i_Table_repr, fd_Table_repr, o_Table_repr, k_Table_repr, a_check_team, fd_check_team, o_check_team, k_check_team⟩ := of_decide_eq_true g9_
  obtain ⟨g10_, cy_⟩ := He.ba cy_
  obtain ⟨a_mark_in, fd_mark_in, o_mark_in, k_mark_in, a_Table_row_of, i_Table_row_of, fd_Table_row_of, o_Table_row_of, k_Table_row_of, a_row⟩ := of_decide_eq_true g10_
  obtain ⟨g11_, cy_⟩ := He.ba cy_
  obtain ⟨fd_row, o_row, k_row, a_is, fd_is, o_is, k_is, a_check_pair, fd_check_pair, o_check_pair⟩ := of_decide_eq_true g11_
  obtain ⟨g12_, cy_⟩ := He.ba cy_
  obtain ⟨k_check_pair, a_Table_met_in, i_Table_met_in, fd_Table_met_in, o_Table_met_in, k_Table_met_in, a_met, fd_met, o_met, k_met⟩ := of_decide_eq_true g12_
  obtain ⟨g13_, cy_⟩ := He.ba cy_
  obtain ⟨a_are_met, fd_are_met, o_are_met, k_are_met, a_Table_eq, i_Table_eq, fd_Table_eq, o_Table_eq, k_Table_eq, a_turned⟩ := of_decide_eq_true g13_
  obtain ⟨g14_, cy_⟩ := He.ba cy_
  obtain ⟨fd_turned, o_turned, k_turned, a_near_days, fd_near_days, o_near_days, k_near_days, a_named_right, fd_named_right, o_named_right⟩ := of_decide_eq_true g14_
  obtain ⟨g15_, cy_⟩ := He.ba cy_
  obtain ⟨k_named_right, a_right, fd_right, o_right, k_right, a_pot, fd_pot, o_pot, k_pot, a_law⟩ := of_decide_eq_true g15_
  obtain ⟨g16_, cy_⟩ := He.ba cy_
  obtain ⟨fd_law, o_law, k_law, aC_Table, pg_Table, hd_Table, po_Table, sa_Table, mk_Table, kc_Table⟩ := of_decide_eq_true g16_
  obtain ⟨g17_, cy_⟩ := He.ba cy_
  obtain ⟨na_Table__rounds, ic1_Table, ic2_Table, ic3_Table, ic4_Table, in1_Table, in2_Table, z_abs, z_all, z_any⟩ := of_decide_eq_true g17_
  obtain ⟨g18_, cy_⟩ := He.ba cy_
  obtain ⟨z_bool, z_dict, z_divmod, z_enumerate, z_int, z_isinstance, z_len, z_list, z_max, z_min⟩ := of_decide_eq_true g18_
  have g19_ := cy_
  obtain ⟨z_range, z_repr, z_set, z_sorted, z_sum, z_tuple, z_zip, c_FEWEST_MEETINGS, c_MOST_MEETINGS, c_MOST_ROUNDS⟩ := of_decide_eq_true g19_
  obtain ⟨_, _, _, _, _, _, _, _, l_draw⟩ := shR_ok (fnAt cf_ 0 (a := xa_Adraw) (v := sv_draw) (by rfl) (by rfl)) fd_draw rfl
  obtain ⟨_, _, _, _, _, _, _, _, l_pick⟩ := shR_ok (fnAt cf_ 1 (a := xa_Apick) (v := sv_pick) (by rfl) (by rfl)) fd_pick rfl
  obtain ⟨_, _, _, _, _, _, _, _, l_many⟩ := shR_ok (fnAt cf_ 2 (a := xa_Amany) (v := sv_many) (by rfl) (by rfl)) fd_many rfl
  obtain ⟨_, _, _, _, _, _, _, _, l_mixed⟩ := shR_ok (fnAt cf_ 3 (a := xa_Amixed) (v := sv_mixed) (by rfl) (by rfl)) fd_mixed rfl
  obtain ⟨_, _, _, _, _, _, _, _, l_day⟩ := shR_ok (fnAt cf_ 4 (a := xa_Aday) (v := sv_day) (by rfl) (by rfl)) fd_day rfl
  obtain ⟨_, _, _, _, _, _, _, _, l_days⟩ := shR_ok (fnAt cf_ 5 (a := xa_Adays) (v := sv_days) (by rfl) (by rfl)) fd_days rfl
  obtain ⟨_, _, _, _, _, _, _, _, l_passed⟩ := shR_ok (fnAt cf_ 6 (a := xa_Apassed) (v := sv_passed) (by rfl) (by rfl)) fd_passed rfl
  obtain ⟨_, _, _, _, _, _, _, _, l_is_list⟩ := shR_ok (fnAt cf_ 7 (a := xa_Ais_list) (v := sv_is_list) (by rfl) (by rfl)) fd_is_list rfl
  obtain ⟨_, _, _, _, _, _, _, _, l_is_integer⟩ := shR_ok (fnAt cf_ 8 (a := xa_Ais_integer) (v := sv_is_integer) (by rfl) (by rfl)) fd_is_integer rfl
  obtain ⟨_, _, _, _, _, _, _, _, l_is_meeting⟩ := shR_ok (fnAt cf_ 9 (a := xa_Ais_meeting) (v := sv_is_meeting) (by rfl) (by rfl)) fd_is_meeting rfl
  obtain ⟨_, _, _, _, _, _, _, _, l_is_round⟩ := shR_ok (fnAt cf_ 10 (a := xa_Ais_round) (v := sv_is_round) (by rfl) (by rfl)) fd_is_round rfl
  obtain ⟨_, _, _, _, _, _, _, _, l_check_rounds⟩ := shR_ok (fnAt cf_ 11 (a := xa_Acheck_rounds) (v := sv_check_rounds) (by rfl) (by rfl)) fd_check_rounds rfl
  obtain ⟨_, _, _, _, _, _, _, _, l_Table_init⟩ := shR_ok (fnAt cf_ 12 (a := xa_ATable_init) (v := sv_Table_init) (by rfl) (by rfl)) fd_Table_init rfl
  obtain ⟨_, _, _, _, _, _, _, _, l_empty⟩ := shR_ok (fnAt cf_ 13 (a := xa_Aempty) (v := sv_empty) (by rfl) (by rfl)) fd_empty rfl
  obtain ⟨_, pr_Table_size⟩ := rcB_ok fpr_Table_size
  obtain ⟨_, _, _, _, _, _, _, _, l_Table_size⟩ := shR_ok (fnAt cf_ 14 (a := xa_ATable_size) (v := sv_Table_size) (by rfl) (by rfl)) fd_Table_size rfl
  obtain ⟨_, _, _, _, _, _, _, _, l_Table_len⟩ := shR_ok (fnAt cf_ 15 (a := xa_ATable_len) (v := sv_Table_len) (by rfl) (by rfl)) fd_Table_len rfl
  obtain ⟨_, _, _, _, _, _, _, _, l_Table_rounds⟩ := shR_ok (fnAt cf_ 16 (a := xa_ATable_rounds) (v := sv_Table_rounds) (by rfl) (by rfl)) fd_Table_rounds rfl
  obtain ⟨_, _, _, _, _, _, _, _, l_is_count⟩ := shR_ok (fnAt cf_ 17 (a := xa_Ais_count) (v := sv_is_count) (by rfl) (by rfl)) fd_is_count rfl
  obtain ⟨_, _, _, _, _, _, _, _, l_check_day⟩ := shR_ok (fnAt cf_ 18 (a := xa_Acheck_day) (v := sv_check_day) (by rfl) (by rfl)) fd_check_day rfl
  obtain ⟨_, _, _, _, _, _, _, _, l_Table_meetings⟩ := shR_ok (fnAt cf_ 19 (a := xa_ATable_meetings) (v := sv_Table_meetings) (by rfl) (by rfl)) fd_Table_meetings rfl
  obtain ⟨_, _, _, _, _, _, _, _, l_sorted⟩ := shR_ok (fnAt cf_ 20 (a := xa_Asorted) (v := sv_sorted) (by rfl) (by rfl)) fd_sorted rfl
  obtain ⟨_, _, _, _, _, _, _, _, l_Table_repr⟩ := shR_ok (fnAt cf_ 21 (a := xa_ATable_repr) (v := sv_Table_repr) (by rfl) (by rfl)) fd_Table_repr rfl
  obtain ⟨_, _, _, _, _, _, _, _, l_check_team⟩ := shR_ok (fnAt cf_ 22 (a := xa_Acheck_team) (v := sv_check_team) (by rfl) (by rfl)) fd_check_team rfl
  obtain ⟨_, _, _, _, _, _, _, _, l_mark_in⟩ := shR_ok (fnAt cf_ 23 (a := xa_Amark_in) (v := sv_mark_in) (by rfl) (by rfl)) fd_mark_in rfl
  obtain ⟨_, _, _, _, _, _, _, _, l_Table_row_of⟩ := shR_ok (fnAt cf_ 24 (a := xa_ATable_row_of) (v := sv_Table_row_of) (by rfl) (by rfl)) fd_Table_row_of rfl
  obtain ⟨_, _, _, _, _, _, _, _, l_row⟩ := shR_ok (fnAt cf_ 25 (a := xa_Arow) (v := sv_row) (by rfl) (by rfl)) fd_row rfl
  obtain ⟨_, _, _, _, _, _, _, _, l_is⟩ := shR_ok (fnAt cf_ 26 (a := xa_Ais) (v := sv_is) (by rfl) (by rfl)) fd_is rfl
  obtain ⟨_, _, _, _, _, _, _, _, l_check_pair⟩ := shR_ok (fnAt cf_ 27 (a := xa_Acheck_pair) (v := sv_check_pair) (by rfl) (by rfl)) fd_check_pair rfl
  obtain ⟨_, _, _, _, _, _, _, _, l_Table_met_in⟩ := shR_ok (fnAt cf_ 28 (a := xa_ATable_met_in) (v := sv_Table_met_in) (by rfl) (by rfl)) fd_Table_met_in rfl
  obtain ⟨_, _, _, _, _, _, _, _, l_met⟩ := shR_ok (fnAt cf_ 29 (a := xa_Amet) (v := sv_met) (by rfl) (by rfl)) fd_met rfl
  obtain ⟨_, _, _, _, _, _, _, _, l_are_met⟩ := shR_ok (fnAt cf_ 30 (a := xa_Aare_met) (v := sv_are_met) (by rfl) (by rfl)) fd_are_met rfl
  obtain ⟨_, _, _, _, _, _, _, _, l_Table_eq⟩ := shR_ok (fnAt cf_ 31 (a := xa_ATable_eq) (v := sv_Table_eq) (by rfl) (by rfl)) fd_Table_eq rfl
  obtain ⟨_, _, _, _, _, _, _, _, l_turned⟩ := shR_ok (fnAt cf_ 32 (a := xa_Aturned) (v := sv_turned) (by rfl) (by rfl)) fd_turned rfl
  obtain ⟨_, _, _, _, _, _, _, _, l_near_days⟩ := shR_ok (fnAt cf_ 33 (a := xa_Anear_days) (v := sv_near_days) (by rfl) (by rfl)) fd_near_days rfl
  obtain ⟨_, _, _, _, _, _, _, _, l_named_right⟩ := shR_ok (fnAt cf_ 34 (a := xa_Anamed_right) (v := sv_named_right) (by rfl) (by rfl)) fd_named_right rfl
  obtain ⟨_, _, _, _, _, _, _, _, l_right⟩ := shR_ok (fnAt cf_ 35 (a := xa_Aright) (v := sv_right) (by rfl) (by rfl)) fd_right rfl
  obtain ⟨_, _, _, _, _, _, _, _, l_pot⟩ := shR_ok (fnAt cf_ 36 (a := xa_Apot) (v := sv_pot) (by rfl) (by rfl)) fd_pot rfl
  obtain ⟨_, _, _, _, _, _, _, _, l_law⟩ := shR_ok (fnAt cf_ 37 (a := xa_Alaw) (v := sv_law) (by rfl) (by rfl)) fd_law rfl
  obtain ⟨fd_, b_, F_⟩ := all_mk (l := l) KX G hfa a_draw l_draw o_draw k_draw a_pick l_pick o_pick k_pick a_many l_many o_many k_many a_mixed l_mixed o_mixed k_mixed a_day l_day o_day k_day a_days l_days o_days k_days a_passed l_passed o_passed k_passed a_is_list l_is_list o_is_list k_is_list a_is_integer l_is_integer o_is_integer k_is_integer a_is_meeting l_is_meeting o_is_meeting k_is_meeting a_is_round l_is_round o_is_round k_is_round a_check_rounds l_check_rounds o_check_rounds k_check_rounds a_Table_init i_Table_init l_Table_init o_Table_init k_Table_init a_empty l_empty o_empty k_empty pa_Table_size pg_Table_size pt_Table_size pr_Table_size l_Table_size o_Table_size k_Table_size a_Table_len i_Table_len l_Table_len o_Table_len k_Table_len a_Table_rounds i_Table_rounds l_Table_rounds o_Table_rounds k_Table_rounds a_is_count l_is_count o_is_count k_is_count a_check_day l_check_day o_check_day k_check_day a_Table_meetings i_Table_meetings l_Table_meetings o_Table_meetings k_Table_meetings a_sorted l_sorted o_sorted k_sorted a_Table_repr i_Table_repr l_Table_repr o_Table_repr k_Table_repr a_check_team l_check_team o_check_team k_check_team a_mark_in l_mark_in o_mark_in k_mark_in a_Table_row_of i_Table_row_of l_Table_row_of o_Table_row_of k_Table_row_of a_row l_row o_row k_row a_is l_is o_is k_is a_check_pair l_check_pair o_check_pair k_check_pair a_Table_met_in i_Table_met_in l_Table_met_in o_Table_met_in k_Table_met_in a_met l_met o_met k_met a_are_met l_are_met o_are_met k_are_met a_Table_eq i_Table_eq l_Table_eq o_Table_eq k_Table_eq a_turned l_turned o_turned k_turned a_near_days l_near_days o_near_days k_near_days a_named_right l_named_right o_named_right k_named_right a_right l_right o_right k_right a_pot l_pot o_pot k_pot a_law l_law o_law k_law aC_Table pg_Table hd_Table po_Table sa_Table mk_Table kc_Table na_Table__rounds ic1_Table ic2_Table ic3_Table ic4_Table in1_Table in2_Table z_abs z_all z_any z_bool z_dict z_divmod z_enumerate z_int z_isinstance z_len z_list z_max z_min z_range z_repr z_set z_sorted z_sum z_tuple z_zip c_FEWEST_MEETINGS c_MOST_MEETINGS c_MOST_ROUNDS
  exact ⟨K, KX, fd_, _, b_, fun H a ns hl hO hS => law_enter hl hO hS, F_⟩
end Lw
open PySem PySem.W PyProof.Rows in
set_option maxRecDepth 100000 in
set_option maxHeartbeats 0 in
theorem PySem.Challenge.cw_ringrows_k40_tables_told_holds : PySem.Challenge.rw_ringrows_k40_tables_told.Holds := by
  w_on; o_law
  refine HandSHeadRun.head_any (r := OpenLaw.row PySem.Challenge.rw_ringrows_k40_tables_told) (q := Lw.qV) (H := Lw.hk) (ob := Lw.ob) (M := 60000) (loose := Lw.looseL) (d := HandSHeadRun.topDef (OpenLaw.row PySem.Challenge.rw_ringrows_k40_tables_told).prog 43) (kwd := []) Lw.ob_eq (by kernel_rfl) (fun s => by kernel_rfl) Lw.run (by kernel_rfl) (by kernel_rfl) (by kernel_rfl) (by rfl) (by first | assumption | decide +kernel) (by decide +kernel) ⟨rfl, rfl, rfl, rfl, rfl, by decide +kernel⟩ ?hw ?hc
  case hw => w_witness2
  case hc =>
    refine Rx.walk_ofGE (l := PySem.Challenge.rw_ringrows_k40_tables_told) (n := 63) (k := 8) (x := "_law_script") rfl (by decide) (by kernel_rfl) ⟨rfl, by decide, by decide⟩ ?F
    intro w mg fa h Y G hmg0
    have hmg : mg ("law" : PySem.Str) = some (.ref fa) := by
      have e : (HandSHeadRun.topDef (OpenLaw.row PySem.Challenge.rw_ringrows_k40_tables_told).prog 43).name = ("law" : PySem.Str) := by kernel_rfl
      rw [← e]
      exact hmg0
    exact Lw.facts Y G hmg
