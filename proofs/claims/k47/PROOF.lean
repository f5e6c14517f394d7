import PyProof.Rows.All
import Wide.All
import OpenK.AllK
import Wide.FinOn
import HandS.DictComp
import HandS.TupSets
import HandS.Head0
import HandS.Head1
import HandS.Head2
import HandS.Head3
import HandS.HeadHook4
import HandS.HeadNt
import KE.GoesEnum
import KE.KExcInit
import PyProof.ExcBaseAll.RuntimeError
import PyProof.ExcBaseAll.ArithmeticError
import HandS.DictEq
import PyProof.ListStr
import KE.GoesMore
import KE.GoesZip
import HandS.ForMost
import HandS.Property
import HandS.IsInst
import HandS.Wide
import HandS.WideBits
import HandS.Defaults
import HandS.StrMore
import HandS.Style
import HandS.Codes
import HandS.OwnEq
import HandS.Conv
import HandS.SetFor
import HandS.WrittenGet
import PyProof.StrBlock2
import PyProof.LongRange
import PyProof.ReprRoads
import HandS.FStr
import HandS.MakeKwOnly
import HandS.ListItems
import HandS.Gcd
import HandS.Small
import HandS.NoneIn
import HandS.Walk
import HandS.Deep
import HandS.SortRule
import HandS.SortInts
import HandS.Star
import KE.KOpsOwn
import KE.KMathGC
import HandS.Flt
import KE.KMathG
import KE.DataMinMax
import HandS.SortKw
import HandS.Zip
import Flt.RightSqrt
import PyProof.ReprNest
import HandS.ClsMeth
import HandS.TupLe
import HandS.Lambda
import HandS.ExcInit
import HandS.ExcIs
import HandS.ExcField
import HandS.ExcOwn
import HandS.TryMany
import HandS.WordsExc
import KE.KExcIs
import HandS.EndTab
import KE.KDictZip
import PyProof.ListNew
import HandS.TupAny
import KE.KDictPairs
import HandS.DictTup
import PySem.Challenge.RW_ringrows_k47_pairs_of_tables
set_option Elab.async false
set_option linter.all false
set_option maxRecDepth 100000
set_option maxHeartbeats 4000000
namespace Rx
open PySem PySem.Spec PyProof.Rows L2
def fdR (K : PySem.W.Frag) (a : Addr) : Option FuncData := match K.lookup a with
  | some ⟨_, _, .func fd, _⟩ => some fd
  | _ => none
def shR (K : PySem.W.Frag) (a : Addr) : He.FnW := (fdR K a).map fun fd => (fd.name, fd.qualname, fd.params, fd.body, fd.scope, fd.globals, fd.closure, fd.builtins)
def dfR (K : PySem.W.Frag) (a : Addr) : Option Value := (fdR K a).map fun fd => fd.defaults
def cdR (K : PySem.W.Frag) (a : Addr) : Value := match fdR K a with
  | some fd => fd.code
  | none => .none
def adV : Value → Addr
  | .ref a => a
  | _ => 0
def rcA (K : PySem.W.Frag) (p : Addr) (T : String) : Addr := match PySem.W.recIn K p T with
  | some (v :: _) => adV v
  | _ => 0
def rcB (K : PySem.W.Frag) (p : Addr) (T : String) : Bool := match PySem.W.recIn K p T with
  | some (.ref _ :: _) => true
  | _ => false
def tkI : Option (Option Value) → Tok
  | some (some (.int _ t)) => t
  | some (some (.str _ t)) => t
  | _ => 0
abbrev AlR : Type := Bool × List He.FnW × List (Option (List (Option (Str × Int))))
def obK (ex : PySem.W.Frag → Bool) (fn : List (PySem.W.Frag → Addr)) (ts : List He.Tab) (K : PySem.W.Frag) : AlR := (ex K, fn.map fun a => shR K (a K), ts.map fun t => He.dicW K (t.1 K))
def vaR (vs : List He.FnW) (ts : List He.Tab) (w : World) : AlR := (true, vs, ts.map fun t => some (He.keysIn w.params t.2))
def obR (n : Nat) (ex : PySem.W.Frag → Bool) (fn : List (PySem.W.Frag → Addr)) (ts : List He.Tab) (g : Addr → Option Obj) : AlR := obK ex fn ts (He.frT g (List.range n))
def hkR (n : Nat) (ex : PySem.W.Frag → Bool) (fn : List (PySem.W.Frag → Addr)) (vs : List He.FnW) (ts : List He.Tab) : PySem.W.Hook where
  α := AlR
  obs := fun s => obR n ex fn ts s.heap.get?
  val := fun w => vaR vs ts w
  says := fun w h => ∃ K : PySem.W.Frag, K.In h ∧ obK ex fn ts K = vaR vs ts w
  of := fun _ _ e => ⟨_, He.frT_in, e⟩
  keeps := fun _ _ _ ⟨K, hK, c⟩ k => ⟨K, PySem.W.Frag.In.keeps hK k, c⟩
def frcO {α : Type} (o : Obj) (k : Obj → α) : α := match o with
  | ⟨c, d, dt, sl⟩ => k ⟨c, d, dt, sl⟩
def frcK {α : Type} : PySem.W.Frag → (PySem.W.Frag → α) → α
  | [], k => k []
  | (a, o) :: r, k => frcO o fun o => frcK r fun r => k ((a, o) :: r)
def obA (n : Nat) (ex : PySem.W.Frag → Bool) (s : PySem.W.SharedT) : Bool := frcK (He.frT (HandSHeadRun.getT s) (List.range n)) ex
def obB (n : Nat) (fn : List (PySem.W.Frag → Addr)) (ts : List He.Tab) (s : PySem.W.SharedT) : List He.FnW × List (Option (List (Option (Str × Int)))) :=
  frcK (He.frT (HandSHeadRun.getT s) (List.range n)) fun K => (fn.map fun a => shR K (a K), ts.map fun t => He.dicW K (t.1 K))
def obF (n : Nat) (ea eb : PySem.W.Frag → Bool) (fn : List (PySem.W.Frag → Addr)) (ts : List He.Tab) (s : PySem.W.SharedT) : AlR := (obA n ea s && obA n eb s, obB n fn ts s)
theorem map_four {σ α β δ : Type} {o : Option σ} {f : σ → α} {g : σ → β} {h h2 : σ → Bool} {k : σ → δ} {a : α} {b : β} {d : δ} (x : o.map (fun s => (f s, g s)) = some (a, b)) (y : o.map h = some true) (y2 : o.map h2 = some true) (z : o.map k = some d) :
    o.map (fun s => (f s, g s, (h s && h2 s), k s)) = some (a, b, true, d) := by
  cases o with
  | none => cases x
  | some s =>
    have x1 := Option.some.inj x
    have y1 : h s = true := Option.some.inj y
    have y3 : h2 s = true := Option.some.inj y2
    have z1 : k s = d := Option.some.inj z
    obtain ⟨x2, x3⟩ := Prod.mk.inj x1
    show some (f s, g s, (h s && h2 s), k s) = _
    rw [x2, x3, y1, y3, z1]
    rfl
noncomputable abbrev endW (p : Program) (w : World) (os : OsState) : Option PySem.W.SharedT := HandSHeadRun.endF (HandSHeadRun.stepQ (HandSHeadRun.denQ HandSHeadRun.tabQ) p w) 60000 p w os
theorem runEq_of {R : PySem.W.OpenRow} {q : Program} {ea eb : PySem.W.Frag → Bool} {fn : List (PySem.W.Frag → Addr)} {vs : List He.FnW} {ts : List He.Tab} {loose : List Str} {w : World} {n : Nat}
    (x : ∀ os, (endW R.prog w os).map (fun x => (HandSHeadRun.looksF R.prog (PySem.W.boot_heap w.params) x.abs, HandSHeadRun.seenQ q loose (importedModules R.prog.main.body) (fun s => PySem.W.xlAt q [] s && PySem.W.recOk R.toRowW.records s) x.abs)) = some (true, PySem.W.openGood q loose))
    (y : ∀ os, (endW R.prog w os).map (fun x => obA n ea x) = some true) (y2 : ∀ os, (endW R.prog w os).map (fun x => obA n eb x) = some true)
    (z : ∀ os, (endW R.prog w os).map (fun x => obB n fn ts x) = some (vs, ts.map fun t => some (He.keysIn w.params t.2))) :
    HandSHeadRun.RunEq R q (hkR n (fun K => ea K && eb K) fn vs ts) (obF n ea eb fn ts) 60000 loose w := fun os => map_four (x os) (y os) (y2 os) (z os)
end Rx
namespace Lw
open PySem PySem.Spec PyProof.Rows L2 Rx
def topS (i : Nat) : Stmt := PySem.Challenge.pw_ringrows_k47_pairs_of_tables.main.body.getD i (.Pass ⟨0, 0, 0, 0⟩)
abbrev s_draw : Stmt := (topS 29)
abbrev s_pick : Stmt := (topS 30)
abbrev s_many : Stmt := (topS 32)
abbrev s_circle : Stmt := (topS 39)
abbrev s_mixed : Stmt := (topS 31)
abbrev s_day : Stmt := (topS 33)
abbrev s_pairs_days : Stmt := (topS 40)
abbrev s_passed : Stmt := (topS 36)
abbrev s_is_list : Stmt := (topS 11)
abbrev s_is_integer : Stmt := (topS 9)
abbrev s_is_meeting : Stmt := (topS 25)
abbrev s_is_round : Stmt := (topS 24)
abbrev s_check_rounds : Stmt := (topS 23)
abbrev s_Table_init : Stmt := (inClass (topS 22) 0)
abbrev s_counts : Stmt := (topS 42)
abbrev s_due : Stmt := (topS 43)
abbrev s_Table_rounds : Stmt := (inClass (topS 22) 3)
abbrev s_Table_size : Stmt := (inClass (topS 22) 1)
abbrev s_first_odd_pair : Stmt := (topS 17)
abbrev s_is_single : Stmt := (topS 16)
abbrev s_any_way : Stmt := (topS 41)
abbrev s_is_count : Stmt := (topS 10)
abbrev s_check_team : Stmt := (topS 12)
abbrev s_check_pair : Stmt := (topS 13)
abbrev s_Table_met_in : Stmt := (inClass (topS 22) 6)
abbrev s_Table_len : Stmt := (inClass (topS 22) 8)
abbrev s_check_day : Stmt := (topS 14)
abbrev s_Table_meetings : Stmt := (inClass (topS 22) 4)
abbrev s_sorted : Stmt := (topS 35)
abbrev s_Table_repr : Stmt := (inClass (topS 22) 10)
abbrev s_mark_in : Stmt := (topS 26)
abbrev s_Table_row_of : Stmt := (inClass (topS 22) 5)
abbrev s_row : Stmt := (topS 37)
abbrev s_is : Stmt := (topS 38)
abbrev s_days_right : Stmt := (topS 44)
abbrev s_days : Stmt := (topS 34)
abbrev s_right : Stmt := (topS 45)
abbrev s_pot : Stmt := (topS 28)
abbrev s_law : Stmt := (topS 46)
def xa_CTable (K : PySem.W.Frag) : Addr := He.ga K "Table"
def xa_Adraw (K : PySem.W.Frag) : Addr := He.ga K "_law_draw"
def xa_Apick (K : PySem.W.Frag) : Addr := He.ga K "_law_pick"
def xa_Amany (K : PySem.W.Frag) : Addr := He.ga K "_law_many"
def xa_Acircle (K : PySem.W.Frag) : Addr := He.ga K "_law_circle"
def xa_Amixed (K : PySem.W.Frag) : Addr := He.ga K "_law_mixed"
def xa_Aday (K : PySem.W.Frag) : Addr := He.ga K "_law_day"
def xa_Apairs_days (K : PySem.W.Frag) : Addr := He.ga K "_law_pairs_days"
def xa_Apassed (K : PySem.W.Frag) : Addr := He.ga K "_law_passed"
def xa_Ais_list (K : PySem.W.Frag) : Addr := He.ga K "is_list"
def xa_Ais_integer (K : PySem.W.Frag) : Addr := He.ga K "is_integer"
def xa_Ais_meeting (K : PySem.W.Frag) : Addr := He.ga K "_is_meeting"
def xa_Ais_round (K : PySem.W.Frag) : Addr := He.ga K "is_round"
def xa_Acheck_rounds (K : PySem.W.Frag) : Addr := He.ga K "_check_rounds"
def xa_ATable_init (K : PySem.W.Frag) : Addr := He.ma K (xa_CTable K) "__init__"
def xa_Acounts (K : PySem.W.Frag) : Addr := He.ga K "_law_counts"
def xa_Adue (K : PySem.W.Frag) : Addr := He.ga K "_law_due"
def xa_ATable_rounds (K : PySem.W.Frag) : Addr := He.ma K (xa_CTable K) "rounds"
def xa_PTable_size (K : PySem.W.Frag) : Addr := He.ma K (xa_CTable K) "size"
def xa_ATable_size (K : PySem.W.Frag) : Addr := rcA K (xa_PTable_size K) "property"
def xa_Afirst_odd_pair (K : PySem.W.Frag) : Addr := He.ga K "first_odd_pair"
def xa_Ais_single (K : PySem.W.Frag) : Addr := He.ga K "is_single"
def xa_Aany_way (K : PySem.W.Frag) : Addr := He.ga K "_law_any_way"
def xa_Ais_count (K : PySem.W.Frag) : Addr := He.ga K "is_count"
def xa_Acheck_team (K : PySem.W.Frag) : Addr := He.ga K "check_team"
def xa_Acheck_pair (K : PySem.W.Frag) : Addr := He.ga K "check_pair"
def xa_ATable_met_in (K : PySem.W.Frag) : Addr := He.ma K (xa_CTable K) "met_in"
def xa_ATable_len (K : PySem.W.Frag) : Addr := He.ma K (xa_CTable K) "__len__"
def xa_Acheck_day (K : PySem.W.Frag) : Addr := He.ga K "check_day"
def xa_ATable_meetings (K : PySem.W.Frag) : Addr := He.ma K (xa_CTable K) "meetings"
def xa_Asorted (K : PySem.W.Frag) : Addr := He.ga K "_law_sorted"
def xa_ATable_repr (K : PySem.W.Frag) : Addr := He.ma K (xa_CTable K) "__repr__"
def xa_Amark_in (K : PySem.W.Frag) : Addr := He.ga K "_mark_in"
def xa_ATable_row_of (K : PySem.W.Frag) : Addr := He.ma K (xa_CTable K) "row_of"
def xa_Arow (K : PySem.W.Frag) : Addr := He.ga K "_law_row"
def xa_Ais (K : PySem.W.Frag) : Addr := He.ga K "_law_is"
def xa_Adays_right (K : PySem.W.Frag) : Addr := He.ga K "_law_days_right"
def xa_Adays (K : PySem.W.Frag) : Addr := He.ga K "_law_days"
def xa_Aright (K : PySem.W.Frag) : Addr := He.ga K "_law_right"
def xa_Apot (K : PySem.W.Frag) : Addr := He.ga K "_law_pot"
def xa_Alaw (K : PySem.W.Frag) : Addr := He.ga K "law"
def sv_draw : He.FnW := some ("_law_draw", "_law_draw", defArgs s_draw, .stmts (defBody s_draw), defScope s_draw, mainGlobals, [], builtinsNs)
def sv_pick : He.FnW := some ("_law_pick", "_law_pick", defArgs s_pick, .stmts (defBody s_pick), defScope s_pick, mainGlobals, [], builtinsNs)
def sv_many : He.FnW := some ("_law_many", "_law_many", defArgs s_many, .stmts (defBody s_many), defScope s_many, mainGlobals, [], builtinsNs)
def sv_circle : He.FnW := some ("_law_circle", "_law_circle", defArgs s_circle, .stmts (defBody s_circle), defScope s_circle, mainGlobals, [], builtinsNs)
def sv_mixed : He.FnW := some ("_law_mixed", "_law_mixed", defArgs s_mixed, .stmts (defBody s_mixed), defScope s_mixed, mainGlobals, [], builtinsNs)
def sv_day : He.FnW := some ("_law_day", "_law_day", defArgs s_day, .stmts (defBody s_day), defScope s_day, mainGlobals, [], builtinsNs)
def sv_pairs_days : He.FnW := some ("_law_pairs_days", "_law_pairs_days", defArgs s_pairs_days, .stmts (defBody s_pairs_days), defScope s_pairs_days, mainGlobals, [], builtinsNs)
def sv_passed : He.FnW := some ("_law_passed", "_law_passed", defArgs s_passed, .stmts (defBody s_passed), defScope s_passed, mainGlobals, [], builtinsNs)
def sv_is_list : He.FnW := some ("is_list", "is_list", defArgs s_is_list, .stmts (defBody s_is_list), defScope s_is_list, mainGlobals, [], builtinsNs)
def sv_is_integer : He.FnW := some ("is_integer", "is_integer", defArgs s_is_integer, .stmts (defBody s_is_integer), defScope s_is_integer, mainGlobals, [], builtinsNs)
def sv_is_meeting : He.FnW := some ("_is_meeting", "_is_meeting", defArgs s_is_meeting, .stmts (defBody s_is_meeting), defScope s_is_meeting, mainGlobals, [], builtinsNs)
def sv_is_round : He.FnW := some ("is_round", "is_round", defArgs s_is_round, .stmts (defBody s_is_round), defScope s_is_round, mainGlobals, [], builtinsNs)
def sv_check_rounds : He.FnW := some ("_check_rounds", "_check_rounds", defArgs s_check_rounds, .stmts (defBody s_check_rounds), defScope s_check_rounds, mainGlobals, [], builtinsNs)
def sv_Table_init : He.FnW := some ("__init__", "Table.__init__", defArgs s_Table_init, .stmts (defBody s_Table_init), defScope s_Table_init, mainGlobals, [], builtinsNs)
def sv_counts : He.FnW := some ("_law_counts", "_law_counts", defArgs s_counts, .stmts (defBody s_counts), defScope s_counts, mainGlobals, [], builtinsNs)
def sv_due : He.FnW := some ("_law_due", "_law_due", defArgs s_due, .stmts (defBody s_due), defScope s_due, mainGlobals, [], builtinsNs)
def sv_Table_rounds : He.FnW := some ("rounds", "Table.rounds", defArgs s_Table_rounds, .stmts (defBody s_Table_rounds), defScope s_Table_rounds, mainGlobals, [], builtinsNs)
def sv_Table_size : He.FnW := some ("size", "Table.size", defArgs s_Table_size, .stmts (defBody s_Table_size), defScope s_Table_size, mainGlobals, [], builtinsNs)
def sv_first_odd_pair : He.FnW := some ("first_odd_pair", "first_odd_pair", defArgs s_first_odd_pair, .stmts (defBody s_first_odd_pair), defScope s_first_odd_pair, mainGlobals, [], builtinsNs)
def sv_is_single : He.FnW := some ("is_single", "is_single", defArgs s_is_single, .stmts (defBody s_is_single), defScope s_is_single, mainGlobals, [], builtinsNs)
def sv_any_way : He.FnW := some ("_law_any_way", "_law_any_way", defArgs s_any_way, .stmts (defBody s_any_way), defScope s_any_way, mainGlobals, [], builtinsNs)
def sv_is_count : He.FnW := some ("is_count", "is_count", defArgs s_is_count, .stmts (defBody s_is_count), defScope s_is_count, mainGlobals, [], builtinsNs)
def sv_check_team : He.FnW := some ("check_team", "check_team", defArgs s_check_team, .stmts (defBody s_check_team), defScope s_check_team, mainGlobals, [], builtinsNs)
def sv_check_pair : He.FnW := some ("check_pair", "check_pair", defArgs s_check_pair, .stmts (defBody s_check_pair), defScope s_check_pair, mainGlobals, [], builtinsNs)
def sv_Table_met_in : He.FnW := some ("met_in", "Table.met_in", defArgs s_Table_met_in, .stmts (defBody s_Table_met_in), defScope s_Table_met_in, mainGlobals, [], builtinsNs)
def sv_Table_len : He.FnW := some ("__len__", "Table.__len__", defArgs s_Table_len, .stmts (defBody s_Table_len), defScope s_Table_len, mainGlobals, [], builtinsNs)
def sv_check_day : He.FnW := some ("check_day", "check_day", defArgs s_check_day, .stmts (defBody s_check_day), defScope s_check_day, mainGlobals, [], builtinsNs)
def sv_Table_meetings : He.FnW := some ("meetings", "Table.meetings", defArgs s_Table_meetings, .stmts (defBody s_Table_meetings), defScope s_Table_meetings, mainGlobals, [], builtinsNs)
def sv_sorted : He.FnW := some ("_law_sorted", "_law_sorted", defArgs s_sorted, .stmts (defBody s_sorted), defScope s_sorted, mainGlobals, [], builtinsNs)
def sv_Table_repr : He.FnW := some ("__repr__", "Table.__repr__", defArgs s_Table_repr, .stmts (defBody s_Table_repr), defScope s_Table_repr, mainGlobals, [], builtinsNs)
def sv_mark_in : He.FnW := some ("_mark_in", "_mark_in", defArgs s_mark_in, .stmts (defBody s_mark_in), defScope s_mark_in, mainGlobals, [], builtinsNs)
def sv_Table_row_of : He.FnW := some ("row_of", "Table.row_of", defArgs s_Table_row_of, .stmts (defBody s_Table_row_of), defScope s_Table_row_of, mainGlobals, [], builtinsNs)
def sv_row : He.FnW := some ("_law_row", "_law_row", defArgs s_row, .stmts (defBody s_row), defScope s_row, mainGlobals, [], builtinsNs)
def sv_is : He.FnW := some ("_law_is", "_law_is", defArgs s_is, .stmts (defBody s_is), defScope s_is, mainGlobals, [], builtinsNs)
def sv_days_right : He.FnW := some ("_law_days_right", "_law_days_right", defArgs s_days_right, .stmts (defBody s_days_right), defScope s_days_right, mainGlobals, [], builtinsNs)
def sv_days : He.FnW := some ("_law_days", "_law_days", defArgs s_days, .stmts (defBody s_days), defScope s_days, mainGlobals, [], builtinsNs)
def sv_right : He.FnW := some ("_law_right", "_law_right", defArgs s_right, .stmts (defBody s_right), defScope s_right, mainGlobals, [], builtinsNs)
def sv_pot : He.FnW := some ("_law_pot", "_law_pot", defArgs s_pot, .stmts (defBody s_pot), defScope s_pot, mainGlobals, [], builtinsNs)
def sv_law : He.FnW := some ("law", "law", defArgs s_law, .stmts (defBody s_law), defScope s_law, mainGlobals, [], builtinsNs)
def gx0 (K : PySem.W.Frag) : Bool := decide ((PySem.W.nsIn K mainGlobals "_law_draw" = some (some (.ref (xa_Adraw K)))) ∧ (dfR K (xa_Adraw K) = some .none) ∧ (PySem.W.codeIn K (cdR K (xa_Adraw K)) "_law_draw" = true) ∧ (PySem.W.keepIn K (.ref (xa_Adraw K)) = true) ∧ (PySem.W.nsIn K mainGlobals "_law_pick" = some (some (.ref (xa_Apick K)))) ∧ (dfR K (xa_Apick K) = some .none) ∧ (PySem.W.codeIn K (cdR K (xa_Apick K)) "_law_pick" = true) ∧ (PySem.W.keepIn K (.ref (xa_Apick K)) = true) ∧ (PySem.W.nsIn K mainGlobals "_law_many" = some (some (.ref (xa_Amany K)))) ∧ (dfR K (xa_Amany K) = some .none))
def gx1 (K : PySem.W.Frag) : Bool := decide ((PySem.W.codeIn K (cdR K (xa_Amany K)) "_law_many" = true) ∧ (PySem.W.keepIn K (.ref (xa_Amany K)) = true) ∧ (PySem.W.nsIn K mainGlobals "_law_circle" = some (some (.ref (xa_Acircle K)))) ∧ (dfR K (xa_Acircle K) = some .none) ∧ (PySem.W.codeIn K (cdR K (xa_Acircle K)) "_law_circle" = true) ∧ (PySem.W.keepIn K (.ref (xa_Acircle K)) = true) ∧ (PySem.W.nsIn K mainGlobals "_law_mixed" = some (some (.ref (xa_Amixed K)))) ∧ (dfR K (xa_Amixed K) = some .none) ∧ (PySem.W.codeIn K (cdR K (xa_Amixed K)) "_law_mixed" = true) ∧ (PySem.W.keepIn K (.ref (xa_Amixed K)) = true))
def gx2 (K : PySem.W.Frag) : Bool := decide ((PySem.W.nsIn K mainGlobals "_law_day" = some (some (.ref (xa_Aday K)))) ∧ (dfR K (xa_Aday K) = some .none) ∧ (PySem.W.codeIn K (cdR K (xa_Aday K)) "_law_day" = true) ∧ (PySem.W.keepIn K (.ref (xa_Aday K)) = true) ∧ (PySem.W.nsIn K mainGlobals "_law_pairs_days" = some (some (.ref (xa_Apairs_days K)))) ∧ (dfR K (xa_Apairs_days K) = some .none) ∧ (PySem.W.codeIn K (cdR K (xa_Apairs_days K)) "_law_pairs_days" = true) ∧ (PySem.W.keepIn K (.ref (xa_Apairs_days K)) = true) ∧ (PySem.W.nsIn K mainGlobals "_law_passed" = some (some (.ref (xa_Apassed K)))) ∧ (dfR K (xa_Apassed K) = some .none))
def gx3 (K : PySem.W.Frag) : Bool := decide ((PySem.W.codeIn K (cdR K (xa_Apassed K)) "_law_passed" = true) ∧ (PySem.W.keepIn K (.ref (xa_Apassed K)) = true) ∧ (PySem.W.nsIn K mainGlobals "is_list" = some (some (.ref (xa_Ais_list K)))) ∧ (dfR K (xa_Ais_list K) = some .none) ∧ (PySem.W.codeIn K (cdR K (xa_Ais_list K)) "is_list" = true) ∧ (PySem.W.keepIn K (.ref (xa_Ais_list K)) = true) ∧ (PySem.W.nsIn K mainGlobals "is_integer" = some (some (.ref (xa_Ais_integer K)))) ∧ (dfR K (xa_Ais_integer K) = some .none) ∧ (PySem.W.codeIn K (cdR K (xa_Ais_integer K)) "is_integer" = true) ∧ (PySem.W.keepIn K (.ref (xa_Ais_integer K)) = true))
def gx4 (K : PySem.W.Frag) : Bool := decide ((PySem.W.nsIn K mainGlobals "_is_meeting" = some (some (.ref (xa_Ais_meeting K)))) ∧ (dfR K (xa_Ais_meeting K) = some .none) ∧ (PySem.W.codeIn K (cdR K (xa_Ais_meeting K)) "_is_meeting" = true) ∧ (PySem.W.keepIn K (.ref (xa_Ais_meeting K)) = true) ∧ (PySem.W.nsIn K mainGlobals "is_round" = some (some (.ref (xa_Ais_round K)))) ∧ (dfR K (xa_Ais_round K) = some .none) ∧ (PySem.W.codeIn K (cdR K (xa_Ais_round K)) "is_round" = true) ∧ (PySem.W.keepIn K (.ref (xa_Ais_round K)) = true) ∧ (PySem.W.nsIn K mainGlobals "_check_rounds" = some (some (.ref (xa_Acheck_rounds K)))) ∧ (dfR K (xa_Acheck_rounds K) = some .none))
def gx5 (K : PySem.W.Frag) : Bool := decide ((PySem.W.codeIn K (cdR K (xa_Acheck_rounds K)) "_check_rounds" = true) ∧ (PySem.W.keepIn K (.ref (xa_Acheck_rounds K)) = true) ∧ (PySem.W.findIn K (.ref (xa_CTable K)) "__init__" = some (some (.ref (xa_ATable_init K)))) ∧ (PySem.W.isFn K (.ref (xa_ATable_init K)) = true) ∧ (dfR K (xa_ATable_init K) = some .none) ∧ (PySem.W.codeIn K (cdR K (xa_ATable_init K)) "Table.__init__" = true) ∧ (PySem.W.keepIn K (.ref (xa_ATable_init K)) = true) ∧ (PySem.W.nsIn K mainGlobals "_law_counts" = some (some (.ref (xa_Acounts K)))) ∧ (dfR K (xa_Acounts K) = some .none) ∧ (PySem.W.codeIn K (cdR K (xa_Acounts K)) "_law_counts" = true))
def gx6 (K : PySem.W.Frag) : Bool := decide ((PySem.W.keepIn K (.ref (xa_Acounts K)) = true) ∧ (PySem.W.nsIn K mainGlobals "_law_due" = some (some (.ref (xa_Adue K)))) ∧ (dfR K (xa_Adue K) = some .none) ∧ (PySem.W.codeIn K (cdR K (xa_Adue K)) "_law_due" = true) ∧ (PySem.W.keepIn K (.ref (xa_Adue K)) = true) ∧ (PySem.W.findIn K (.ref (xa_CTable K)) "rounds" = some (some (.ref (xa_ATable_rounds K)))) ∧ (PySem.W.isFn K (.ref (xa_ATable_rounds K)) = true) ∧ (dfR K (xa_ATable_rounds K) = some .none) ∧ (PySem.W.codeIn K (cdR K (xa_ATable_rounds K)) "Table.rounds" = true) ∧ (PySem.W.keepIn K (.ref (xa_ATable_rounds K)) = true))
def gx7 (K : PySem.W.Frag) : Bool := decide ((PySem.W.findIn K (.ref (xa_CTable K)) "size" = some (some (.ref (xa_PTable_size K)))) ∧ (PySem.W.specialIn K (.ref (xa_PTable_size K)) "__get__" = some (some (.builtin "property.__get__"))) ∧ (PySem.W.takesIn K (.ref (xa_PTable_size K)) = some true) ∧ (rcB K (xa_PTable_size K) "property" = true) ∧ (dfR K (xa_ATable_size K) = some .none) ∧ (PySem.W.codeIn K (cdR K (xa_ATable_size K)) "Table.size" = true) ∧ (PySem.W.keepIn K (.ref (xa_ATable_size K)) = true) ∧ (PySem.W.nsIn K mainGlobals "first_odd_pair" = some (some (.ref (xa_Afirst_odd_pair K)))) ∧ (dfR K (xa_Afirst_odd_pair K) = some .none) ∧ (PySem.W.codeIn K (cdR K (xa_Afirst_odd_pair K)) "first_odd_pair" = true))
def gx8 (K : PySem.W.Frag) : Bool := decide ((PySem.W.keepIn K (.ref (xa_Afirst_odd_pair K)) = true) ∧ (PySem.W.nsIn K mainGlobals "is_single" = some (some (.ref (xa_Ais_single K)))) ∧ (dfR K (xa_Ais_single K) = some .none) ∧ (PySem.W.codeIn K (cdR K (xa_Ais_single K)) "is_single" = true) ∧ (PySem.W.keepIn K (.ref (xa_Ais_single K)) = true) ∧ (PySem.W.nsIn K mainGlobals "_law_any_way" = some (some (.ref (xa_Aany_way K)))) ∧ (dfR K (xa_Aany_way K) = some .none) ∧ (PySem.W.codeIn K (cdR K (xa_Aany_way K)) "_law_any_way" = true) ∧ (PySem.W.keepIn K (.ref (xa_Aany_way K)) = true) ∧ (PySem.W.nsIn K mainGlobals "is_count" = some (some (.ref (xa_Ais_count K)))))
def gx9 (K : PySem.W.Frag) : Bool := decide ((dfR K (xa_Ais_count K) = some .none) ∧ (PySem.W.codeIn K (cdR K (xa_Ais_count K)) "is_count" = true) ∧ (PySem.W.keepIn K (.ref (xa_Ais_count K)) = true) ∧ (PySem.W.nsIn K mainGlobals "check_team" = some (some (.ref (xa_Acheck_team K)))) ∧ (dfR K (xa_Acheck_team K) = some .none) ∧ (PySem.W.codeIn K (cdR K (xa_Acheck_team K)) "check_team" = true) ∧ (PySem.W.keepIn K (.ref (xa_Acheck_team K)) = true) ∧ (PySem.W.nsIn K mainGlobals "check_pair" = some (some (.ref (xa_Acheck_pair K)))) ∧ (dfR K (xa_Acheck_pair K) = some .none) ∧ (PySem.W.codeIn K (cdR K (xa_Acheck_pair K)) "check_pair" = true))
def gx10 (K : PySem.W.Frag) : Bool := decide ((PySem.W.keepIn K (.ref (xa_Acheck_pair K)) = true) ∧ (PySem.W.findIn K (.ref (xa_CTable K)) "met_in" = some (some (.ref (xa_ATable_met_in K)))) ∧ (PySem.W.isFn K (.ref (xa_ATable_met_in K)) = true) ∧ (dfR K (xa_ATable_met_in K) = some .none) ∧ (PySem.W.codeIn K (cdR K (xa_ATable_met_in K)) "Table.met_in" = true) ∧ (PySem.W.keepIn K (.ref (xa_ATable_met_in K)) = true) ∧ (PySem.W.findIn K (.ref (xa_CTable K)) "__len__" = some (some (.ref (xa_ATable_len K)))) ∧ (PySem.W.isFn K (.ref (xa_ATable_len K)) = true) ∧ (dfR K (xa_ATable_len K) = some .none) ∧ (PySem.W.codeIn K (cdR K (xa_ATable_len K)) "Table.__len__" = true))
def gx11 (K : PySem.W.Frag) : Bool := decide ((PySem.W.keepIn K (.ref (xa_ATable_len K)) = true) ∧ (PySem.W.nsIn K mainGlobals "check_day" = some (some (.ref (xa_Acheck_day K)))) ∧ (dfR K (xa_Acheck_day K) = some .none) ∧ (PySem.W.codeIn K (cdR K (xa_Acheck_day K)) "check_day" = true) ∧ (PySem.W.keepIn K (.ref (xa_Acheck_day K)) = true) ∧ (PySem.W.findIn K (.ref (xa_CTable K)) "meetings" = some (some (.ref (xa_ATable_meetings K)))) ∧ (PySem.W.isFn K (.ref (xa_ATable_meetings K)) = true) ∧ (dfR K (xa_ATable_meetings K) = some .none) ∧ (PySem.W.codeIn K (cdR K (xa_ATable_meetings K)) "Table.meetings" = true) ∧ (PySem.W.keepIn K (.ref (xa_ATable_meetings K)) = true))
def gx12 (K : PySem.W.Frag) : Bool := decide ((PySem.W.nsIn K mainGlobals "_law_sorted" = some (some (.ref (xa_Asorted K)))) ∧ (dfR K (xa_Asorted K) = some .none) ∧ (PySem.W.codeIn K (cdR K (xa_Asorted K)) "_law_sorted" = true) ∧ (PySem.W.keepIn K (.ref (xa_Asorted K)) = true) ∧ (PySem.W.findIn K (.ref (xa_CTable K)) "__repr__" = some (some (.ref (xa_ATable_repr K)))) ∧ (PySem.W.isFn K (.ref (xa_ATable_repr K)) = true) ∧ (dfR K (xa_ATable_repr K) = some .none) ∧ (PySem.W.codeIn K (cdR K (xa_ATable_repr K)) "Table.__repr__" = true) ∧ (PySem.W.keepIn K (.ref (xa_ATable_repr K)) = true) ∧ (PySem.W.nsIn K mainGlobals "_mark_in" = some (some (.ref (xa_Amark_in K)))))
def gx13 (K : PySem.W.Frag) : Bool := decide ((dfR K (xa_Amark_in K) = some .none) ∧ (PySem.W.codeIn K (cdR K (xa_Amark_in K)) "_mark_in" = true) ∧ (PySem.W.keepIn K (.ref (xa_Amark_in K)) = true) ∧ (PySem.W.findIn K (.ref (xa_CTable K)) "row_of" = some (some (.ref (xa_ATable_row_of K)))) ∧ (PySem.W.isFn K (.ref (xa_ATable_row_of K)) = true) ∧ (dfR K (xa_ATable_row_of K) = some .none) ∧ (PySem.W.codeIn K (cdR K (xa_ATable_row_of K)) "Table.row_of" = true) ∧ (PySem.W.keepIn K (.ref (xa_ATable_row_of K)) = true) ∧ (PySem.W.nsIn K mainGlobals "_law_row" = some (some (.ref (xa_Arow K)))) ∧ (dfR K (xa_Arow K) = some .none))
def gx14 (K : PySem.W.Frag) : Bool := decide ((PySem.W.codeIn K (cdR K (xa_Arow K)) "_law_row" = true) ∧ (PySem.W.keepIn K (.ref (xa_Arow K)) = true) ∧ (PySem.W.nsIn K mainGlobals "_law_is" = some (some (.ref (xa_Ais K)))) ∧ (dfR K (xa_Ais K) = some .none) ∧ (PySem.W.codeIn K (cdR K (xa_Ais K)) "_law_is" = true) ∧ (PySem.W.keepIn K (.ref (xa_Ais K)) = true) ∧ (PySem.W.nsIn K mainGlobals "_law_days_right" = some (some (.ref (xa_Adays_right K)))) ∧ (dfR K (xa_Adays_right K) = some .none) ∧ (PySem.W.codeIn K (cdR K (xa_Adays_right K)) "_law_days_right" = true) ∧ (PySem.W.keepIn K (.ref (xa_Adays_right K)) = true))
def gx15 (K : PySem.W.Frag) : Bool := decide ((PySem.W.nsIn K mainGlobals "_law_days" = some (some (.ref (xa_Adays K)))) ∧ (dfR K (xa_Adays K) = some .none) ∧ (PySem.W.codeIn K (cdR K (xa_Adays K)) "_law_days" = true) ∧ (PySem.W.keepIn K (.ref (xa_Adays K)) = true) ∧ (PySem.W.nsIn K mainGlobals "_law_right" = some (some (.ref (xa_Aright K)))) ∧ (dfR K (xa_Aright K) = some .none) ∧ (PySem.W.codeIn K (cdR K (xa_Aright K)) "_law_right" = true) ∧ (PySem.W.keepIn K (.ref (xa_Aright K)) = true) ∧ (PySem.W.nsIn K mainGlobals "_law_pot" = some (some (.ref (xa_Apot K)))) ∧ (dfR K (xa_Apot K) = some .none))
def gx16 (K : PySem.W.Frag) : Bool := decide ((PySem.W.codeIn K (cdR K (xa_Apot K)) "_law_pot" = true) ∧ (PySem.W.keepIn K (.ref (xa_Apot K)) = true) ∧ (PySem.W.nsIn K mainGlobals "law" = some (some (.ref (xa_Alaw K)))) ∧ (dfR K (xa_Alaw K) = some .none) ∧ (PySem.W.codeIn K (cdR K (xa_Alaw K)) "law" = true) ∧ (PySem.W.keepIn K (.ref (xa_Alaw K)) = true) ∧ (PySem.W.nsIn K mainGlobals "Table" = some (some (.ref (xa_CTable K)))) ∧ (PySem.W.plainGet K (xa_CTable K) Str.empty = true) ∧ (PySem.W.hasDictIn K (xa_CTable K) = true) ∧ (PySem.W.plainOver K (xa_CTable K) = true))
def gx17 (K : PySem.W.Frag) : Bool := decide ((PySem.W.findIn K (.ref (xa_CTable K)) "__setattr__" = some (some (.builtin "object.__setattr__"))) ∧ (PySem.W.makesIn K (xa_CTable K) = true) ∧ (PySem.W.keepIn K (.ref (xa_CTable K)) = true) ∧ (PySem.W.findIn K (.ref (xa_CTable K)) "_rounds" = some none) ∧ (PySem.W.nsIn K mainGlobals "abs" = some none) ∧ (PySem.W.nsIn K mainGlobals "all" = some none) ∧ (PySem.W.nsIn K mainGlobals "any" = some none) ∧ (PySem.W.nsIn K mainGlobals "bool" = some none) ∧ (PySem.W.nsIn K mainGlobals "dict" = some none) ∧ (PySem.W.nsIn K mainGlobals "divmod" = some none))
def gx18 (K : PySem.W.Frag) : Bool := decide ((PySem.W.nsIn K mainGlobals "enumerate" = some none) ∧ (PySem.W.nsIn K mainGlobals "int" = some none) ∧ (PySem.W.nsIn K mainGlobals "isinstance" = some none) ∧ (PySem.W.nsIn K mainGlobals "len" = some none) ∧ (PySem.W.nsIn K mainGlobals "list" = some none) ∧ (PySem.W.nsIn K mainGlobals "max" = some none) ∧ (PySem.W.nsIn K mainGlobals "min" = some none) ∧ (PySem.W.nsIn K mainGlobals "range" = some none) ∧ (PySem.W.nsIn K mainGlobals "repr" = some none) ∧ (PySem.W.nsIn K mainGlobals "set" = some none))
def gx19 (K : PySem.W.Frag) : Bool := decide ((PySem.W.nsIn K mainGlobals "sorted" = some none) ∧ (PySem.W.nsIn K mainGlobals "sum" = some none) ∧ (PySem.W.nsIn K mainGlobals "tuple" = some none) ∧ (PySem.W.nsIn K mainGlobals "zip" = some none) ∧ (PySem.W.nsIn K mainGlobals "FEWEST_MEETINGS" = some (some (.int 2 (tkI (PySem.W.nsIn K mainGlobals "FEWEST_MEETINGS"))))) ∧ (PySem.W.nsIn K mainGlobals "MOST_MEETINGS" = some (some (.int 12 (tkI (PySem.W.nsIn K mainGlobals "MOST_MEETINGS"))))) ∧ (PySem.W.nsIn K mainGlobals "MOST_ROUNDS" = some (some (.int 60 (tkI (PySem.W.nsIn K mainGlobals "MOST_ROUNDS"))))))
def gxa (K : PySem.W.Frag) : Bool := gx0 K && (gx1 K && (gx2 K && (gx3 K && (gx4 K && (gx5 K && (gx6 K && (gx7 K && (gx8 K && (gx9 K)))))))))
def gxb (K : PySem.W.Frag) : Bool := gx10 K && (gx11 K && (gx12 K && (gx13 K && (gx14 K && (gx15 K && (gx16 K && (gx17 K && (gx18 K && (gx19 K)))))))))
def fnL0 : List (PySem.W.Frag → Addr) := [xa_Adraw, xa_Apick, xa_Amany, xa_Acircle, xa_Amixed, xa_Aday, xa_Apairs_days, xa_Apassed, xa_Ais_list, xa_Ais_integer, xa_Ais_meeting, xa_Ais_round, xa_Acheck_rounds, xa_ATable_init, xa_Acounts, xa_Adue, xa_ATable_rounds, xa_ATable_size, xa_Afirst_odd_pair, xa_Ais_single]
def fnL1 : List (PySem.W.Frag → Addr) := [xa_Aany_way, xa_Ais_count, xa_Acheck_team, xa_Acheck_pair, xa_ATable_met_in, xa_ATable_len, xa_Acheck_day, xa_ATable_meetings, xa_Asorted, xa_ATable_repr, xa_Amark_in, xa_ATable_row_of, xa_Arow, xa_Ais, xa_Adays_right, xa_Adays, xa_Aright, xa_Apot, xa_Alaw]
def fnL : List (PySem.W.Frag → Addr) := fnL0 ++ (fnL1)
def fnV0 : List He.FnW := [sv_draw, sv_pick, sv_many, sv_circle, sv_mixed, sv_day, sv_pairs_days, sv_passed, sv_is_list, sv_is_integer, sv_is_meeting, sv_is_round, sv_check_rounds, sv_Table_init, sv_counts, sv_due, sv_Table_rounds, sv_Table_size, sv_first_odd_pair, sv_is_single]
def fnV1 : List He.FnW := [sv_any_way, sv_is_count, sv_check_team, sv_check_pair, sv_Table_met_in, sv_Table_len, sv_check_day, sv_Table_meetings, sv_sorted, sv_Table_repr, sv_mark_in, sv_Table_row_of, sv_row, sv_is, sv_days_right, sv_days, sv_right, sv_pot, sv_law]
def fnV : List He.FnW := fnV0 ++ (fnV1)
def tsL : List He.Tab := []
def looseL0 : List PySem.Str := ["_wall", "__name__", "LeagueError", "InvalidTeam", "InvalidRound", "InvalidRounds", "LimitError", "TooMany", "is_integer", "is_count", "is_list", "check_team", "check_pair", "check_day", "is_single", "first_odd_pair", "FEWEST_MEETINGS", "MOST_MEETINGS", "MOST_ROUNDS", "Table"]
def looseL1 : List PySem.Str := ["_check_rounds", "is_round", "_is_meeting", "_mark_in", "_law_pot", "_law_draw", "_law_pick", "_law_mixed", "_law_many", "_law_day", "_law_days", "_law_sorted", "_law_passed", "_law_row", "_law_is", "_law_circle", "_law_pairs_days", "_law_any_way", "_law_counts", "_law_due"]
def looseL2 : List PySem.Str := ["_law_days_right", "_law_right"]
def looseL : List PySem.Str := looseL0 ++ (looseL1 ++ (looseL2))
abbrev RR : PySem.W.OpenRow := PySem.W.OpenLaw.row PySem.Challenge.rw_ringrows_k47_pairs_of_tables
abbrev qV : Program := PySem.W.view RR.prog [46]
abbrev hk : PySem.W.Hook := hkR 4000 (fun K => gxa K && gxb K) fnL fnV tsL
abbrev ob : PySem.W.SharedT → hk.α := obF 4000 gxa gxb fnL tsL
set_option maxHeartbeats 0 in
theorem runA_false (w : World) (os : OsState) : (endW RR.prog (w.withFollow "special-get-raises" false) os).map (fun x => (HandSHeadRun.looksF RR.prog (PySem.W.boot_heap (w.withFollow "special-get-raises" false).params) x.abs, HandSHeadRun.seenQ qV looseL (importedModules RR.prog.main.body) (fun s => PySem.W.xlAt qV [] s && PySem.W.recOk RR.toRowW.records s) x.abs)) = some (true, PySem.W.openGood qV looseL) := by
  kernel_rfl
set_option maxHeartbeats 0 in
theorem runBa_false (w : World) (os : OsState) : (endW RR.prog (w.withFollow "special-get-raises" false) os).map (fun x => obA 4000 gxa x) = some true := by
  kernel_rfl
set_option maxHeartbeats 0 in
theorem runBb_false (w : World) (os : OsState) : (endW RR.prog (w.withFollow "special-get-raises" false) os).map (fun x => obA 4000 gxb x) = some true := by
  kernel_rfl
set_option maxHeartbeats 0 in
theorem runC_false (w : World) (os : OsState) : (endW RR.prog (w.withFollow "special-get-raises" false) os).map (fun x => obB 4000 fnL tsL x) = some (fnV, tsL.map fun t => some (He.keysIn (w.withFollow "special-get-raises" false).params t.2)) := by
  kernel_rfl
theorem run_false (w : World) : HandSHeadRun.RunEq RR qV hk ob 60000 looseL (w.withFollow "special-get-raises" false) := runEq_of (runA_false w) (runBa_false w) (runBb_false w) (runC_false w)
set_option maxHeartbeats 0 in
theorem runA_true (w : World) (os : OsState) : (endW RR.prog (w.withFollow "special-get-raises" true) os).map (fun x => (HandSHeadRun.looksF RR.prog (PySem.W.boot_heap (w.withFollow "special-get-raises" true).params) x.abs, HandSHeadRun.seenQ qV looseL (importedModules RR.prog.main.body) (fun s => PySem.W.xlAt qV [] s && PySem.W.recOk RR.toRowW.records s) x.abs)) = some (true, PySem.W.openGood qV looseL) := by
  kernel_rfl
set_option maxHeartbeats 0 in
theorem runBa_true (w : World) (os : OsState) : (endW RR.prog (w.withFollow "special-get-raises" true) os).map (fun x => obA 4000 gxa x) = some true := by
  kernel_rfl
set_option maxHeartbeats 0 in
theorem runBb_true (w : World) (os : OsState) : (endW RR.prog (w.withFollow "special-get-raises" true) os).map (fun x => obA 4000 gxb x) = some true := by
  kernel_rfl
set_option maxHeartbeats 0 in
theorem runC_true (w : World) (os : OsState) : (endW RR.prog (w.withFollow "special-get-raises" true) os).map (fun x => obB 4000 fnL tsL x) = some (fnV, tsL.map fun t => some (He.keysIn (w.withFollow "special-get-raises" true).params t.2)) := by
  kernel_rfl
theorem run_true (w : World) : HandSHeadRun.RunEq RR qV hk ob 60000 looseL (w.withFollow "special-get-raises" true) := runEq_of (runA_true w) (runBa_true w) (runBb_true w) (runC_true w)
theorem run (w : World) : HandSHeadRun.RunEq RR qV hk ob 60000 looseL w := PySem.W.byRow2 "special-get-raises" (P := fun w => HandSHeadRun.RunEq RR qV hk ob 60000 looseL w) run_false run_true w
end Lw
namespace Rx
open PySem PySem.Spec PyProof.Rows L2

inductive D where
  | v (x : V)
  | lst (xs : List D)
  | tup (xs : List D)
  | ins (C : Addr) (ns : List Str) (xs : List D)
  | dct (ks : List Key) (xs : List D)
  | dcT (ks : List (List Key)) (xs : List D)

mutual
def rep (ms : List Addr) (H : Hp) : D → V → Prop
  | .v x, u => u = x
  | .lst ds, u => ∃ p vs, u = .ref p ∧ p ∉ ms ∧ H p = some (.lst vs) ∧ repL ms H ds vs
  | .tup ds, u => ∃ p vs, u = .ref p ∧ p ∉ ms ∧ H p = some (.tup vs) ∧ repL ms H ds vs
  | .ins C ns ds, u => ∃ p dx vs, u = .ref p ∧ p ∉ ms ∧ H p = some (.ins C dx (ns.zip vs)) ∧ ns.length = vs.length ∧ repL ms H ds vs
  | .dct ks ds, u => ∃ p vs, u = .ref p ∧ p ∉ ms ∧ H p = some (.dK (ks.zip vs)) ∧ ks.length = vs.length ∧ repL ms H ds vs
  | .dcT ks ds, u => ∃ p vs, u = .ref p ∧ p ∉ ms ∧ H p = some (.dT (ks.zip vs)) ∧ ks.length = vs.length ∧ repL ms H ds vs
def repL (ms : List Addr) (H : Hp) : List D → List V → Prop
  | [], vs => vs = []
  | d :: ds, vs => ∃ u us, vs = u :: us ∧ rep ms H d u ∧ repL ms H ds us
end

mutual
theorem rep_map {ms ms' : List Addr} {H H' : Hp} (f : ∀ p o, p ∉ ms → H p = some o → p ∉ ms' ∧ H' p = some o) : ∀ (d : D) (u : V), rep ms H d u → rep ms' H' d u
  | .v x, u, h => by
    simp only [rep] at h ⊢
    exact h
  | .lst ds, u, h => by
    simp only [rep] at h ⊢
    obtain ⟨p, vs, e, n, hp, hl⟩ := h
    exact ⟨p, vs, e, (f p _ n hp).1, (f p _ n hp).2, repL_map f ds vs hl⟩
  | .tup ds, u, h => by
    simp only [rep] at h ⊢
    obtain ⟨p, vs, e, n, hp, hl⟩ := h
    exact ⟨p, vs, e, (f p _ n hp).1, (f p _ n hp).2, repL_map f ds vs hl⟩
  | .ins C ns ds, u, h => by
    simp only [rep] at h ⊢
    obtain ⟨p, dx, vs, e, n, hp, hn, hl⟩ := h
    exact ⟨p, dx, vs, e, (f p _ n hp).1, (f p _ n hp).2, hn, repL_map f ds vs hl⟩
  | .dct ks ds, u, h => by
    simp only [rep] at h ⊢
    obtain ⟨p, vs, e, n, hp, hn, hl⟩ := h
    exact ⟨p, vs, e, (f p _ n hp).1, (f p _ n hp).2, hn, repL_map f ds vs hl⟩
  | .dcT ks ds, u, h => by
    simp only [rep] at h ⊢
    obtain ⟨p, vs, e, n, hp, hn, hl⟩ := h
    exact ⟨p, vs, e, (f p _ n hp).1, (f p _ n hp).2, hn, repL_map f ds vs hl⟩
theorem repL_map {ms ms' : List Addr} {H H' : Hp} (f : ∀ p o, p ∉ ms → H p = some o → p ∉ ms' ∧ H' p = some o) : ∀ (ds : List D) (us : List V), repL ms H ds us → repL ms' H' ds us
  | [], us, h => by
    simp only [repL] at h ⊢
    exact h
  | d :: ds, us, h => by
    simp only [repL] at h ⊢
    obtain ⟨u, vs, e, h1, h2⟩ := h
    exact ⟨u, vs, e, rep_map f d u h1, repL_map f ds vs h2⟩
end

theorem repL_len {ms : List Addr} {H : Hp} : ∀ {ds : List D} {vs : List V}, repL ms H ds vs → ds.length = vs.length
  | [], vs, h => by
    simp only [repL] at h
    rw [h]
    rfl
  | d :: ds, vs, h => by
    simp only [repL] at h
    obtain ⟨u, us, e, _, h2⟩ := h
    rw [e]
    show ds.length + 1 = us.length + 1
    rw [repL_len h2]
theorem repL_get {ms : List Addr} {H : Hp} : ∀ {ds : List D} {vs : List V} {j : Nat} {d : D}, repL ms H ds vs → ds[j]? = some d → ∃ v, vs[j]? = some v ∧ rep ms H d v
  | [], vs, j, d, h, e => by simp at e
  | d0 :: ds, vs, 0, d, h, e => by
    simp only [repL] at h
    obtain ⟨u, us, rfl, h1, _⟩ := h
    have e' : d0 = d := Option.some.inj e
    subst e'
    exact ⟨u, rfl, h1⟩
  | d0 :: ds, vs, j + 1, d, h, e => by
    simp only [repL] at h
    obtain ⟨u, us, rfl, _, h2⟩ := h
    exact repL_get (j := j) h2 (by simpa using e)
theorem repL_app {ms : List Addr} {H : Hp} : ∀ {ds es : List D} {vs us : List V}, repL ms H ds vs → repL ms H es us → repL ms H (ds ++ es) (vs ++ us)
  | [], es, vs, us, h, h' => by
    simp only [repL] at h
    rw [h]
    exact h'
  | d :: ds, es, vs, us, h, h' => by
    simp only [repL] at h
    obtain ⟨u, ws, rfl, h1, h2⟩ := h
    show repL ms H (d :: (ds ++ es)) (u :: (ws ++ us))
    simp only [repL]
    exact ⟨u, ws ++ us, rfl, h1, repL_app h2 h'⟩
theorem repL_one {ms : List Addr} {H : Hp} {d : D} {u : V} (h : rep ms H d u) : repL ms H [d] [u] := by
  simp only [repL]
  exact ⟨u, [], rfl, h, rfl⟩
theorem repL_nil {ms : List Addr} {H : Hp} : repL ms H [] [] := by simp only [repL]
theorem repL_cons {ms : List Addr} {H : Hp} {d : D} {u : V} {ds : List D} {us : List V} (h : rep ms H d u) (t : repL ms H ds us) : repL ms H (d :: ds) (u :: us) := by
  simp only [repL]
  exact ⟨u, us, rfl, h, t⟩
theorem rep_v {ms : List Addr} {H : Hp} {x : V} : rep ms H (.v x) x := by simp only [rep]
theorem of_v {ms : List Addr} {H : Hp} {x u : V} (h : rep ms H (.v x) u) : u = x := by
  simp only [rep] at h
  exact h
theorem repL_flat {ms : List Addr} {H : Hp} : ∀ {xs vs : List V}, repL ms H (xs.map D.v) vs ↔ vs = xs
  | [], vs => by simp only [List.map_nil, repL]
  | x :: xs, vs => by
    simp only [List.map_cons, repL]
    constructor
    · rintro ⟨u, us, rfl, h1, h2⟩
      rw [of_v h1, repL_flat.mp h2]
    · rintro rfl
      exact ⟨x, xs, rfl, rep_v, repL_flat.mpr rfl⟩

def PotH (H : Hp) (a : Addr) : Prop := ∃ i j : Int, H a = some (.lst [.int i, .int j]) ∧ j.natAbs < 4294967296
abbrev PEn := Addr × Option Str
abbrev ad (ps : List PEn) : List Addr := ps.map Prod.fst
def EntH (H : Hp) (p : PEn) : Prop := match p.2 with
  | none => PotH H p.1
  | some q => LamX.TabS H p.1 q
theorem ent_ne {H : Hp} {p : PEn} {o : HO} (h : EntH H p) (e : H p.1 = some o) : (∃ xs, o = .lst xs) ∨ ∃ xs, o = .tbl xs := by
  obtain ⟨a, k⟩ := p
  cases k with
  | none =>
    obtain ⟨i, j, h1, _⟩ := h
    rw [h1] at e
    cases e
    exact .inl ⟨_, rfl⟩
  | some q =>
    obtain ⟨xs, h1, _⟩ := h
    rw [h1] at e
    cases e
    exact .inr ⟨_, rfl⟩
theorem ent_some {H : Hp} {p : PEn} (h : EntH H p) : H p.1 ≠ none := fun z => by
  obtain ⟨a, k⟩ := p
  cases k with
  | none =>
    obtain ⟨i, j, h1, _⟩ := h
    rw [z] at h1
    cases h1
  | some q =>
    obtain ⟨xs, h1, _⟩ := h
    rw [z] at h1
    cases h1
theorem ent_stay {H H' : Hp} {p : PEn} (h : EntH H p) (f : ∀ o, H p.1 = some o → H' p.1 = some o) (g : ∀ c q, H c = some (LamX.CodeO c q) → H' c = some (LamX.CodeO c q)) : EntH H' p := by
  obtain ⟨a, k⟩ := p
  cases k with
  | none =>
    obtain ⟨i, j, h1, h2⟩ := h
    exact ⟨i, j, f _ h1, h2⟩
  | some q =>
    obtain ⟨xs, h1, h2, h3⟩ := h
    exact ⟨xs, f _ h1, h2, fun pos cv hc => by
      obtain ⟨c, e1, e2⟩ := h3 pos cv hc
      exact ⟨c, e1, g c q e2⟩⟩
structure Ret (ps : List PEn) (H H' : Hp) : Prop where
  kp : ∀ a o, a ∉ ad ps → H a = some o → H' a = some o
  pot : ∀ a ∈ ps, EntH H' a
  grow : ∀ a, H a ≠ none → H' a ≠ none
abbrev Ext (H H' : Hp) : Prop := Ret [] H H'
theorem Ext.keep {H H' : Hp} (e : Ext H H') {a : Addr} {o : HO} (h : H a = some o) : H' a = some o := e.kp a o (by simp) h
theorem Ext.new {H : Hp} {p : Addr} {o : HO} (np : H p = none) : Ext H (upd H p o) := by
  refine ⟨fun a u _ h => ?_, fun _ h => absurd h List.not_mem_nil, fun a h => ?_⟩
  · rw [upd_ne (ne_of_none h np)]
    exact h
  · by_cases e : a = p
    · rw [e, upd_same]
      exact fun z => nomatch z
    · rw [upd_ne e]
      exact h
structure Wd (ms : List Addr) (ps : List PEn) (cs : List (Addr × List V)) (H0 H : Hp) : Prop where
  kp : ∀ a o, a ∉ ad ps → H0 a = some o → H a = some o
  grow : ∀ a, H0 a ≠ none → H a ≠ none
  tr : ∀ m ∈ ms, H m ≠ none
  pot : ∀ a ∈ ps, EntH H a
  pm : ∀ a ∈ ad ps, a ∈ ms
  cel : ∀ c ∈ cs, H c.1 = some (.lst c.2) ∧ c.1 ∈ ms ∧ c.1 ∉ ad ps ∧ H0 c.1 = none

section
variable {ms : List Addr} {ps ps' : List PEn} {cs : List (Addr × List V)} {H0 H H' : Hp} {d : D} {u : V}
theorem ad_mem {ps ps' : List PEn} (hs : ∀ a ∈ ps', a ∈ ps) {a : Addr} (h : a ∈ ad ps') : a ∈ ad ps := by
  obtain ⟨p, hp, rfl⟩ := List.mem_map.mp h
  exact List.mem_map.mpr ⟨p, hs p hp, rfl⟩
theorem mem_ad {ps : List PEn} {p : PEn} (h : p ∈ ps) : p.1 ∈ ad ps := List.mem_map.mpr ⟨p, h, rfl⟩
theorem Wd.ret (hs : ∀ a ∈ ps', a ∈ ps) (hu : ∀ p ∈ ps, p.1 ∈ ad ps' → p ∈ ps') (w : Wd ms ps cs H0 H) (e : Ret ps' H H') : Wd ms ps cs H0 H' where
  kp := fun a o n h => e.kp a o (fun z => n (ad_mem hs z)) (w.kp a o n h)
  grow := fun a h => e.grow a (w.grow a h)
  tr := fun m h => e.grow m (w.tr m h)
  pot := fun p h => by
    by_cases z : p ∈ ps'
    · exact e.pot p z
    · refine ent_stay (w.pot p h) (fun o ho => e.kp _ o (fun y => z (hu p h y)) ho) fun c q hc => e.kp _ _ (fun y => ?_) hc
      obtain ⟨p2, h2, e2⟩ := List.mem_map.mp y
      have := w.pot p2 (hs p2 h2)
      rw [← e2] at hc
      rcases ent_ne this hc with ⟨xs, hx⟩ | ⟨xs, hx⟩ <;> cases hx
  pm := w.pm
  cel := fun c h => by
    obtain ⟨h1, h2, h3, h4⟩ := w.cel c h
    exact ⟨e.kp _ _ (fun z => h3 (ad_mem hs z)) h1, h2, h3, h4⟩
theorem Wd.ret0 (w : Wd ms ps cs H0 H) (e : Ret [] H H') : Wd ms ps cs H0 H' := w.ret (fun _ h => absurd h List.not_mem_nil) (fun _ _ h => absurd h List.not_mem_nil) e
theorem Wd.retP (w : Wd ms ps cs H0 H) (e : Ret ps H H') : Wd ms ps cs H0 H' := w.ret (fun _ h => h) (fun _ h _ => h) e
theorem Wd.enter0 (w : Wd ms ps cs H0 H) : Wd ms [] [] H H := ⟨fun _ _ _ h => h, fun _ h => h, w.tr, fun _ h => absurd h List.not_mem_nil, fun _ h => absurd h List.not_mem_nil, fun _ h => absurd h List.not_mem_nil⟩
theorem Wd.enterP (w : Wd ms ps cs H0 H) : Wd ms ps [] H H := ⟨fun _ _ _ h => h, fun _ h => h, w.tr, w.pot, w.pm, fun _ h => absurd h List.not_mem_nil⟩
theorem Wd.out (w : Wd ms ps cs H0 H) : Ret ps H0 H := ⟨w.kp, w.pot, w.grow⟩
theorem rep_ret (w : Wd ms ps cs H0 H) (e : Ret ps H H') (h : rep ms H d u) : rep ms H' d u := rep_map (fun p o n hp => ⟨n, e.kp p o (fun z => n (w.pm p z)) hp⟩) d u h
theorem rep_ext (e : Ret [] H H') (h : rep ms H d u) : rep ms H' d u := rep_map (fun p o n hp => ⟨n, e.kp p o (by simp) hp⟩) d u h
theorem repL_ext {ds : List D} {us : List V} (e : Ret [] H H') (h : repL ms H ds us) : repL ms H' ds us := repL_map (fun p o n hp => ⟨n, e.kp p o (by simp) hp⟩) ds us h
theorem Wd.cell {l : Addr} {xs : List V} (w : Wd ms ps cs H0 H) (nl : H l = none) : Wd (l :: ms) ps ((l, xs) :: cs) H0 (upd H l (.lst xs)) := by
  have e : Ext H (upd H l (.lst xs)) := Ext.new nl
  have w1 := w.ret0 e
  refine ⟨w1.kp, w1.grow, fun m h => ?_, w1.pot, fun a h => List.mem_cons_of_mem _ (w.pm a h), fun c h => ?_⟩
  · rcases List.mem_cons.mp h with rfl | h
    · rw [upd_same]
      exact fun z => nomatch z
    · exact w1.tr m h
  · rcases List.mem_cons.mp h with rfl | h
    · refine ⟨upd_same, List.mem_cons_self, fun z => ?_, ?_⟩
      · obtain ⟨p, hp, e2⟩ := List.mem_map.mp z
        exact ent_some (w.pot p hp) (by rw [e2]; exact nl)
      · show H0 l = none
        cases q : H0 l with
        | none => rfl
        | some o => exact absurd nl (w.grow l (by rw [q]; exact fun z => nomatch z))
    · obtain ⟨h1, h2, h3, h4⟩ := w1.cel c h
      exact ⟨h1, List.mem_cons_of_mem _ h2, h3, h4⟩
theorem rep_cell {l : Addr} {o : HO} (nl : H l = none) (h : rep ms H d u) : rep (l :: ms) (upd H l o) d u := by
  refine rep_map (fun p o n hp => ?_) d u h
  have ne : p ≠ l := ne_of_none hp nl
  refine ⟨fun z => ?_, by rw [upd_ne ne]; exact hp⟩
  rcases List.mem_cons.mp z with z | z
  · exact ne z
  · exact n z
theorem Wd.put {l : Addr} {xs ys : List V} (w : Wd ms ps ((l, xs) :: cs) H0 H) (hn : ∀ c ∈ cs, c.1 ≠ l) : Wd ms ps ((l, ys) :: cs) H0 (upd H l (.lst ys)) := by
  obtain ⟨hl, lm, lp, l0⟩ := w.cel _ List.mem_cons_self
  refine ⟨fun a o n h => ?_, fun a h => ?_, fun m h => ?_, fun a h => ?_, w.pm, fun c h => ?_⟩
  · rw [upd_ne (ne_of_none h l0)]
    exact w.kp a o n h
  · by_cases e : a = l
    · rw [e, upd_same]
      exact fun z => nomatch z
    · rw [upd_ne e]
      exact w.grow a h
  · by_cases e : m = l
    · rw [e, upd_same]
      exact fun z => nomatch z
    · rw [upd_ne e]
      exact w.tr m h
  · refine ent_stay (w.pot a h) (fun o ho => by rw [upd_ne (fun z => lp (by rw [← z]; exact mem_ad h))]; exact ho) fun c q hc => ?_
    rw [upd_ne (fun z => by rw [z, hl] at hc; cases hc)]
    exact hc
  · rcases List.mem_cons.mp h with rfl | h
    · exact ⟨upd_same, lm, lp, l0⟩
    · obtain ⟨h1, h2, h3, h4⟩ := w.cel c (List.mem_cons_of_mem _ h)
      exact ⟨by rw [upd_ne (hn c h)]; exact h1, h2, h3, h4⟩
theorem rep_put {l : Addr} {o : HO} (lm : l ∈ ms) (h : rep ms H d u) : rep ms (upd H l o) d u :=
  rep_map (fun p o n hp => ⟨n, by rw [upd_ne (fun z => n (by rw [z]; exact lm))]; exact hp⟩) d u h
theorem repL_put {ds : List D} {us : List V} {l : Addr} {o : HO} (lm : l ∈ ms) (h : repL ms H ds us) : repL ms (upd H l o) ds us :=
  repL_map (fun p o n hp => ⟨n, by rw [upd_ne (fun z => n (by rw [z]; exact lm))]; exact hp⟩) ds us h
theorem Wd.froze {l : Addr} {xs : List V} (w : Wd (l :: ms) ps ((l, xs) :: cs) H0 H) (hp : ∀ a ∈ ad ps, a ∈ ms) (hc : ∀ c ∈ cs, c.1 ∈ ms) : Wd ms ps cs H0 H :=
  ⟨w.kp, w.grow, fun m h => w.tr m (List.mem_cons_of_mem _ h), w.pot, hp, fun c h => by
    obtain ⟨h1, _, h3, h4⟩ := w.cel c (List.mem_cons_of_mem _ h)
    exact ⟨h1, hc c h, h3, h4⟩⟩
theorem repL_weak {ds : List D} {us : List V} {l : Addr} (h : repL (l :: ms) H ds us) : repL ms H ds us := repL_map (fun p o n hp => ⟨fun z => n (List.mem_cons_of_mem _ z), hp⟩) ds us h
end

def upE (t : TE) : TE := fun σ H Q => ∃ Q' : VK, t σ H Q' ∧ ∀ v H', Q' v H' → Q v H'
section
variable {X : Cx}
theorem pe_up {e : Expr} {t : TE} (h : PE X e t) : PE X e (upE t) := ⟨fun pins s σ H Q I ⟨Q', hq, m⟩ => thn (h.run pins s σ H Q' I hq) fun u s' ⟨v, H', I', r, q⟩ => ⟨v, H', I', r, m v H' q⟩⟩
end

def mapC {α β : Type} (body : α → (β → Prop) → Prop) : List α → List β → (List β → Prop) → Prop
  | [], acc, k => k acc
  | x :: xs, acc, k => body x fun y => mapC body xs (acc ++ [y]) k
def filC {α β : Type} (body : α → (Option β → Prop) → Prop) : List α → List β → (List β → Prop) → Prop
  | [], acc, k => k acc
  | x :: xs, acc, k => body x fun o => match o with
    | some y => filC body xs (acc ++ [y]) k
    | none => filC body xs acc k
def forC {α S : Type} (body : α → S → (S → Prop) → Prop) : List α → S → (S → Prop) → Prop
  | [], s, k => k s
  | x :: xs, s, k => body x s fun s' => forC body xs s' k
def rangeI (lo hi : Int) : List Int := (List.range (hi - lo).toNat).map fun i => lo + ((i : Nat) : Int)
theorem rangeI_len {lo hi : Int} : (rangeI lo hi).length = (hi - lo).toNat := by simp [rangeI]
theorem rangeI_get {lo hi : Int} {i : Nat} (h : i < (hi - lo).toNat) : (rangeI lo hi)[i]? = some (lo + (i : Int)) := by
  simp [rangeI, List.getElem?_map, List.getElem?_range h]
theorem drop_cons' {α : Type} {xs : List α} {i : Nat} {x : α} (h : xs[i]? = some x) : xs.drop i = x :: xs.drop (i + 1) := by
  obtain ⟨h1, h2⟩ := List.getElem?_eq_some_iff.mp h
  rw [List.drop_eq_getElem_cons h1, h2]

def Keep (ms : List Addr) (H H' : Hp) : Prop := ∀ a o, a ∉ ms → H a = some o → H' a = some o
section
variable {ms : List Addr} {ps : List PEn} {cs : List (Addr × List V)} {H0 H H1 H' : Hp} {d : D} {u : V}
theorem Keep.refl : Keep ms H H := fun _ _ _ h => h
theorem keep_ret (w : Wd ms ps cs H0 H) (e : Ret ps H H') (k : Keep ms H1 H) : Keep ms H1 H' := fun a o n h => e.kp a o (fun z => n (w.pm a z)) (k a o n h)
theorem keep_ext (e : Ret [] H H') (k : Keep ms H1 H) : Keep ms H1 H' := fun a o n h => e.kp a o (by simp) (k a o n h)
theorem keep_cell {l : Addr} {o : HO} (nl : H l = none) (k : Keep ms H1 H) : Keep (l :: ms) H1 (upd H l o) := fun a u n h => by
  rw [upd_ne (fun z => n (by rw [z]; exact List.mem_cons_self))]
  exact k a u (fun z => n (List.mem_cons_of_mem _ z)) h
theorem keep_put {l : Addr} {o : HO} (lm : l ∈ ms) (k : Keep ms H1 H) : Keep ms H1 (upd H l o) := fun a u n h => by
  rw [upd_ne (fun z => n (by rw [z]; exact lm))]
  exact k a u n h
theorem rep_keep (k : Keep ms H H') (h : rep ms H d u) : rep ms H' d u := rep_map (fun p o n hp => ⟨n, k p o n hp⟩) d u h
theorem repL_keep {ds : List D} {us : List V} (k : Keep ms H H') (h : repL ms H ds us) : repL ms H' ds us := repL_map (fun p o n hp => ⟨n, k p o n hp⟩) ds us h
end

theorem ite3 {c : Prop} [Decidable c] {A B P R : Prop} (h : if c then A else B) (h1 : A → P) (h2 : B → R) : if c then P else R := by
  by_cases q : c
  · rw [if_pos q] at h ⊢
    exact h1 h
  · rw [if_neg q] at h ⊢
    exact h2 h

section
variable {K : PySem.W.Frag} {ms : List Addr} {ps : List PEn} {cs : List (Addr × List V)} {H0 H : Hp} {d : D} {u x : V}
theorem rep_fld {C : Addr} {ns : List Str} {ds : List D} {f : Str} {Q : VK} {j : Nat} (h : rep ms H (.ins C ns ds) x) (c : Cls K C) (n : NoAttr K C f) (nd : ns.Nodup) (hn : ns[j]? = some f) (hd : ds[j]? = some d) (k : ∀ v, rep ms H d v → Q v H) :
    ∃ a C dx fs v, x = .ref a ∧ H a = some (.ins C dx fs) ∧ Cls K C ∧ NoAttr K C f ∧ fs.lookup f = some v ∧ Q v H := by
  simp only [rep] at h
  obtain ⟨p, dx, vs, e, _, hp, hl, hr⟩ := h
  obtain ⟨v, hv, rv⟩ := repL_get hr hd
  refine ⟨p, C, dx, _, v, e, hp, c, n, ?_, k v rv⟩
  clear hr hd hp e k rv
  induction ns generalizing vs j with
  | nil => simp at hn
  | cons n0 ns ih =>
    cases vs with
    | nil => simp at hv
    | cons v0 vs =>
      cases j with
      | zero =>
        have e1 : n0 = f := Option.some.inj hn
        have e2 : v0 = v := Option.some.inj hv
        subst e1 e2
        simp [List.lookup]
      | succ j =>
        have hn' : ns[j]? = some f := by simpa using hn
        have hv' : vs[j]? = some v := by simpa using hv
        have ne : f ≠ n0 := fun z => by
          subst z
          exact (List.nodup_cons.mp nd).1 (List.mem_of_getElem? hn')
        show ((n0, v0) :: ns.zip vs).lookup f = some v
        rw [List.lookup_cons, show (f == n0) = false from beq_eq_false_iff_ne.mpr ne]
        exact ih (List.nodup_cons.mp nd).2 hn' vs (by simpa using hl) hv'
theorem lookup_zip_none {m : Str} : ∀ {ns : List Str} {vs : List V}, m ∉ ns → (ns.zip vs).lookup m = none
  | [], vs, _ => by simp
  | n :: ns, [], _ => by simp
  | n :: ns, v :: vs, h => by
    show ((n, v) :: ns.zip vs).lookup m = none
    rw [List.lookup_cons, show (m == n) = false from beq_eq_false_iff_ne.mpr fun z => h (by rw [z]; exact List.mem_cons_self)]
    exact lookup_zip_none fun z => h (List.mem_cons_of_mem _ z)
theorem rep_meth {C : Addr} {ns : List Str} {ds : List D} {m : Str} {P : Hp → Prop} (h : rep ms H (.ins C ns ds) x) (hm : m ∉ ns) (k : P H) : ∃ a dx fs, x = .ref a ∧ H a = some (.ins C dx fs) ∧ fs.lookup m = none ∧ P H := by
  simp only [rep] at h
  obtain ⟨p, dx, vs, e, _, hp, hl, hr⟩ := h
  exact ⟨p, dx, _, e, hp, lookup_zip_none hm, k⟩
theorem rep_prop {C : Addr} {ns : List Str} {ds : List D} {P : Addr → Prop} (h : rep ms H (.ins C ns ds) x) (k : ∀ a, rep ms H (.ins C ns ds) (.ref a) → P a) : ∃ a dx fs, x = .ref a ∧ H a = some (.ins C dx fs) ∧ P a := by
  have h' := h
  simp only [rep] at h
  obtain ⟨p, dx, vs, e, _, hp, hl, hr⟩ := h
  subst e
  exact ⟨p, dx, _, rfl, hp, k p h'⟩
theorem rep_ixT {ds : List D} {i : Int} (j : Nat) {σ : L2.St} {Q : VK} (h : rep ms H (.tup ds) x) (hi : i = (j : Int)) (hd : ds[j]? = some d) (k : ∀ v, rep ms H d v → Q v H) : tC (V.int i) σ H fun y H2 => rIxT K x y H2 Q := by
  subst hi
  simp only [rep] at h
  obtain ⟨p, vs, e, _, hp, hr⟩ := h
  obtain ⟨v, hv, rv⟩ := repL_get hr hd
  exact ⟨p, vs, _, v, e, rfl, .inl (.inl hp), atI_nat hv, k v rv⟩
theorem rep_ixL {α : Type} {e : α → D} {xs : List α} {i : Int} {Q : VK} (h : rep ms H (.lst (xs.map e)) x) (h0 : 0 ≤ i) (hi : i.toNat < xs.length) (k : ∀ v, rep ms H (e (xs[i.toNat]'hi)) v → Q v H) : rIxL K x (.int i) H Q := by
  simp only [rep] at h
  obtain ⟨p, vs, e', _, hp, hr⟩ := h
  obtain ⟨v, hv, rv⟩ := repL_get (d := e (xs[i.toNat]'hi)) hr (by rw [List.getElem?_map, List.getElem?_eq_getElem hi]; rfl)
  refine ⟨p, vs, i, v, e', rfl, .inl (.inl hp), at_of (j := i.toNat) (by omega) hv, k v rv⟩
theorem rep_lenL {α : Type} {e : α → D} {xs : List α} {P : Nat → Prop} (h : rep ms H (.lst (xs.map e)) x) (k : P xs.length) : ∃ y n, [x] = [y] ∧ LenV K y H n ∧ P n := by
  simp only [rep] at h
  obtain ⟨p, vs, e', _, hp, hr⟩ := h
  subst e'
  have hl := repL_len hr
  rw [List.length_map] at hl
  exact ⟨_, xs.length, rfl, .inl ⟨vs, .inl (.inl hp), hl⟩, k⟩
theorem rep_iter {ds : List D} {P : Addr → Prop} (h : rep ms H (.lst ds) x) (k : ∀ a xs, x = .ref a → a ∉ ms → H a = some (.lst xs) → repL ms H ds xs → P a) : ∃ a, x = .ref a ∧ (∃ xs, SqL K H a xs) ∧ P a := by
  simp only [rep] at h
  obtain ⟨p, vs, e, n, hp, hr⟩ := h
  exact ⟨p, e, ⟨vs, .inl (.inl hp)⟩, k p vs e n hp hr⟩
theorem rep_gtup {ds : List D} {n : Nat} {Q : L2.St → Hp → Prop} {t : TGs} {σ : L2.St} (h : rep ms H (.tup ds) x) (hn : ds.length = n) (k : ∀ vs, repL ms H ds vs → t vs σ H Q) : ∃ a xs, x = .ref a ∧ SqT K H a xs ∧ xs.length = n ∧ t xs σ H Q := by
  simp only [rep] at h
  obtain ⟨p, vs, e, _, hp, hr⟩ := h
  exact ⟨p, vs, e, .inl (.inl hp), by rw [← repL_len hr]; exact hn, k vs hr⟩
theorem rep_tup_mk {p : Addr} {ds : List D} {vs : List V} (w : Wd ms ps cs H0 H) (np : H p = none) (e : Ext H H') (hp : H' p = some (.tup vs)) (hr : repL ms H ds vs) : rep ms H' (.tup ds) (.ref p) := by
  simp only [rep]
  exact ⟨p, vs, rfl, fun z => w.tr p z np, hp, repL_ext e hr⟩
theorem rep_lst_mk {p : Addr} {ds : List D} {vs : List V} (w : Wd ms ps cs H0 H) (np : H p = none) (e : Ext H H') (hp : H' p = some (.lst vs)) (hr : repL ms H ds vs) : rep ms H' (.lst ds) (.ref p) := by
  simp only [rep]
  exact ⟨p, vs, rfl, fun z => w.tr p z np, hp, repL_ext e hr⟩
end

section
variable {α β : Type} {K : PySem.W.Frag} {ms : List Addr} {ps : List PEn} {cs : List (Addr × List V)} {H0 H1 : Hp} {g : TG} {tt : TT} {te : TE} {vl : List Nat} {σ : L2.St} {Qd : Hp → Prop}
structure Trn (ms : List Addr) (ps : List PEn) (cs : List (Addr × List V)) (H0 H1 : Hp) (L : Addr) (eb : β → D) (n : Nat) (ys : List β) (vs : List V) (H : Hp) : Prop where
  w : Wd (L :: ms) ps ((L, vs) :: cs) H0 H
  k : Keep (L :: ms) H1 H
  r : repL (L :: ms) H (ys.map eb) vs
  n : ys.length ≤ n
theorem Trn.add {L : Addr} {eb : β → D} {n : Nat} {ys : List β} {vs : List V} {H : Hp} {y : β} {u : V} (hc : ∀ c ∈ cs, c.1 ≠ L) (w : Wd (L :: ms) ps ((L, vs) :: cs) H0 H) (k : Keep (L :: ms) H1 H) (r : repL (L :: ms) H (ys.map eb) vs) (hn : ys.length ≤ n) (hr : rep (L :: ms) H (eb y) u) :
    Trn ms ps cs H0 H1 L eb (n + 1) (ys ++ [y]) (vs ++ [u]) (upd H L (.lst (vs ++ [u]))) := by
  refine ⟨w.put hc, keep_put List.mem_cons_self k, ?_, by rw [List.length_append]; exact Nat.add_le_add_right hn 1⟩
  rw [List.map_append]
  exact repL_put List.mem_cons_self (repL_app r (repL_one hr))
theorem Trn.start {L : Addr} {eb : β → D} (w : Wd ms ps cs H0 H1) (nl : H1 L = none) : Trn ms ps cs H0 H1 L eb 0 [] [] (upd H1 L (.lst [])) :=
  ⟨w.cell nl, fun a o n h => by rw [upd_ne (ne_of_none h nl)]; exact h, repL_nil, Nat.le_refl _⟩
theorem Trn.done {L : Addr} {eb : β → D} {n : Nat} {ys : List β} {vs : List V} {H : Hp} (w : Wd ms ps cs H0 H1) (nl : H1 L = none) (t : Trn ms ps cs H0 H1 L eb n ys vs H) : Wd ms ps cs H0 H ∧ Keep ms H1 H ∧ rep ms H (.lst (ys.map eb)) (.ref L) := by
  refine ⟨t.w.froze w.pm fun c h => (w.cel c h).2.1, fun a o n h => t.k a o (fun z => ?_) h, ?_⟩
  · rcases List.mem_cons.mp z with z | z
    · rw [z, nl] at h
      cases h
    · exact n z
  · simp only [rep]
    exact ⟨L, vs, rfl, fun z => w.tr L z nl, (t.w.cel _ List.mem_cons_self).1, repL_weak t.r⟩

end

section
variable {α β : Type} {K : PySem.W.Frag} {ms : List Addr} {ps : List PEn} {cs : List (Addr × List V)} {H0 H1 : Hp} {g : TG} {tt : TT} {te : TE} {vl : List Nat} {σ : L2.St} {Qd : Hp → Prop}
theorem Trn.skip {L : Addr} {eb : β → D} {n : Nat} {ys : List β} {vs : List V} {H : Hp} (t : Trn ms ps cs H0 H1 L eb n ys vs H) : Trn ms ps cs H0 H1 L eb (n + 1) ys vs H := ⟨t.w, t.k, t.r, Nat.le_succ_of_le t.n⟩
end

section
variable {α S : Type} {K : PySem.W.Frag} {ms : List Addr} {ps : List PEn} {H0 H1 : Hp} {g : TG} {tb : TS} {D' : Ends} {σ : L2.St} {cs : S → List (Addr × List V)}
end

section
variable {K : PySem.W.Frag} {ms : List Addr} {H : Hp} {d : D} {u x y : V}
theorem repL_uncons {ds : List D} {vs : List V} (h : repL ms H (d :: ds) vs) : ∃ u us, vs = u :: us ∧ rep ms H d u ∧ repL ms H ds us := by
  simp only [repL] at h
  exact h
theorem repL_empty {vs : List V} (h : repL ms H [] vs) : vs = [] := by
  simp only [repL] at h
  exact h
theorem repL_ints {ns : List Int} {vs : List V} (h : repL ms H (ns.map fun n => D.v (.int n)) vs) : vs = ns.map V.int := by
  have e : (ns.map fun n => D.v (.int n)) = (ns.map V.int).map D.v := by rw [List.map_map]; rfl
  rw [e] at h
  exact repL_flat.mp h
theorem repL_strs {ns : List Str} {vs : List V} (h : repL ms H (ns.map fun n => D.v (.str n)) vs) : vs = ns.map V.str := by
  have e : (ns.map fun n => D.v (.str n)) = (ns.map V.str).map D.v := by rw [List.map_map]; rfl
  rw [e] at h
  exact repL_flat.mp h
theorem repL_bls {ns : List Bool} {vs : List V} (h : repL ms H (ns.map fun n => D.v (.bl n)) vs) : vs = ns.map V.bl := by
  have e : (ns.map fun n => D.v (.bl n)) = (ns.map V.bl).map D.v := by rw [List.map_map]; rfl
  rw [e] at h
  exact repL_flat.mp h
theorem rep_join {a : Str} {ys : List Str} {P : Str → List Str → Prop} (h : rep ms H (.lst (ys.map fun n => D.v (.str n))) x) (hz : (ys.map (·.length)).sum + ys.length * a.length ≤ 16777216) (k : P a ys) :
    ∃ a' p, ∃ ys : List Str, V.str a = .str a' ∧ [x] = [.ref p] ∧ (SqL K H p (ys.map V.str) ∨ SqT K H p (ys.map V.str)) ∧ (ys.map (·.length)).sum + ys.length * a'.length ≤ 16777216 ∧ P a' ys := by
  simp only [rep] at h
  obtain ⟨p, vs, e, _, hp, hr⟩ := h
  have ev := repL_strs hr
  subst ev e
  exact ⟨a, p, ys, rfl, rfl, .inl (.inl (.inl hp)), hz, k⟩
theorem rep_all {ys : List Bool} {P : List Bool → Prop} (h : rep ms H (.lst (ys.map fun n => D.v (.bl n))) x) (k : P ys) : ∃ (a : Addr) (bs : List Bool), [x] = [V.ref a] ∧ SqL K H a (bs.map V.bl) ∧ P bs := by
  simp only [rep] at h
  obtain ⟨p, vs, e, _, hp, hr⟩ := h
  have ev := repL_bls hr
  subst ev e
  exact ⟨p, ys, rfl, .inl (.inl hp), k⟩
mutual
def pyOf : D → PyData
  | .v .non => .none
  | .v (.bl b) => .bool b
  | .v (.int i) => .int i
  | .v (.str z) => .str z
  | .v _ => .none
  | .lst ds => .list (pyL ds)
  | .tup ds => .tuple (pyL ds)
  | .ins _ _ _ => .none
  | .dct _ _ => .none
  | .dcT _ _ => .none
def pyL : List D → List PyData
  | [] => []
  | d :: ds => pyOf d :: pyL ds
def plainD : D → Bool
  | .v .non => true
  | .v (.bl _) => true
  | .v (.int _) => true
  | .v (.str _) => true
  | .v _ => false
  | .lst ds => plainL ds
  | .tup ds => plainL ds
  | .ins _ _ _ => false
  | .dct _ _ => false
  | .dcT _ _ => false
def plainL : List D → Bool
  | [] => true
  | d :: ds => plainD d && plainL ds
end
mutual
theorem dp_of : ∀ (d : D) (u : V), plainD d = true → rep ms H d u → Dp K H u (pyOf d)
  | .v x, u, p, h => by
    have e := of_v h
    subst e
    cases u <;> simp only [pyOf, plainD] at p ⊢ <;> first | exact .non | exact .bl _ | exact .int _ | exact .str _ | cases p
  | .lst ds, u, p, h => by
    simp only [rep] at h
    obtain ⟨a, vs, e, _, hp, hr⟩ := h
    subst e
    simp only [pyOf, plainD] at p ⊢
    exact .lst (.inl (.inl hp)) (dpL_of ds vs p hr)
  | .tup ds, u, p, h => by
    simp only [rep] at h
    obtain ⟨a, vs, e, _, hp, hr⟩ := h
    subst e
    simp only [pyOf, plainD] at p ⊢
    exact .tup (.inl (.inl hp)) (dpL_of ds vs p hr)
  | .ins _ _ _, u, p, h => by
    simp only [plainD] at p
    cases p
  | .dct _ _, u, p, h => by
    simp only [plainD] at p
    cases p
  | .dcT _ _, u, p, h => by
    simp only [plainD] at p
    cases p
theorem dpL_of : ∀ (ds : List D) (vs : List V), plainL ds = true → repL ms H ds vs → DpAll K H vs (pyL ds)
  | [], vs, p, h => by
    have e := repL_empty h
    subst e
    simp only [pyL]
    exact .nil
  | d :: ds, vs, p, h => by
    obtain ⟨u, us, e, h1, h2⟩ := repL_uncons h
    subst e
    simp only [plainL, Bool.and_eq_true] at p
    simp only [pyL]
    exact .cons (dp_of d u p.1 h1) (dpL_of ds us p.2 h2)
end
theorem rep_eqD {d e : D} {Q : VK} (h1 : rep ms H d x) (h2 : rep ms H e y) (p1 : plainD d = true) (p2 : plainD e = true) (s1 : SeqAt.shaped (pyOf d) = true) (s2 : SeqAt.shaped (pyOf e) = true) (k : Q (.bl (PyData.eqv (pyOf d) (pyOf e))) H) : rEqD K x y H Q :=
  ⟨_, _, dp_of d x p1 h1, dp_of e y p2 h2, s1, s2, k⟩
end

section
variable {ms : List Addr} {H H' H1 : Hp} {d : D} {u : V} {l : Addr}
theorem Keep.trans (a : Keep ms H1 H) (b : Keep ms H H') : Keep ms H1 H' := fun x o n h => b x o n (a x o n h)
theorem Keep.new (k : Keep ms H1 H) : Keep (l :: ms) H1 H := fun x o n h => k x o (fun z => n (List.mem_cons_of_mem _ z)) h
theorem rep_new (nl : H l = none) (h : rep ms H d u) : rep (l :: ms) H d u := rep_map (fun p o n hp => ⟨fun z => by
  rcases List.mem_cons.mp z with z | z
  · exact ne_of_none hp nl z
  · exact n z, hp⟩) d u h
theorem repL_new {ds : List D} {us : List V} (nl : H l = none) (h : repL ms H ds us) : repL (l :: ms) H ds us := repL_map (fun p o n hp => ⟨fun z => by
  rcases List.mem_cons.mp z with z | z
  · exact ne_of_none hp nl z
  · exact n z, hp⟩) ds us h
end

section
variable {X : Cx} {CX : CXT} {k : Nat} {f C : Addr} {fd : FuncData} {ps ks : List Str} {sp : Sp} {E : XK} {m : Str} {apos pos : Pos} {o : Expr} {kws : List Keyword} {ta : TE} {tk : TA} {g : List Value → List Value → List Value} {gV : List V → List V → List V}
end
end Rx
namespace Rx
open PySem PySem.Spec PyProof.Rows L2
theorem vals_getD : ∀ {zs : List V} {ws : List Value}, Vals zs ws → ∀ j : Nat, RelV (zs.getD j .non) (ws.getD j .none)
  | _, _, .nil, _ => rfl
  | _, _, .cons r _, 0 => r
  | _, _, .cons _ t, j + 1 => vals_getD t j
theorem tyes_of {σ : L2.St} {H : Hp} {A B : Hp → Prop} (h : A H) : tYes σ H fun b H3 => if b = true then A H3 else B H3 := by
  show (if true = true then A H else B H)
  rw [if_pos rfl]
  exact h
theorem Ret.keep {H H' : Hp} (e : Ret [] H H') {a : Addr} {o : HO} (h : H a = some o) : H' a = some o := e.kp a o (by simp) h
end Rx
namespace Rx
open PySem PySem.Spec PyProof.Rows L2
section
variable {X : Cx}
end

structure OwnEq (K : PySem.W.Frag) (C f : Addr) : Prop where
  hs : PySem.W.findIn K (.ref C) "__eq__" = some (some (.ref f))
  hf : PySem.W.isFn K (.ref f) = true
section
variable {K : PySem.W.Frag} {ms : List Addr} {ps : List PEn} {cs : List (Addr × List V)} {H H0 H1 : Hp} {d : D} {u x y : V}
theorem rep_ins {C : Addr} {ns : List Str} {ds : List D} (h : rep ms H (.ins C ns ds) u) : ∃ p dx fs, u = .ref p ∧ H p = some (.ins C dx fs) := by
  simp only [rep] at h
  obtain ⟨p, dx, vs, e, _, hp, _⟩ := h
  exact ⟨p, dx, _, e, hp⟩
theorem rep_cat {α : Type} {xs ys : List α} {e : α → D} {Q : VK} (w : Wd ms ps cs H0 H) (h1 : rep ms H (.lst (xs.map e)) x) (h2 : rep ms H (.lst (ys.map e)) y) (hz : xs.length + ys.length ≤ sizeLine)
    (k : ∀ p H', Ret [] H H' → rep ms H' (.lst ((xs ++ ys).map e)) (.ref p) → Q (.ref p) H') : rCat x y H Q := by
  simp only [rep] at h1 h2
  obtain ⟨p, vs, rfl, np, hp, r1⟩ := h1
  obtain ⟨q, us, rfl, nq, hq, r2⟩ := h2
  have l1 := repL_len r1
  have l2 := repL_len r2
  rw [List.length_map] at l1 l2
  refine ⟨p, q, vs, us, rfl, rfl, hp, hq, by rw [← l1, ← l2]; exact hz, fun a na => ?_⟩
  have ee : Ret [] H (upd H a (.lst (vs ++ us))) := Ext.new na
  refine k a _ ee ?_
  simp only [rep]
  refine ⟨a, vs ++ us, rfl, fun z => w.tr a z na, upd_same, ?_⟩
  rw [List.map_append]
  exact repL_app (repL_ext ee r1) (repL_ext ee r2)
structure IsC (K : PySem.W.Frag) (C : Addr) : Prop where
  cl : Cls K C
  ha : PySem.W.findIn K (.ref C) "__class__" = some (some (.builtin "object.__class__"))
  hn : PySem.W.specialIn K (.builtin "object.__class__") "__get__" = some (some (.builtin "getset_descriptor.__get__"))
  tk : PySem.W.takesIn K (.builtin "object.__class__") = some true
  hm : PySem.W.mroIn K C (.type "object") = some true
end
section
variable {β : Type} {K : PySem.W.Frag} {ms : List Addr} {ps : List PEn} {cs : List (Addr × List V)} {H0 H1 : Hp} {g : TG} {tt : TT} {te : TE} {vl : List Nat} {σ : L2.St} {Qd : Hp → Prop}
end
section
variable {M : Model} {prog : Program} {w : World} {A : Around} {E : Value → Shared → Prop} {s : Shared} {K : PySem.W.Frag} {x y C : Addr} {ox : Obj} {od : Option Obj}
end
structure OwnNe (K : PySem.W.Frag) (C : Addr) : Prop where
  hne : PySem.W.findIn K (.ref C) "__ne__" = some (some (.builtin "object.__ne__"))
  hm : PySem.W.mroIn K C (.type "object") = some true
mutual
def noL : D → Bool
  | .v _ => true
  | .lst _ => false
  | .tup ds => noLs ds
  | .ins _ _ ds => noLs ds
  | .dct _ ds => noLs ds
  | .dcT _ ds => noLs ds
def noLs : List D → Bool
  | [] => true
  | d :: ds => noL d && noLs ds
end
section
variable {ms : List Addr} {ps : List PEn} {cs : List (Addr × List V)} {H0 H H' : Hp} {L : Addr} {vs : List V}
mutual
theorem rep_lift0 (hL : H L = some (.lst vs)) : ∀ (d : D) (u : V), noL d = true → rep ms H d u → rep (L :: ms) H d u
  | .v x, u, _, h => by
    simp only [rep] at h ⊢
    exact h
  | .lst ds, u, n, h => by
    simp only [noL] at n
    cases n
  | .tup ds, u, n, h => by
    simp only [noL] at n
    simp only [rep] at h ⊢
    obtain ⟨p, us, e, np, hp, hl⟩ := h
    refine ⟨p, us, e, fun z => ?_, hp, repL_lift0 hL ds us n hl⟩
    rcases List.mem_cons.mp z with z | z
    · rw [z, hL] at hp
      cases hp
    · exact np z
  | .ins C ns ds, u, n, h => by
    simp only [noL] at n
    simp only [rep] at h ⊢
    obtain ⟨p, dx, us, e, np, hp, hn, hl⟩ := h
    refine ⟨p, dx, us, e, fun z => ?_, hp, hn, repL_lift0 hL ds us n hl⟩
    rcases List.mem_cons.mp z with z | z
    · rw [z, hL] at hp
      cases hp
    · exact np z
  | .dct ks ds, u, n, h => by
    simp only [noL] at n
    simp only [rep] at h ⊢
    obtain ⟨p, us, e, np, hp, hn, hl⟩ := h
    refine ⟨p, us, e, fun z => ?_, hp, hn, repL_lift0 hL ds us n hl⟩
    rcases List.mem_cons.mp z with z | z
    · rw [z, hL] at hp
      cases hp
    · exact np z
  | .dcT ks ds, u, n, h => by
    simp only [noL] at n
    simp only [rep] at h ⊢
    obtain ⟨p, us, e, np, hp, hn, hl⟩ := h
    refine ⟨p, us, e, fun z => ?_, hp, hn, repL_lift0 hL ds us n hl⟩
    rcases List.mem_cons.mp z with z | z
    · rw [z, hL] at hp
      cases hp
    · exact np z
theorem repL_lift0 (hL : H L = some (.lst vs)) : ∀ (ds : List D) (us : List V), noLs ds = true → repL ms H ds us → repL (L :: ms) H ds us
  | [], us, _, h => by
    simp only [repL] at h ⊢
    exact h
  | d :: ds, us, n, h => by
    simp only [noLs, Bool.and_eq_true] at n
    simp only [repL] at h ⊢
    obtain ⟨u, ws, e, h1, h2⟩ := h
    exact ⟨u, ws, e, rep_lift0 hL d u n.1 h1, repL_lift0 hL ds ws n.2 h2⟩
end
structure Mut (ms : List Addr) (ps : List PEn) (cs : List (Addr × List V)) (H0 H : Hp) (L : Addr) (ds : List D) : Prop where
  hp : L ∉ ad ps
  h0 : H0 L = none
  hc : ∀ c ∈ cs, c.1 ≠ L
  nm : L ∉ ms
  val : ∃ vs, H L = some (.lst vs) ∧ repL (L :: ms) H ds vs
variable {ds : List D} {d : D} {u : V}
end
section
variable {ms : List Addr} {ps : List PEn} {cs : List (Addr × List V)} {H0 H H1 H' : Hp} {L : Addr} {K : PySem.W.Frag} {x : V}
theorem keep_none {w : Wd ms ps cs H0 H} (nl : H L = none) (k : Keep ms H1 H) : H1 L = none := by
  have nL : L ∉ ms := fun z => w.tr L z nl
  cases q : H1 L with
  | none => rfl
  | some o =>
    have := k L o nL q
    rw [nl] at this
    cases this
theorem rep_rg_mk {p : Addr} {a b : Int} (w : Wd ms ps cs H0 H) (np : H p = none) (e : Ret [] H H') (hp : H' p = some (.lst (rgV a b))) : rep ms H' (.lst ((rangeI a b).map fun n => D.v (.int n))) (.ref p) := by
  simp only [rep]
  refine ⟨p, rgV a b, rfl, fun z => w.tr p z np, hp, ?_⟩
  have e1 : (rangeI a b).map (fun n => D.v (.int n)) = (rgV a b).map D.v := by
    unfold rangeI rgV
    rw [List.map_map, List.map_map]
    rfl
  rw [e1]
  exact repL_flat.mpr rfl
end
theorem turn_long {P : Program} {w : World} {K : PySem.W.Frag} {tg : Expr} (it : Addr) (lo : Int) (n : Nat) : Turn P w K tg (Itr lo n) [it] it (fun i h => IsLongIter h it (lo + (i : Nat) * 1) ((n : Int) - (i : Nat)) 1) where
  mem := by simp
  obj := fun i h st b hb => by
    have e : b = it := by simpa using hb
    subst e
    exact ⟨_, st, fun v z => by
      have z' : Data.fields _ = Data.cell v := z
      cases z'⟩
  keep := fun i h h' st k => k it (by simp) _ st
  item := by
    intro X hP hw hK hc i pins s σ H E I hf st hg
    subst hP hw hK
    obtain ⟨f0, f1, f2, f3, f4, f5⟩ := hf it (by simp)
    have W := Walks.longrange (prog := X.prog) (w := X.w) (I.ok.hd hc) it lo 1 n
    refine W.item i s _ _ hg st fun v h' tk hv st' kk => ?_
    obtain ⟨t, rfl⟩ := hv
    have I1 : Inv X pins σ H { s with heap := h', toks := tk } := I.turned (fun b o hb e => kk b o (by simpa using hb) e) f0 f1 f3 f4 f5
    refine ⟨_, rfl, go_of (s := { s with heap := h', toks := tk }) (n := "longrange_iterator") st' rfl rfl (by decide) ⟨.int (lo + i), H, I1, ⟨t, ?_⟩, ⟨rfl, rfl⟩, st', fun b hb => (hf b hb).1⟩⟩
    rw [Int.mul_one]
  done := by
    intro X hP hw hK hc i pins s σ H E I hf st hg
    subst hP hw hK
    obtain ⟨f0, f1, f2, f3, f4, f5⟩ := hf it (by simp)
    exact wpAny_pyNext_long_end (I.ok.hd hc) st (by have : n ≤ i := hg; omega) fun h' eb => ⟨rfl, I.turned (t' := s.toks) (fun b o hb e => eb b o hb e) f0 f1 f3 f4 f5⟩
  self := fun _ _ _ _ _ st h => wpAny_pyIter_longiter st h
section
variable {X : Cx} {tg : Expr}
theorem range_itW {pins : List (Addr × Obj)} {σ : L2.St} {H : Hp} {s : Shared} {R : It → Hp → Prop} {E : Value → Shared → Prop} {lo hi : Int} {t u v : Tok} {tk : Nat} (I : Inv X pins σ H s)
    (q : R (Itr lo (hi - lo).toNat) H) : wpAny (model X.prog X.w) X.A (pyIter (.ref s.heap.objs.size)) (PIE X pins σ tg R) E { s with heap := s.heap.push { cls := .type "range", data := .fields #[.int lo t, .int hi u, .int 1 v] }, toks := tk } := by
  have I1 : Inv X pins σ H { s with heap := s.heap.push { cls := .type "range", data := .fields #[.int lo t, .int hi u, .int 1 v] }, toks := tk } := I.kept fun b o e => Heap.get?_push_of_some _ e
  have e1 : lo + ((0 : Nat) : Int) * 1 = lo := by simp
  have e2 : (((hi - lo).toNat : Nat) : Int) - ((0 : Nat) : Int) = Builtin.Range.rangeSize lo hi 1 := by rw [rangeSize_one]; split <;> omega
  cases hs : Builtin.Range.small lo hi 1 with
  | true =>
    refine wpAny_pyIter_range (IsRange.new ..) hs ?_
    refine ⟨(s.heap.push { cls := .type "range", data := .fields #[.int lo t, .int hi u, .int 1 v] }).objs.size, [(s.heap.push { cls := .type "range", data := .fields #[.int lo t, .int hi u, .int 1 v] }).objs.size], _, _, H, rfl,
      I1.kept (t' := tk) fun b o e => Heap.get?_push_of_some _ e, turn_range _ lo (hi - lo).toNat, ?_, fun b hb => ?_, q⟩
    · show IsRangeIter _ _ (lo + ((0 : Nat) : Int) * 1) ((((hi - lo).toNat : Nat) : Int) - ((0 : Nat) : Int)) 1
      rw [e1, e2]
      exact Heap.get?_push_size _ rfl
    · have e : b = (s.heap.push { cls := .type "range", data := .fields #[.int lo t, .int hi u, .int 1 v] }).objs.size := by simpa using hb
      subst e
      exact I1.fpOk (Nat.le_refl _) (I1.hok.fresh (Nat.le_refl _))
  | false =>
    refine wpAny_pyIter_longrange (IsRange.new ..) hs ?_
    refine ⟨(s.heap.push { cls := .type "range", data := .fields #[.int lo t, .int hi u, .int 1 v] }).objs.size, [(s.heap.push { cls := .type "range", data := .fields #[.int lo t, .int hi u, .int 1 v] }).objs.size], _, _, H, rfl,
      I1.kept (t' := tk) fun b o e => Heap.get?_push_of_some _ e, turn_long _ lo (hi - lo).toNat, ?_, fun b hb => ?_, q⟩
    · show IsLongIter _ _ (lo + ((0 : Nat) : Int) * 1) ((((hi - lo).toNat : Nat) : Int) - ((0 : Nat) : Int)) 1
      rw [e1, e2]
      exact Heap.get?_push_size _ rfl
    · have e : b = (s.heap.push { cls := .type "range", data := .fields #[.int lo t, .int hi u, .int 1 v] }).objs.size := by simpa using hb
      subst e
      exact I1.fpOk (Nat.le_refl _) (I1.hok.fresh (Nat.le_refl _))
def iRngW1 (ta : TA) : TI := fun σ H R => ta σ H fun vs H1 => ∃ j : Int, vs = [.int j] ∧ R (Itr 0 j.toNat) H1
def iRngW2 (ta : TA) : TI := fun σ H R => ta σ H fun vs H1 => ∃ i j : Int, vs = [.int i, .int j] ∧ R (Itr i (j - i).toNat) H1
theorem pi_rangeW1 {a : Expr} {ta : TA} {p pos : Pos} (hg : Gl X "range") (hm : X.mg "range" = none) (ha : PA X [a] ta) (hs : starEach [a] X.env = [(false, eval a X.env)] := by rfl) : PI X tg (.Call (.Name "range" p) [a] [] pos) (iRngW1 ta) := by
  refine ⟨fun pins s σ H R I h => ?_⟩
  refine Call_ (ld_blt I hg hm boot_range (PyProof.Rows.callWith_type1 (thn (ha.run pos pins s σ H _ I h) fun us s1 ⟨vs, H1, I1, r1, q1⟩ => ?_) hs rfl))
  obtain ⟨j, e, q⟩ := q1
  subst e
  cases r1 with
  | cons r rr =>
    cases rr
    obtain ⟨t, rfl⟩ := r
    exact call_range_1 (range_itW I1 (by simpa using q))
theorem pi_rangeW2 {a b : Expr} {ta : TA} {p pos : Pos} (hg : Gl X "range") (hm : X.mg "range" = none) (ha : PA X [a, b] ta) (hs : starEach [a, b] X.env = [(false, eval a X.env), (false, eval b X.env)] := by rfl) (hs2 : starEach [b] X.env = [(false, eval b X.env)] := by rfl) :
    PI X tg (.Call (.Name "range" p) [a, b] [] pos) (iRngW2 ta) := by
  refine ⟨fun pins s σ H R I h => ?_⟩
  refine Call_ (ld_blt I hg hm boot_range (PyProof.Rows.callWith_type1 (thn (ha.run pos pins s σ H _ I h) fun us s1 ⟨vs, H1, I1, r1, q1⟩ => ?_) (by rw [hs, hs2]) (by rw [hs2]; rfl)))
  obtain ⟨i, j, e, q⟩ := q1
  subst e
  cases r1 with
  | cons r rr =>
    cases rr with
    | cons r' rr =>
      cases rr
      obtain ⟨t, rfl⟩ := r
      obtain ⟨t', rfl⟩ := r'
      exact call_range_2 (range_itW I1 q)
end
end Rx
namespace Rx
open PySem PySem.Spec PyProof.Rows L2
structure FnG (P : Program) (w : World) (K : PySem.W.Frag) (mg : Str → Option Value) (base : Heap) (k : Nat) (f : Addr) (fd : FuncData) (ps : List Str) (sp : Sp) : Prop where
  len : ∀ vs H Q E, sp vs H Q E → vs.length = ps.length
  run : ∀ (A : Around), A.guards = some [] → Room k A → ∀ (outer : List Env) (s : Shared) (H : Hp) (args : Args) (us : List Value) (vs : List V) (Q : VK) (E : XK), Env0 P w K mg base A outer s H → BindsTo s fd args (ps.zip us) → Vals vs us → sp vs H Q E →
    codeAny (model P w) A (.call (.ref f) args) (CR CX0 outer P w H s Q E) s
theorem FnG.of {P : Program} {w : World} {K : PySem.W.Frag} {mg : Str → Option Value} {base : Heap} {k : Nat} {f : Addr} {fd : FuncData} {ps : List Str} {sp : Sp} (F : FnOk P w K mg base CX0 k f fd ps sp) : FnG P w K mg base k f fd ps sp :=
  ⟨F.len, fun A _ hr outer s H args us vs Q E => F.run A outer s H args us vs Q E hr⟩
section
variable {X : Cx} {k : Nat} {f : Addr} {fd : FuncData} {ps : List Str} {sp : Sp} {x : Str} {e : Expr} {es : List Expr} {p pos : Pos} {t : TA}
theorem runG {pins : List (Addr × Obj)} {σ : L2.St} {H : Hp} {s : Shared} {Q : VK} {us : List Value} {vs : List V} (F : FnG X.prog X.w X.K X.mg X.base k f fd ps sp) (hg : X.A.guards = some []) (hr : Room k X.A) (hb : Binds X.K fd ps [])
    (I : Inv X pins σ H s) (r : Vals vs us) (h : sp vs H Q E0) : wpAny (model X.prog X.w) X.A (call (.ref f) us) (EP X pins σ Q) X.xe s := by
  have hl : us.length = ps.length := r.length.symm.trans (F.len _ _ _ _ h)
  have bt := hb s us I.kIn (by rw [List.append_nil]; exact hl)
  rw [List.append_nil] at bt
  refine wpAny_call (codeAny_mono (F.run X.A hg hr X.stack s H ⟨us, []⟩ us vs Q E0 I.env0 bt r h) fun out s' hq => ?_)
  rcases out with err | fl
  · exact pass0 pins σ H s err s' I hq
  · rcases fl with _ | _ | _ | u
    all_goals first | exact I.after hq | exact hq.elim
theorem pe_callG (F : FnG X.prog X.w X.K X.mg X.base k f fd ps sp) (gu : X.A.guards = some []) (hr : Room k X.A) (hg : Gl X x) (hm : X.mg x = some (.ref f)) (hk : PySem.W.keepIn X.K (.ref f) = true) (hb : Binds X.K fd ps []) (ha : PA X (e :: es) t)
    (hdb : (x == ("__debug__" : Str)) = false := by decide) (he : starEach (e :: es) X.env = (false, eval e X.env) :: starEach es X.env := by rfl) (hpl : (backTo pos (starEach es X.env)).any (·.1) = false := by rfl) :
    PE X (.Call (.Name x p) (e :: es) [] pos) (tCall sp [] E0 t) :=
  ⟨fun pins s σ H Q I h => wpAny_Call_Name_kw (ld_glob I hg hm (PySem.W.callWith_K (h₀ := X.base) I.ok.mod.kin hk (thn (ha.run pos pins s σ H _ I h) fun us s1 ⟨vs, H1, I1, r, q⟩ => ⟨I1.kIn, runG F gu hr hb I1 r (by have q' : sp (vs ++ []) H1 Q E0 := q; rwa [List.append_nil] at q')⟩) he hpl) hdb)⟩
end
section
variable {P : Program} {w : World} {K : PySem.W.Frag} {mg : Str → Option Value} {base : Heap}
theorem okG {x qual : Str} {st : Stmt} {f : Addr} {fd : FuncData} {N ps : List Str} {k : Nat} {sp : Sp} (F : Fun K x qual st f fd) (S : FnScope N ps (defScope st)) (len : ∀ vs H Q E, sp vs H Q E → vs.length = ps.length)
    (hbody : ∀ (cdv : Value) (A : Around) (outer : List Env) (s : Shared) (H : Hp) (vs : List V) (Q : VK) (E : XK), A.guards = some [] → Room k (A.deeper (envOfC qual (defScope st) s.heap.objs.size f cdv)) → sp vs H Q E →
      ∃ t, PSs (cxOf CX0 P w K mg base N qual (defScope st) f cdv A outer s H E).nox (defBody st) t ∧ t { nx := fun _ H' => Q .non H', rt := Q } (start N vs) H) : FnG P w K mg base (k + 1) f fd ps sp := by
  obtain ⟨oc, od, kV, doc, pm, an, cdv, ct, osl, rfl, lk, hcd⟩ := F.ex
  refine ⟨len, fun A gu hr outer s H args us vs Q E en bt rv hs => ?_⟩
  have inK : K.In s.heap := en.mod.kin.keeps fun b o h => (en.bs b o h).1
  have names : ∀ y ∈ ps.zip us, (defScope st).names.lookup y.1 = some .local ∨ ((defScope st).names.lookup y.1 = some .cell ∧ ((cellsFrom (s.heap.objs.size + 1) (defScope st).names []).lookup y.1).isSome = true) := by
    rintro ⟨n, v⟩ hy
    exact (S.par n (List.of_mem_zip hy).1).imp id fun q => ⟨q, PySem.W.cellsFrom_some _ _ _ (.inl q)⟩
  refine codeAny_call_function hr.depth (inK _ _ lk) rfl S.co S.gen rfl (PySem.W.codeRec_of inK hcd) (bt _ _ _ _ (wpAny_newFunctionEnv_cells S.kind names fun env he s1 inner => ?_))
  subst he
  refine ⟨(en.mod.nolimit.keeps fun b o h => (en.bs b o h).1).keeps inner.toInCall.keep, codeAny_func ?_⟩
  obtain ⟨t, ht, hq⟩ := hbody cdv A outer s H vs Q E gu (hr.deeper _) hs
  have start0 : Inv (cxOf CX0 P w K mg base N qual (defScope st) f cdv A outer s H E) [] (start N vs) H s1 := inv_start S hr.hd en (len _ _ _ _ hs) rv inner
  have leave : ∀ {σ' : L2.St} {H' : Hp} {v : V} {u : Value} {s' : Shared}, Inv (cxOf CX0 P w K mg base N qual (defScope st) f cdv A outer s H E) [] σ' H' s' → RelV v u → Q v H' → CE outer P w H s Q u s' :=
    fun {σ' H' v u s'} J r q => ⟨v, H', J.os, J.bare, J.base, J.hok, r, q⟩
  refine wpAny_mono (ht.nox.run [] s1 (start N vs) H _ start0 hq) (fun fl s' hs' => ?_) fun _ _ h => h
  rcases fl with _ | _ | _ | u
  · obtain ⟨σ', H', J, q⟩ := hs'
    exact leave (v := V.non) (u := Value.none) J rfl q
  · obtain ⟨_, _, _, q⟩ := hs'
    exact q.elim
  · obtain ⟨_, _, _, q⟩ := hs'
    exact q.elim
  · obtain ⟨v, σ', H', J, r, q⟩ := hs'
    exact leave J r q
end
section
variable {P : Program} {w : World} {K : PySem.W.Frag} {mg mb : Str → Option Value} {k : Nat} {fa a : Addr} {fd : FuncData} {x : Str} {sp : Sp} {s1 : Shared} {vs : List Value} {ns : List Int}
abbrev EndG (h : Heap) (os : OsState) (r : Result) (s' : Shared) : Prop := r = .ok (.ret (.bool true)) ∧ OldK h s'.heap ∧ s'.os = os ∧ AllBare s'.gens
theorem callG_at (inK : K.In s1.heap) (top : s1.heap.Ns mainGlobals mg) (bl : s1.heap.Ns builtinsNs mb) (blb : ∀ x : Str, x ≠ "__name__" → mb x = bootBuiltins x) (nl : s1.heap.NoLimit) (ng : s1.gens = #[])
    (obj : s1.heap.get? a = some { cls := .type "list", data := .seq vs.toArray }) (hr : Room k callerA) (F : ∀ base : Heap, K.In base → base.Ns mainGlobals mg → FnG P w K mg base k fa fd [x] sp) (bind : ∀ (s : Shared) (u : Value), BindsTo s fd ⟨[u], []⟩ [(x, u)])
    {H : Hp} (only : Only H) (ok : HOk P w H s1.heap) (at_a : ∀ b, H b ≠ none → b = a) (own : H a ≠ none → K.lookup a = none) (q : sp [.ref a] H (fun v _ => v = .bl true) E0) :
    codeAny (model P w) callerA (.call (.ref fa) ⟨[.ref a], []⟩) (EndG s1.heap s1.os) s1 := by
  have told : ∀ b, H b = none ∨ b = a := fun b => (Classical.em (H b = none)).imp id (at_a b)
  have keepN : ∀ {b : Addr} {m : Str → Option Value}, s1.heap.Ns b m → (hidT s1.heap H).Ns b m := fun {b m} ⟨o, es, ep, e, d, r⟩ => ⟨o, es, ep, hidT_get e ((told b).elim id fun z => by
    subst z
    rw [obj] at e
    cases e
    cases (show Data.seq vs.toArray _ = Data.dict es ep from d)), d, r⟩
  have keepK : K.In (hidT s1.heap H) := fun b o e => hidT_get (inK b o e) ((told b).elim id fun z => by
    subst z
    exact Classical.byContradiction fun n => by
      rw [own n] at e
      cases e)
  have md : Mod K mg (hidT s1.heap H) := ⟨keepK, keepN top, ⟨mb, keepN bl, blb⟩, nl.imp fun _ h => ⟨keepN h.1, h.2⟩⟩
  have en : Env0 P w K mg (hidT s1.heap H) callerA [] s1 H := ⟨rfl, md, fun b o e => of_hidT e, Nat.le_of_eq (hidT_size _ _), trivial, fun b hb => (List.not_mem_nil hb).elim, ok, .of_eq ng⟩
  refine codeAny_mono ((F _ keepK (keepN top)).run callerA rfl hr [] s1 H ⟨[.ref a], []⟩ [.ref a] [.ref a] _ _ en (bind s1 (.ref a)) (.cons rfl .nil) q) fun r s' h => ?_
  rcases r with e | fl
  · exact (show False from h).elim
  · rcases fl with _ | _ | _ | u
    · exact (show False from h).elim
    · exact (show False from h).elim
    · exact (show False from h).elim
    · obtain ⟨v, H', os, bare, un, ok', rv, qv⟩ := h
      cases (show v = .bl true from qv)
      cases (show u = Value.bool true from rv)
      refine ⟨rfl, OldK.of_keep fun b o e => ?_, os, bare⟩
      rcases only b with z | ⟨ob, xs, z⟩
      · exact un.keep b o e z (List.not_mem_nil) (List.not_mem_nil)
      · have e1 := (ok b _ z).1
        have e2 := (ok' b _ (un.frzs b ob _ z)).1
        exact (Option.some.inj (e.symm.trans e1)) ▸ e2
theorem callG (inK : K.In s1.heap) (top : s1.heap.Ns mainGlobals mg) (bl : s1.heap.Ns builtinsNs mb) (blb : ∀ x : Str, x ≠ "__name__" → mb x = bootBuiltins x) (nl : s1.heap.NoLimit) (ng : s1.gens = #[])
    (obj : s1.heap.get? a = some { cls := .type "list", data := .seq vs.toArray }) (its0 : IntsAre vs ns) (small : ns.length ≤ sizeLine) (hr : Room k callerA) (F : ∀ base : Heap, K.In base → base.Ns mainGlobals mg → FnG P w K mg base k fa fd [x] sp)
    (bind : ∀ (s : Shared) (u : Value), BindsTo s fd ⟨[u], []⟩ [(x, u)]) (q : ∀ H : Hp, Only H → SqL K H a (ns.map V.int) → sp [.ref a] H (fun v _ => v = .bl true) E0) :
    codeAny (model P w) callerA (.call (.ref fa) ⟨[.ref a], []⟩) (EndG s1.heap s1.os) s1 := by
  have rv := vals_ints its0
  have lv := its0.length
  cases hk : K.lookup a with
  | some o =>
    have e := inK a o hk
    rw [obj] at e
    cases e
    have sq : SqL K (fun _ => none) a (ns.map V.int) := .inr ⟨_, vs.toArray, _, hk, rfl, rfl, rfl, by rw [List.size_toArray, lv]; exact small, by simpa using rv⟩
    exact callG_at inK top bl blb nl ng obj hr F bind (H := fun _ => none) (fun _ => .inl rfl) (fun b u z => nomatch (show (none : Option HO) = some u from z)) (fun b z => absurd rfl z) (fun z => absurd rfl z) (q _ (fun _ => .inl rfl) sq)
  | none =>
    generalize hH : (fun b => if b = a then some (HO.frz { cls := .type "list", data := .seq vs.toArray } (.lst (ns.map V.int))) else none : Hp) = H
    have here : H a = some (.frz { cls := .type "list", data := .seq vs.toArray } (.lst (ns.map V.int))) := by rw [← hH]; exact if_pos rfl
    have else_ : ∀ b, b ≠ a → H b = none := fun b n => by rw [← hH]; exact if_neg n
    have only : Only H := fun b => (Classical.em (b = a)).elim (fun e => .inr ⟨{ cls := .type "list", data := .seq vs.toArray }, ns.map V.int, by rw [e]; exact here⟩) fun n => .inl (else_ b n)
    refine callG_at inK top bl blb nl ng obj hr F bind only (fun b u z => ?_) (fun b z => Classical.byContradiction fun n => z (else_ b n)) (fun _ => hk) (q _ only (.inl (.inr ⟨_, here⟩)))
    by_cases e : b = a
    · subst e
      rw [here] at z
      cases z
      exact ⟨obj, by rw [List.length_map]; exact small, vs, _, rv, obj⟩
    · rw [else_ b e] at z
      cases z
end
def rReprD (K : PySem.W.Frag) : List V → Hp → VK → Prop := fun xs H Q => ∃ (a : Addr) (d : PyData), xs = [.ref a] ∧ Dp K H (.ref a) d ∧ d.showable = true ∧ d.hasDict = false ∧ d.depth ≤ 60 ∧ d.shown.length ≤ sizeLine ∧ Q (.str d.shown) H
theorem call_reprD {X : Cx} {k : Nat} (gu : X.A.guards = some []) (hr : Room k X.A) : CallR X (.builtin "repr") (rReprD X.K) := by
  intro pins s σ H xs us Q I r h
  obtain ⟨a, d, rfl, dp, sh, nd, dep, len, q⟩ := h
  obtain ⟨u, rfl, ru⟩ := r.one
  cases ru
  obtain ⟨as, rd⟩ := Dp.reads I d _ _ dp rfl
  have un := hr.un
  refine repr_of_reads' (h₀ := s.heap) rd sh (fun z => by rw [nd] at z; cases z) gu (by omega) (fun _ _ h => h) (fun h' u tk keep => ?_) len
  exact ⟨.str d.shown, H, I.kept keep, ⟨u, rfl⟩, q⟩
def rReprA (K : PySem.W.Frag) : List V → Hp → VK → Prop := fun xs H Q => ∃ (x : V) (d : PyData), xs = [x] ∧ Dp K H x d ∧ d.showable = true ∧ d.hasDict = false ∧ d.depth ≤ 60 ∧ d.shown.length ≤ sizeLine ∧ Q (.str d.shown) H
theorem call_reprA {X : Cx} {k : Nat} (gu : X.A.guards = some []) (hr : Room k X.A) : CallR X (.builtin "repr") (rReprA X.K) := by
  intro pins s σ H xs us Q I r h
  obtain ⟨x, d, rfl, dp, sh, nd, dep, len, q⟩ := h
  have big : ∀ a, x = .ref a → wpAny (model X.prog X.w) X.A (call (.builtin "repr") us) (EP X pins σ Q) X.xe s := fun a e => by
    subst e
    exact call_reprD gu hr pins s σ H _ us Q I r ⟨a, d, rfl, dp, sh, nd, dep, len, q⟩
  cases dp with
  | non =>
    obtain ⟨u, rfl, ru⟩ := r.one
    cases (show u = Value.none from ru)
    exact P.repr_of_none ⟨.str PyData.none.shown, H, I.tok _, ⟨_, rfl⟩, q⟩
  | bl b =>
    obtain ⟨u, rfl, ru⟩ := r.one
    cases (show u = Value.bool b from ru)
    exact P.repr_of_bool ⟨.str (PyData.bool b).shown, H, I.tok _, ⟨_, rfl⟩, q⟩
  | int i =>
    obtain ⟨u, rfl, t, rfl⟩ := r.one
    exact P.repr_of_int (of_decide_eq_true sh) ⟨.str (PyData.int i).shown, H, I.tok _, ⟨_, rfl⟩, q⟩
  | str z =>
    obtain ⟨u, rfl, t, rfl⟩ := r.one
    exact P.repr_of_str ⟨.str (PyData.str z).shown, H, I.tok _, ⟨_, rfl⟩, q⟩ len
  | lst _ _ => exact big _ rfl
  | tup _ _ => exact big _ rfl
section
variable {K : PySem.W.Frag} {ms : List Addr} {H : Hp} {d : D} {x : V}
theorem rep_repr {P : PyData → Prop} (h : rep ms H d x) (p : plainD d = true) (sh : (pyOf d).showable = true) (nd : (pyOf d).hasDict = false) (dep : (pyOf d).depth ≤ 60) (len : (pyOf d).shown.length ≤ sizeLine) (q : P (pyOf d)) :
    ∃ (x' : V) (d : PyData), [x] = [x'] ∧ Dp K H x' d ∧ d.showable = true ∧ d.hasDict = false ∧ d.depth ≤ 60 ∧ d.shown.length ≤ sizeLine ∧ P d :=
  ⟨x, _, rfl, dp_of (K := K) d x p h, sh, nd, dep, len, q⟩
end
section
variable {β : Type} {K : PySem.W.Frag} {ms : List Addr} {ps : List PEn} {cs : List (Addr × List V)} {H0 H1 : Hp} {g : TG} {tt : TT} {te : TE} {vl : List Nat} {σ : L2.St} {Qd : Hp → Prop}
variable {x : V} {H : Hp}
end
def rOwnText (C : Addr) (sp : Sp) (E : XK) : List V → Hp → VK → Prop := fun xs H Q => ∃ (x : V) (a dx : Addr) (fs : List (Str × V)), xs = [x] ∧ x = .ref a ∧ H a = some (.ins C dx fs) ∧ sp [x] H (fun v H' => ∃ z : Str, v = .str z ∧ Q v H') E
structure OwnText (K : PySem.W.Frag) (C : Addr) (name : Str) (f : Addr) : Prop where
  hs : PySem.W.findIn K (.ref C) name = some (some (.ref f))
  hf : PySem.W.isFn K (.ref f) = true
section
variable {X : Cx} {n : Nat} {CX : CXT} {C f : Addr} {fd : FuncData} {ps : List Str} {sp : Sp} {E : XK}
end
theorem rep_ownText {ms : List Addr} {H : Hp} {C : Addr} {ns : List Str} {ds : List D} {u : V} {P : V → Prop} (h : rep ms H (.ins C ns ds) u) (k : P u) :
    ∃ (x : V) (a dx : Addr) (fs : List (Str × V)), [u] = [x] ∧ x = .ref a ∧ H a = some (.ins C dx fs) ∧ P x := by
  obtain ⟨p, dx, fs, e, hp⟩ := rep_ins h
  exact ⟨u, p, dx, fs, rfl, e, hp, k⟩
def encO {α : Type} (e : α → D) : Option α → D
  | none => .v .non
  | some y => e y
theorem rep_isN {α : Type} {e : α → D} {ms : List Addr} {H : Hp} {m : Option α} {u : V} (he : ∀ y, ∃ ds, e y = .tup ds) (h : rep ms H (encO e m) u) : decide (u = .non) = m.isNone := by
  cases m with
  | none =>
    rw [of_v h]
    rfl
  | some y =>
    obtain ⟨ds, ed⟩ := he y
    have h' : rep ms H (e y) u := h
    rw [ed] at h'
    simp only [rep] at h'
    obtain ⟨p, _, e1, _⟩ := h'
    rw [e1]
    rfl
def tCallKw (n : Nat) (gV : List V → List V → List V) (sp : Sp) (E : XK) (tk : TA) : TE := fun σ H Q => tk σ H fun zs H1 => zs.length = n ∧ sp (gV [] zs) H1 Q E
theorem pe_callKw {X : Cx} {CX : CXT} {k : Nat} {f : Addr} {fd : FuncData} {ps ks : List Str} {sp : Sp} {E : XK} {x : Str} {p pos : Pos} {kws : List Keyword} {tk : TA} {g : List Value → List Value → List Value} {gV : List V → List V → List V}
    (F : FnOk X.prog X.w X.K X.mg X.base CX k f fd ps sp) (hr : Room k X.A) (hg : Gl X x) (hm : X.mg x = some (.ref f)) (hk : PySem.W.keepIn X.K (.ref f) = true) (hb : KBn X.K fd ps 0 ks g gV) (hx : Passes CX X E) (hkw : PK X kws tk)
    (hall : (backToKw pos (keywordEach kws X.env)).all (·.1.isSome) = true := by rfl) (hks : (backToKw pos (keywordEach kws X.env)).filterMap (·.1) = ks := by rfl) (hdb : (x == ("__debug__" : Str)) = false := by decide)
    (hpl : ((backTo pos (starEach [] X.env)).any (·.1) || (backToKw pos (keywordEach kws X.env)).any (·.1.isNone)) = false := by rfl) : PE X (.Call (.Name x p) [] kws pos) (tCallKw ks.length gV sp E tk) :=
  ⟨fun pins s σ H Q I h => wpAny_Call_Name_kw (ld_glob I hg hm (PySem.W.callWith_KW0 (first := []) (h₀ := X.base) I.ok.mod.kin hk hall (thn (hkw.run pos pins s σ H _ I h) fun ws s2 ⟨zs, H2, I2, rz, l2, q2⟩ => ⟨I2.kIn, by
    rw [hks]
    exact run_fnN (us := []) (vs := []) F hr hb hx I2 .nil rz rfl l2 q2⟩) hpl) hdb)⟩
end Rx
namespace Rx
open PySem PySem.Spec PyProof.Rows L2
section
variable {K : PySem.W.Frag} {ms : List Addr} {ps : List PEn} {cs : List (Addr × List V)} {H0 H H1 H' : Hp} {x : V} {ds : List D}
theorem wd_none {p : Addr} (w : Wd ms ps cs H0 H) (np : H p = none) : H0 p = none := by
  cases q : H0 p with
  | none => rfl
  | some o => exact absurd np (w.grow p (by rw [q]; exact fun z => nomatch z))
theorem rep_listL {P : List V → Prop} (h : rep ms H (.lst ds) x) (k : ∀ ys, repL ms H ds ys → P ys) :
    ∃ p ys, [x] = [.ref p] ∧ (SqL K H p ys ∨ SqT K H p ys) ∧ P ys := by
  simp only [rep] at h
  obtain ⟨p, vs, rfl, _, hp, hr⟩ := h
  exact ⟨p, vs, rfl, .inl (.inl (.inl hp)), k vs hr⟩
mutual
theorem rep_noL {L : Addr} {vs vs' : List V} (hL : H L = some (.lst vs)) : ∀ (d : D) (u : V), noL d = true → rep ms H d u → rep ms (upd H L (.lst vs')) d u
  | .v x, u, _, h => by
    simp only [rep] at h ⊢
    exact h
  | .lst ds, u, n, h => by
    simp only [noL] at n
    cases n
  | .tup ds, u, n, h => by
    simp only [noL] at n
    simp only [rep] at h ⊢
    obtain ⟨p, us, e, np, hp, hl⟩ := h
    refine ⟨p, us, e, np, ?_, repL_noL hL ds us n hl⟩
    rw [upd_ne (fun z => by rw [z, hL] at hp; cases hp)]
    exact hp
  | .ins C ns ds, u, n, h => by
    simp only [noL] at n
    simp only [rep] at h ⊢
    obtain ⟨p, dx, us, e, np, hp, hn, hl⟩ := h
    refine ⟨p, dx, us, e, np, ?_, hn, repL_noL hL ds us n hl⟩
    rw [upd_ne (fun z => by rw [z, hL] at hp; cases hp)]
    exact hp
  | .dct ks ds, u, n, h => by
    simp only [noL] at n
    simp only [rep] at h ⊢
    obtain ⟨p, us, e, np, hp, hn, hl⟩ := h
    refine ⟨p, us, e, np, ?_, hn, repL_noL hL ds us n hl⟩
    rw [upd_ne (fun z => by rw [z, hL] at hp; cases hp)]
    exact hp
  | .dcT ks ds, u, n, h => by
    simp only [noL] at n
    simp only [rep] at h ⊢
    obtain ⟨p, us, e, np, hp, hn, hl⟩ := h
    refine ⟨p, us, e, np, ?_, hn, repL_noL hL ds us n hl⟩
    rw [upd_ne (fun z => by rw [z, hL] at hp; cases hp)]
    exact hp
theorem repL_noL {L : Addr} {vs vs' : List V} (hL : H L = some (.lst vs)) : ∀ (ds : List D) (us : List V), noLs ds = true → repL ms H ds us → repL ms (upd H L (.lst vs')) ds us
  | [], us, _, h => by
    simp only [repL] at h ⊢
    exact h
  | d :: ds, us, n, h => by
    simp only [noLs, Bool.and_eq_true] at n
    simp only [repL] at h ⊢
    obtain ⟨u, ws, e, h1, h2⟩ := h
    exact ⟨u, ws, e, rep_noL hL d u n.1 h1, repL_noL hL ds ws n.2 h2⟩
end
theorem repL_set {α : Type} {e : α → D} {y : α} {v : V} : ∀ {xs : List α} {vs : List V} (j : Nat), repL ms H (xs.map e) vs → rep ms H (e y) v → repL ms H ((xs.set j y).map e) (vs.set j v)
  | [], vs, j, h, r => by
    have ev : vs = [] := by
      simp only [List.map_nil, repL] at h
      exact h
    subst ev
    simpa using h
  | x :: xs, vs, 0, h, r => by
    simp only [List.map_cons, repL] at h
    obtain ⟨u, us, rfl, h1, h2⟩ := h
    exact repL_cons r h2
  | x :: xs, vs, j + 1, h, r => by
    simp only [List.map_cons, repL] at h
    obtain ⟨u, us, rfl, h1, h2⟩ := h
    exact repL_cons h1 (repL_set j h2 r)
end

section
variable {X : Cx} {K : PySem.W.Frag}
theorem ix_listK (hK : X.K = K) : IxR X (rIxL K) := by
  subst hK
  exact ix_list
theorem ix_tupK (hK : X.K = K) : IxR X (rIxT K) := by
  subst hK
  exact ix_tup
end
end Rx
namespace Rx
open PySem PySem.Spec PyProof.Rows L2
section
variable {K : PySem.W.Frag} {ms ms' : List Addr} {ps : List PEn} {H0 H H' H1 : Hp} {L L' : Addr} {d d' : D} {ds : List D} {u x : V} {vs : List V}
def valO (ms : List Addr) (H : Hp) (L : Addr) : D → Prop
  | .lst ds => ∃ vs, H L = some (.lst vs) ∧ repL ms H ds vs
  | .dct ks ds => ∃ vs, H L = some (.dK (ks.zip vs)) ∧ ks.length = vs.length ∧ repL ms H ds vs
  | .dcT ks ds => ∃ vs, H L = some (.dT (ks.zip vs)) ∧ ks.length = vs.length ∧ repL ms H ds vs
  | _ => False
theorem valO_map (f : ∀ p o, p ∉ ms → H p = some o → p ∉ ms' ∧ H' p = some o) (g : ∀ o, H L = some o → H' L = some o) : ∀ d : D, valO ms H L d → valO ms' H' L d
  | .lst ds, ⟨vs, h1, h2⟩ => ⟨vs, g _ h1, repL_map f ds vs h2⟩
  | .dct ks ds, ⟨vs, h1, h2, h3⟩ => ⟨vs, g _ h1, h2, repL_map f ds vs h3⟩
  | .dcT ks ds, ⟨vs, h1, h2, h3⟩ => ⟨vs, g _ h1, h2, repL_map f ds vs h3⟩
  | .v _, h => h
  | .tup _, h => h
  | .ins _ _ _, h => h
structure MutO (ms : List Addr) (ps : List PEn) (H0 H : Hp) (L : Addr) (d : D) : Prop where
  im : L ∈ ms
  hp : L ∉ ad ps
  h0 : H0 L = none
  val : valO ms H L d
theorem MutO.some (m : MutO ms ps H0 H L d) : ∃ o, H L = some o := by
  have h := m.val
  cases d with
  | lst ds => exact ⟨_, h.choose_spec.1⟩
  | dct ks ds => exact ⟨_, h.choose_spec.1⟩
  | dcT ks ds => exact ⟨_, h.choose_spec.1⟩
  | v _ => exact h.elim
  | tup _ => exact h.elim
  | ins _ _ _ => exact h.elim
theorem mo_ret (w : Wd ms ps [] H0 H) (e : Ret ps H H') (m : MutO ms ps H0 H L d) : MutO ms ps H0 H' L d :=
  ⟨m.im, m.hp, m.h0, valO_map (fun p o n hp => ⟨n, e.kp p o (fun z => n (w.pm p z)) hp⟩) (fun o h => e.kp L o m.hp h) d m.val⟩
theorem mo_ext (e : Ret [] H H') (m : MutO ms ps H0 H L d) : MutO ms ps H0 H' L d :=
  ⟨m.im, m.hp, m.h0, valO_map (fun p o n hp => ⟨n, e.kp p o (by simp) hp⟩) (fun o h => e.kp L o (by simp) h) d m.val⟩
theorem mo_ne (nl : H L = none) (m : MutO ms ps H0 H L' d) : L' ≠ L := fun z => by
  obtain ⟨o, h⟩ := m.some
  rw [z, nl] at h
  cases h
theorem mo_cell {o : HO} (nl : H L = none) (m : MutO ms ps H0 H L' d) : MutO (L :: ms) ps H0 (upd H L o) L' d :=
  ⟨List.mem_cons_of_mem _ m.im, m.hp, m.h0, valO_map (fun p o n hp => ⟨fun z => by
    rcases List.mem_cons.mp z with z | z
    · exact ne_of_none hp nl z
    · exact n z, by rw [upd_ne (ne_of_none hp nl)]; exact hp⟩) (fun o h => by rw [upd_ne (mo_ne nl m)]; exact h) d m.val⟩
theorem mo_put {o : HO} (lm : L ∈ ms) (ne : L' ≠ L) (m : MutO ms ps H0 H L' d) : MutO ms ps H0 (upd H L o) L' d :=
  ⟨m.im, m.hp, m.h0, valO_map (fun p o n hp => ⟨n, by rw [upd_ne (fun z => n (by rw [z]; exact lm))]; exact hp⟩) (fun o h => by rw [upd_ne ne]; exact h) d m.val⟩
theorem mo_sub (s : ∀ a ∈ ms', a ∈ ms) (i : L ∈ ms') (m : MutO ms ps H0 H L d) : MutO ms' ps H0 H L d :=
  ⟨i, m.hp, m.h0, valO_map (fun p o n hp => ⟨fun z => n (s p z), hp⟩) (fun o h => h) d m.val⟩
theorem rep_sub (s : ∀ a ∈ ms', a ∈ ms) (h : rep ms H d u) : rep ms' H d u := rep_map (fun p o n hp => ⟨fun z => n (s p z), hp⟩) d u h
theorem wd_sub (s : ∀ a ∈ ms', a ∈ ms) (hp : ∀ a ∈ ad ps, a ∈ ms') (w : Wd ms ps [] H0 H) : Wd ms' ps [] H0 H :=
  ⟨w.kp, w.grow, fun m h => w.tr m (s m h), w.pot, hp, fun _ h => absurd h List.not_mem_nil⟩
theorem mo_rep (n : L ∉ ms') (s : ∀ a ∈ ms', a ∈ ms) (m : MutO ms ps H0 H L d) : rep ms' H d (.ref L) := by
  have h := m.val
  cases d with
  | lst ds =>
    obtain ⟨vs, h1, h2⟩ := h
    simp only [rep]
    exact ⟨L, vs, rfl, n, h1, repL_map (fun p o n hp => ⟨fun z => n (s p z), hp⟩) ds vs h2⟩
  | dct ks ds =>
    obtain ⟨vs, h1, h2, h3⟩ := h
    simp only [rep]
    exact ⟨L, vs, rfl, n, h1, h2, repL_map (fun p o n hp => ⟨fun z => n (s p z), hp⟩) ds vs h3⟩
  | dcT ks ds =>
    obtain ⟨vs, h1, h2, h3⟩ := h
    simp only [rep]
    exact ⟨L, vs, rfl, n, h1, h2, repL_map (fun p o n hp => ⟨fun z => n (s p z), hp⟩) ds vs h3⟩
  | v _ => exact h.elim
  | tup _ => exact h.elim
  | ins _ _ _ => exact h.elim
theorem wd_cell {o : HO} (w : Wd ms ps [] H0 H) (nl : H L = none) : Wd (L :: ms) ps [] H0 (upd H L o) := by
  have w1 := w.ret0 (Ext.new (o := o) nl)
  refine ⟨w1.kp, w1.grow, fun m h => ?_, w1.pot, fun a h => List.mem_cons_of_mem _ (w.pm a h), fun _ h => absurd h List.not_mem_nil⟩
  rcases List.mem_cons.mp h with rfl | h
  · rw [upd_same]
    exact fun z => nomatch z
  · exact w1.tr m h
theorem pot_new (w : Wd ms ps [] H0 H) (nl : H L = none) : L ∉ ad ps := fun z => by
  obtain ⟨p, hp, e2⟩ := List.mem_map.mp z
  exact ent_some (w.pot p hp) (by rw [e2]; exact nl)
theorem nm_new (w : Wd ms ps [] H0 H) (nl : H L = none) : L ∉ ms := fun z => w.tr L z nl
theorem mo_newL (w : Wd ms ps [] H0 H) (nl : H L = none) (r : repL ms H ds vs) : MutO (L :: ms) ps H0 (upd H L (.lst vs)) L (.lst ds) :=
  ⟨List.mem_cons_self, pot_new w nl, wd_none w nl, vs, upd_same, repL_map (fun p o n hp => ⟨fun z => by
    rcases List.mem_cons.mp z with z | z
    · exact ne_of_none hp nl z
    · exact n z, by rw [upd_ne (ne_of_none hp nl)]; exact hp⟩) _ _ r⟩
theorem mo_nc {c : Addr} {q : Str} (m : MutO ms ps H0 H L d) (h : H L = some (LamX.CodeO c q)) : False := by
  have v := m.val
  cases d with
  | lst ds =>
    obtain ⟨vs, e, _⟩ := v
    rw [h] at e
    cases e
  | dct ks ds =>
    obtain ⟨vs, e, _⟩ := v
    rw [h] at e
    cases e
  | dcT ks ds =>
    obtain ⟨vs, e, _⟩ := v
    rw [h] at e
    cases e
  | v _ => exact v
  | tup _ => exact v
  | ins _ _ _ => exact v
theorem wd_put {o : HO} (w : Wd ms ps [] H0 H) (m : MutO ms ps H0 H L d) : Wd ms ps [] H0 (upd H L o) := by
  refine ⟨fun a o' n h => ?_, fun a h => ?_, fun a h => ?_, fun a h => ?_, w.pm, fun _ h => absurd h List.not_mem_nil⟩
  · rw [upd_ne (ne_of_none h m.h0)]
    exact w.kp a o' n h
  · by_cases e : a = L
    · rw [e, upd_same]
      exact fun z => nomatch z
    · rw [upd_ne e]
      exact w.grow a h
  · by_cases e : a = L
    · rw [e, upd_same]
      exact fun z => nomatch z
    · rw [upd_ne e]
      exact w.tr a h
  · refine ent_stay (w.pot a h) (fun o ho => by rw [upd_ne (fun z => m.hp (by rw [← z]; exact mem_ad h))]; exact ho) fun c q hc => ?_
    rw [upd_ne (fun z => mo_nc m (by rw [← z]; exact hc))]
    exact hc
theorem mo_setL (m : MutO ms ps H0 H L d) (r : repL ms H ds vs) : MutO ms ps H0 (upd H L (.lst vs)) L (.lst ds) :=
  ⟨m.im, m.hp, m.h0, vs, upd_same, repL_put m.im r⟩
theorem mo_appU {P : Addr → List V → V → Prop} (m : MutO ms ps H0 H L (.lst ds)) (hl : ds.length < 16777216) (k : ∀ vs, repL ms H ds vs → P L vs u) :
    ∃ (l : Addr) (xs : List V) (y : V), V.ref L = .ref l ∧ [u] = [y] ∧ H l = some (.lst xs) ∧ xs.length < sizeLine ∧ P l xs y := by
  obtain ⟨vs, h1, h2⟩ := m.val
  refine ⟨L, vs, u, rfl, rfl, h1, ?_, k vs h2⟩
  rw [← repL_len h2, sizeLine_eq]
  exact hl
theorem mo_tyL (m : MutO ms ps H0 H L (.lst ds)) : tyV K "list" (.ref L) H := by
  obtain ⟨vs, h1, h2⟩ := m.val
  exact .inl ⟨rfl, vs, .inl (.inl h1)⟩
theorem mo_setU {α : Type} {e : α → D} {xs : List α} {k : Int} {v : V} {Q : Hp → Prop} (m : MutO ms ps H0 H L (.lst (xs.map e))) (h0 : 0 ≤ k) (hj : k.toNat < xs.length)
    (kk : ∀ vs, repL ms H (xs.map e) vs → Q (upd H L (.lst (vs.set k.toNat v)))) : rSetL (.ref L) (.int k) v H Q := by
  obtain ⟨vs, h1, h2⟩ := m.val
  have hl := repL_len h2
  rw [List.length_map] at hl
  refine ⟨L, vs, k, k.toNat, rfl, rfl, h1, ?_, kk vs h2⟩
  unfold ixN
  rw [if_pos h0, if_pos (by omega)]
theorem mo_end {n : Nat} {Nx : Hp → Prop} (m : MutO ms ps H0 H L (.lst ds)) (hn : n < 100000) (hy : ds.length ≤ n) (h : ∀ vs, repL ms H ds vs → Nx (upd H L (.lst (vs ++ [u])))) :
    ∃ acc, H L = some (.lst acc) ∧ acc.length < sizeLine ∧ Nx (upd H L (.lst (acc ++ [u]))) := by
  obtain ⟨vs, h1, h2⟩ := m.val
  refine ⟨vs, h1, ?_, h vs h2⟩
  have q := repL_len h2
  have e : sizeLine = 16777216 := sizeLine_eq
  omega
theorem repL_snoc {α : Type} {e : α → D} {xs : List α} {y : α} (r : repL ms H (xs.map e) vs) (h : rep ms H (e y) u) : repL ms H ((xs ++ [y]).map e) (vs ++ [u]) := by
  rw [List.map_append]
  exact repL_app r (repL_one h)
end

section
variable {α S : Type} {K : PySem.W.Frag} {H1 : Hp} {g : TG} {tb : TS} {D' : Ends} {σ : L2.St}
theorem for_rangeG {lo hi : Int} {N : Nat} {body : Int → S → (S → Prop) → Prop} {KM : S → Prop} (SI : S → L2.St → Hp → Prop) (s0 : S) (hN : N = (hi - lo).toNat) (hM : forC body (rangeI lo hi) s0 KM) (h0 : SI s0 σ H1)
    (hs : ∀ (x : Int) (s : S) (k : S → Prop) (σ : L2.St) (H : Hp), SI s σ H → body x s k → ∀ Nx : L2.St → Hp → Prop, (∀ s' σ' H', k s' → SI s' σ' H' → Nx σ' H') →
      g (.int x) σ H fun σ2 H2 => tb { D' with nx := Nx, ct := Nx, bk := D'.nx } σ2 H2)
    (hd : ∀ s σ H, KM s → SI s σ H → D'.nx σ H) :
    ∃ W : Nat → Nat → L2.St → Hp → Prop, (∃ m, W 0 m σ H1) ∧ ∀ i m σ H, W i m σ H →
      ((Itr lo N).stop i H ∧ D'.nx σ H) ∨ ((Itr lo N).go i H ∧ ∃ Nx : L2.St → Hp → Prop, (∀ σ' H', Nx σ' H' → ∃ m', m' < m ∧ W (i + 1) m' σ' H') ∧ ∀ x H', (Itr lo N).yld i H x H' → g x σ H' fun σ2 H2 => tb { D' with nx := Nx, ct := Nx, bk := D'.nx } σ2 H2) := by
  subst hN
  refine for_range (lo := lo) (n := (hi - lo).toNat) (D := D') (fun i σ H => ∃ s, SI s σ H ∧ forC body ((rangeI lo hi).drop i) s KM) ⟨s0, h0, hM⟩ (fun i σ H hi' ⟨s, si, q⟩ => ?_) (fun σ H ⟨s, si, q⟩ => ?_)
  · rw [drop_cons' (rangeI_get hi')] at q
    exact hs _ s _ σ H si q _ fun s' σ' H' hk si2 => ⟨s', si2, hk⟩
  · rw [List.drop_of_length_le (by rw [rangeI_len]; exact Nat.le_refl _)] at q
    exact hd s σ H q si
theorem for_listG {items : List α} {e : α → D} {ms : List Addr} {a : Addr} {xs : List V} {body : α → S → (S → Prop) → Prop} {KM : S → Prop} (SI : S → L2.St → Hp → Prop) (s0 : S) (an : a ∉ ms) (ha : H1 a = some (.lst xs)) (hx : repL ms H1 (items.map e) xs)
    (kp : ∀ s σ H, SI s σ H → Keep ms H1 H) (hM : forC body items s0 KM) (h0 : SI s0 σ H1)
    (hs : ∀ (x : α) (u : V) (s : S) (k : S → Prop) (σ : L2.St) (H : Hp), SI s σ H → rep ms H (e x) u → body x s k → ∀ Nx : L2.St → Hp → Prop, (∀ s' σ' H', k s' → SI s' σ' H' → Nx σ' H') →
      g u σ H fun σ2 H2 => tb { D' with nx := Nx, ct := Nx, bk := D'.nx } σ2 H2)
    (hd : ∀ s σ H, KM s → SI s σ H → D'.nx σ H) :
    ∃ W : Nat → Nat → L2.St → Hp → Prop, (∃ m, W 0 m σ H1) ∧ ∀ i m σ H, W i m σ H →
      ((Itl K a).stop i H ∧ D'.nx σ H) ∨ ((Itl K a).go i H ∧ ∃ Nx : L2.St → Hp → Prop, (∀ σ' H', Nx σ' H' → ∃ m', m' < m ∧ W (i + 1) m' σ' H') ∧ ∀ x H', (Itl K a).yld i H x H' → g x σ H' fun σ2 H2 => tb { D' with nx := Nx, ct := Nx, bk := D'.nx } σ2 H2) := by
  have hl : items.length = xs.length := by
    have := repL_len hx
    rwa [List.length_map] at this
  refine for_list (xs := xs) (D := D') (fun i σ H => ∃ s, SI s σ H ∧ forC body (items.drop i) s KM) ⟨s0, h0, hM⟩ (fun i σ H _ ⟨s, si, _⟩ => .inl (.inl (kp s σ H si a _ an ha))) (fun i x σ H hx' ⟨s, si, q⟩ => ?_) (fun σ H ⟨s, si, q⟩ => ?_)
  · have hi : i < xs.length := (List.getElem?_eq_some_iff.mp hx').1
    have hit : items[i]? = some (items[i]'(by omega)) := List.getElem?_eq_getElem (by omega)
    rw [drop_cons' hit] at q
    obtain ⟨v, hv, rv⟩ := repL_get (repL_keep (kp s σ H si) hx) (j := i) (d := e (items[i]'(by omega))) (by rw [List.getElem?_map, hit]; rfl)
    rw [hx'] at hv
    have ev : x = v := Option.some.inj hv
    subst ev
    exact hs _ x s _ σ H si rv q _ fun s' σ' H' hk si2 => ⟨s', si2, hk⟩
  · rw [List.drop_of_length_le (by omega)] at q
    exact hd s σ H q si
end

section
variable {α β : Type} {K : PySem.W.Frag} {H1 H2 : Hp} {g : TG} {tt : TT} {te : TE} {vl : List Nat} {σ : L2.St} {Qd : Hp → Prop} {L : Addr}
abbrev Turn (g : TG) (tt : TT) (te : TE) (vl : List Nat) (σ : L2.St) (L : Addr) (u : V) (H : Hp) (Nx : Hp → Prop) : Prop :=
  g u (wipe σ vl) H fun σ2 H2 => wipe σ2 vl = wipe σ vl ∧ tt σ2 H2 fun b H3 => if b = true then te σ2 H3 fun y H4 => ∃ acc, H4 L = some (.lst acc) ∧ acc.length < sizeLine ∧ Nx (upd H4 L (.lst (acc ++ [y]))) else Nx H3
theorem lc_rangeG {lo hi : Int} {N : Nat} {body : Int → (β → Prop) → Prop} {KM : List β → Prop} (SI : Nat → List β → Hp → Prop) (hN : N = (hi - lo).toNat) (hM : (rangeI lo hi).length < 100000 ∧ mapC body (rangeI lo hi) [] KM) (h0 : SI 0 [] (upd H1 L (.lst [])))
    (hs : ∀ (x : Int) (n : Nat) (ys : List β) (k : β → Prop) (H : Hp), n < 100000 → SI n ys H → body x k → ∀ Nx : Hp → Prop, (∀ y H', k y → SI (n + 1) (ys ++ [y]) H' → Nx H') → Turn g tt te vl σ L (.int x) H Nx)
    (hd : ∀ n ys H, KM ys → SI n ys H → Qd H) :
    ∃ W : Nat → Nat → Hp → Prop, (∃ m, W 0 m (upd H1 L (.lst []))) ∧ ∀ i m H, W i m H →
      ((Itr lo N).stop i H ∧ Qd H) ∨ ((Itr lo N).go i H ∧ ∃ Nx : Hp → Prop, (∀ H', Nx H' → ∃ m', m' < m ∧ W (i + 1) m' H') ∧ ∀ x H', (Itr lo N).yld i H x H' → g x (wipe σ vl) H' fun σ2 H2 => wipe σ2 vl = wipe σ vl ∧ tt σ2 H2 fun b H3 =>
        if b = true then te σ2 H3 fun y H4 => ∃ acc, H4 L = some (.lst acc) ∧ acc.length < sizeLine ∧ Nx (upd H4 L (.lst (acc ++ [y]))) else Nx H3) := by
  obtain ⟨hn, hM⟩ := hM
  subst hN
  rw [rangeI_len] at hn
  refine ⟨fun i m H => m = (hi - lo).toNat - i ∧ i ≤ (hi - lo).toNat ∧ ∃ ys, SI i ys H ∧ mapC body ((rangeI lo hi).drop i) ys KM, ⟨_, rfl, Nat.zero_le _, [], h0, hM⟩, ?_⟩
  rintro i m H ⟨rfl, hi', ys, T, q⟩
  by_cases hlt : i < (hi - lo).toNat
  · refine .inr ⟨hlt, fun H' => i + 1 ≤ (hi - lo).toNat ∧ ∃ ys, SI (i + 1) ys H' ∧ mapC body ((rangeI lo hi).drop (i + 1)) ys KM, fun H' p' => ⟨_, by omega, rfl, p'⟩, fun x H' y => ?_⟩
    obtain ⟨e, y⟩ := y
    subst e y
    rw [drop_cons' (rangeI_get hlt)] at q
    exact hs _ i ys _ H' (by omega) T q _ fun y H' k T' => ⟨hlt, _, T', k⟩
  · have e : i = (hi - lo).toNat := by omega
    refine .inl ⟨by rw [e]; exact Nat.le_refl _, ?_⟩
    rw [List.drop_of_length_le (by rw [rangeI_len]; omega)] at q
    exact hd _ ys H q T
theorem lc_listG {items : List α} {e : α → D} {ms : List Addr} {a : Addr} {xs : List V} {body : α → (β → Prop) → Prop} {KM : List β → Prop} (SI : Nat → List β → Hp → Prop) (an : a ∉ ms) (ha : H1 a = some (.lst xs)) (hx : repL ms H1 (items.map e) xs) (nl : H1 L = none)
    (kp : ∀ n ys H, SI n ys H → Keep (L :: ms) H1 H) (hM : items.length < 100000 ∧ mapC body items [] KM) (h0 : SI 0 [] (upd H1 L (.lst [])))
    (hs : ∀ (x : α) (u : V) (n : Nat) (ys : List β) (k : β → Prop) (H : Hp), n < 100000 → SI n ys H → rep (L :: ms) H (e x) u → body x k → ∀ Nx : Hp → Prop, (∀ y H', k y → SI (n + 1) (ys ++ [y]) H' → Nx H') → Turn g tt te vl σ L u H Nx)
    (hd : ∀ n ys H, KM ys → SI n ys H → Qd H) :
    ∃ W : Nat → Nat → Hp → Prop, (∃ m, W 0 m (upd H1 L (.lst []))) ∧ ∀ i m H, W i m H →
      ((Itl K a).stop i H ∧ Qd H) ∨ ((Itl K a).go i H ∧ ∃ Nx : Hp → Prop, (∀ H', Nx H' → ∃ m', m' < m ∧ W (i + 1) m' H') ∧ ∀ x H', (Itl K a).yld i H x H' → g x (wipe σ vl) H' fun σ2 H2 => wipe σ2 vl = wipe σ vl ∧ tt σ2 H2 fun b H3 =>
        if b = true then te σ2 H3 fun y H4 => ∃ acc, H4 L = some (.lst acc) ∧ acc.length < sizeLine ∧ Nx (upd H4 L (.lst (acc ++ [y]))) else Nx H3) := by
  obtain ⟨hn, hM⟩ := hM
  have hl : items.length = xs.length := by
    have := repL_len hx
    rwa [List.length_map] at this
  have aM : a ∉ L :: ms := fun z => by
    rcases List.mem_cons.mp z with z | z
    · exact ne_of_none ha nl z
    · exact an z
  have hx1 : repL (L :: ms) H1 (items.map e) xs := repL_new nl hx
  refine ⟨fun i m H => m = xs.length - i ∧ i ≤ xs.length ∧ ∃ ys, SI i ys H ∧ mapC body (items.drop i) ys KM, ⟨_, rfl, Nat.zero_le _, [], h0, hM⟩, ?_⟩
  rintro i m H ⟨rfl, hi', ys, T, q⟩
  have hA : H a = some (.lst xs) := kp i ys H T a _ aM ha
  by_cases hlt : i < xs.length
  · refine .inr ⟨⟨xs, xs[i], .inl (.inl hA), by simp [hlt]⟩, fun H' => i + 1 ≤ xs.length ∧ ∃ ys, SI (i + 1) ys H' ∧ mapC body (items.drop (i + 1)) ys KM, fun H' p' => ⟨_, by omega, rfl, p'⟩, fun x H' y => ?_⟩
    obtain ⟨e1, y⟩ := y
    subst e1
    have hxi := y xs (.inl (.inl hA))
    have hit : items[i]? = some (items[i]'(by omega)) := List.getElem?_eq_getElem (by omega)
    rw [drop_cons' hit] at q
    obtain ⟨v, hv, rv⟩ := repL_get (repL_keep (kp i ys H' T) hx1) (j := i) (d := e (items[i]'(by omega))) (by rw [List.getElem?_map, hit]; rfl)
    rw [hxi] at hv
    have ev : x = v := Option.some.inj hv
    subst ev
    exact hs _ x i ys _ H' (by omega) T rv q _ fun y H'' k T' => ⟨hlt, _, T', k⟩
  · refine .inl ⟨⟨xs, .inl (.inl hA), by omega⟩, ?_⟩
    rw [List.drop_of_length_le (by omega)] at q
    exact hd _ ys H q T
end
end Rx
namespace Rx
open PySem PySem.Spec PyProof.Rows L2
structure Drop (ms : List Addr) (L : Addr) (ms' : List Addr) : Prop where
  sub : ∀ a ∈ ms', a ∈ ms
  ex : ∀ a ∈ ms, a ∈ ms' ∨ a = L
theorem dr_here {L : Addr} {ms : List Addr} : Drop (L :: ms) L ms := ⟨fun _ h => List.mem_cons_of_mem _ h, fun a h => (List.mem_cons.mp h).elim .inr .inl⟩
theorem dr_cons {L x : Addr} {ms ms' : List Addr} (d : Drop ms L ms') : Drop (x :: ms) L (x :: ms') :=
  ⟨fun a h => (List.mem_cons.mp h).elim (fun e => by rw [e]; exact List.mem_cons_self) fun h => List.mem_cons_of_mem _ (d.sub a h), fun a h => (List.mem_cons.mp h).elim (fun e => .inl (by rw [e]; exact List.mem_cons_self)) fun h => (d.ex a h).imp (List.mem_cons_of_mem _) id⟩
theorem nm_cons {L x : Addr} {ms : List Addr} (ne : L ≠ x) (n : L ∉ ms) : L ∉ x :: ms := fun z => (List.mem_cons.mp z).elim ne n
section
variable {K : PySem.W.Frag} {ms ms' : List Addr} {ps : List PEn} {H0 H H' H1 : Hp} {L L' : Addr} {d d' : D} {ds : List D} {u x : V} {vs : List V}
theorem nm_dr (dr : Drop ms L ms') (n : L' ∉ ms) : L' ∉ ms' := fun z => n (dr.sub _ z)
theorem keep_dr (dr : Drop ms L ms') (n : H1 L = none) (k : Keep ms H1 H) : Keep ms' H1 H := fun a o na e => k a o (fun z => by
  rcases dr.ex a z with z | z
  · exact na z
  · rw [z, n] at e
    cases e) e
theorem wd_dr (dr : Drop ms L ms') (hp : L ∉ ad ps) (w : Wd ms ps [] H0 H) : Wd ms' ps [] H0 H := wd_sub dr.sub (fun a h => (dr.ex a (w.pm a h)).elim id fun e => absurd (by rw [← e]; exact h) hp) w
theorem rep_dr (dr : Drop ms L ms') (h : rep ms H d u) : rep ms' H d u := rep_sub dr.sub h
theorem mo_dr (dr : Drop ms L ms') (ne : L' ≠ L) (m : MutO ms ps H0 H L' d) : MutO ms' ps H0 H L' d := mo_sub dr.sub ((dr.ex _ m.im).elim id fun e => absurd e ne) m
theorem mo_rep_dr (dr : Drop ms L ms') (n : L ∉ ms') (m : MutO ms ps H0 H L d) : rep ms' H d (.ref L) := mo_rep n dr.sub m
mutual
def noM : D → Bool
  | .v _ => true
  | .lst _ => false
  | .tup ds => noMs ds
  | .ins _ _ ds => noMs ds
  | .dct _ _ => false
  | .dcT _ _ => false
def noMs : List D → Bool
  | [] => true
  | d :: ds => noM d && noMs ds
end
def isMo : Option HO → Prop
  | some (.lst _) => True
  | some (.dK _) => True
  | some (.dT _) => True
  | _ => False
theorem MutO.isMo (m : MutO ms ps H0 H L d) : isMo (H L) := by
  have h := m.val
  cases d with
  | lst ds =>
    rw [h.choose_spec.1]
    trivial
  | dct ks ds =>
    rw [h.choose_spec.1]
    trivial
  | dcT ks ds =>
    rw [h.choose_spec.1]
    trivial
  | v _ => exact h.elim
  | tup _ => exact h.elim
  | ins _ _ _ => exact h.elim
mutual
theorem rep_liftO (dr : Drop ms L ms') (hL : Rx.isMo (H L)) : ∀ (d : D) (u : V), noM d = true → rep ms' H d u → rep ms H d u
  | .v x, u, _, h => by
    simp only [rep] at h ⊢
    exact h
  | .lst ds, u, n, h => by
    simp only [noM] at n
    cases n
  | .dct _ ds, u, n, h => by
    simp only [noM] at n
    cases n
  | .dcT _ ds, u, n, h => by
    simp only [noM] at n
    cases n
  | .tup ds, u, n, h => by
    simp only [noM] at n
    simp only [rep] at h ⊢
    obtain ⟨p, us, e, np, hp, hl⟩ := h
    refine ⟨p, us, e, fun z => ?_, hp, repL_liftO dr hL ds us n hl⟩
    rcases dr.ex p z with z | z
    · exact np z
    · rw [← z, hp] at hL
      exact hL
  | .ins C ns ds, u, n, h => by
    simp only [noM] at n
    simp only [rep] at h ⊢
    obtain ⟨p, dx, us, e, np, hp, hn, hl⟩ := h
    refine ⟨p, dx, us, e, fun z => ?_, hp, hn, repL_liftO dr hL ds us n hl⟩
    rcases dr.ex p z with z | z
    · exact np z
    · rw [← z, hp] at hL
      exact hL
theorem repL_liftO (dr : Drop ms L ms') (hL : Rx.isMo (H L)) : ∀ (ds : List D) (us : List V), noMs ds = true → repL ms' H ds us → repL ms H ds us
  | [], us, _, h => by
    simp only [repL] at h ⊢
    exact h
  | d :: ds, us, n, h => by
    simp only [noMs, Bool.and_eq_true] at n
    simp only [repL] at h ⊢
    obtain ⟨u, ws, e, h1, h2⟩ := h
    exact ⟨u, ws, e, rep_liftO dr hL d u n.1 h1, repL_liftO dr hL ds ws n.2 h2⟩
end
theorem mo_ixN {α : Type} {e : α → D} {xs : List α} {i : Int} {y : α} {Q : VK} (m : MutO ms ps H0 H L (.lst (xs.map e))) (hi : atI xs i = some y) (k : ∀ v, rep ms H (e y) v → Q v H) : rIxL K (.ref L) (.int i) H Q := by
  obtain ⟨vs, hp, hr⟩ := m.val
  have hl := repL_len hr
  rw [List.length_map] at hl
  unfold atI at hi
  cases hx : ixN xs.length i with
  | none =>
    rw [hx] at hi
    cases hi
  | some j =>
    rw [hx] at hi
    have hi' : xs[j]? = some y := hi
    obtain ⟨v, hv, rv⟩ := repL_get (d := e y) hr (by rw [List.getElem?_map, hi']; rfl)
    refine ⟨L, vs, i, v, rfl, rfl, .inl (.inl hp), ?_, k v rv⟩
    unfold atI
    rw [← hl, hx]
    exact hv
theorem mo_len {α : Type} {e : α → D} {xs : List α} {P : Nat → Prop} (m : MutO ms ps H0 H L (.lst (xs.map e))) (k : P xs.length) : ∃ y n, [V.ref L] = [y] ∧ LenV K y H n ∧ P n := by
  obtain ⟨vs, hp, hr⟩ := m.val
  have hl := repL_len hr
  rw [List.length_map] at hl
  exact ⟨_, xs.length, rfl, .inl ⟨vs, .inl (.inl hp), hl⟩, k⟩
end
end Rx
namespace Rx
open PySem PySem.Spec PyProof.Rows L2
section
variable {K : PySem.W.Frag} {ms ms' : List Addr} {ps : List PEn} {H0 H H' H1 : Hp} {L L' : Addr} {d d' : D} {ds : List D} {u x : V} {vs : List V}
theorem repL_erase {α : Type} {e : α → D} : ∀ {xs : List α} {vs : List V} (k : Nat), repL ms H (xs.map e) vs → repL ms H ((xs.eraseIdx k).map e) (vs.eraseIdx k)
  | [], vs, k, h => by
    have ev : vs = [] := by
      simp only [List.map_nil, repL] at h
      exact h
    subst ev
    simpa using h
  | x :: xs, vs, 0, h => by
    simp only [List.map_cons, repL] at h
    obtain ⟨u, us, rfl, _, h2⟩ := h
    exact h2
  | x :: xs, vs, k + 1, h => by
    simp only [List.map_cons, repL] at h
    obtain ⟨u, us, rfl, h1, h2⟩ := h
    exact repL_cons h1 (repL_erase k h2)
theorem mo_popU {α : Type} {e : α → D} {xs : List α} {i : Int} {y : α} {P : Addr → List V → Nat → V → Prop} (m : MutO ms ps H0 H L (.lst (xs.map e))) (h0 : 0 ≤ i) (hi : xs[i.toNat]? = some y) (hb : i < 2 ^ 63) (k : ∀ vs v, repL ms H (xs.map e) vs → rep ms H (e y) v → P L vs i.toNat v) :
    ∃ (l : Addr) (xs : List V) (i' : Int) (k : Nat) (y : V), V.ref L = .ref l ∧ [V.int i] = [.int i'] ∧ H l = some (.lst xs) ∧ -(2 ^ 63) ≤ i' ∧ i' < 2 ^ 63 ∧ seqIndex? i' xs.length = some k ∧ xs[k]? = some y ∧ P l xs k y := by
  obtain ⟨vs, h1, h2⟩ := m.val
  have hl := repL_len h2
  rw [List.length_map] at hl
  obtain ⟨v, hv, rv⟩ := repL_get (d := e y) h2 (by rw [List.getElem?_map, hi]; rfl)
  have lt := (List.getElem?_eq_some_iff.mp hi).1
  refine ⟨L, vs, i, i.toNat, v, rfl, rfl, h1, by omega, hb, ?_, hv, k vs v h2 rv⟩
  unfold seqIndex?
  first
    | (simp only []; split <;> first | rfl | (exfalso; omega))
    | (rw [if_neg (by omega), if_pos (by omega)])
    | (simp; omega)
end
section
variable {α β S : Type} {K : PySem.W.Frag} {H1 H2 : Hp} {g : TG} {tt : TT} {te : TE} {vl : List Nat} {σ : L2.St} {Qd : Hp → Prop} {L : Addr}
end
end Rx
namespace Rx
open PySem PySem.Spec PyProof.Rows L2
section
variable {ms : List Addr} {H : Hp} {x y : V}
end
end Rx
namespace Rx
open PySem PySem.Spec PyProof.Rows L2
section
variable {K : PySem.W.Frag} {ms : List Addr} {H : Hp} {x y : V} {ds : List D} {vs : List V}
theorem rep_lsU {P : List V → Prop} (h : rep ms H (.lst ds) x) (k : ∀ vs, repL ms H ds vs → P vs) : ∃ a xs, x = .ref a ∧ SqL K H a xs ∧ P xs := by
  simp only [rep] at h
  obtain ⟨p, vs, rfl, np, hp, hr⟩ := h
  exact ⟨p, vs, rfl, .inl (.inl hp), k vs hr⟩
theorem repL_take : ∀ (n : Nat) {ds : List D} {vs : List V}, repL ms H ds vs → repL ms H (ds.take n) (vs.take n)
  | 0, _, _, _ => by
    rw [List.take_zero, List.take_zero]
    exact repL_nil
  | n + 1, [], vs, h => by
    have e := repL_empty h
    subst e
    exact repL_nil
  | n + 1, d :: ds, vs, h => by
    obtain ⟨u, us, rfl, h1, h2⟩ := repL_uncons h
    exact repL_cons h1 (repL_take n h2)
theorem repL_drop : ∀ (n : Nat) {ds : List D} {vs : List V}, repL ms H ds vs → repL ms H (ds.drop n) (vs.drop n)
  | 0, _, _, h => h
  | n + 1, [], vs, h => by
    have e := repL_empty h
    subst e
    exact repL_nil
  | n + 1, d :: ds, vs, h => by
    obtain ⟨u, us, rfl, h1, h2⟩ := repL_uncons h
    exact repL_drop n h2
def cutM {α : Type} (xs : List α) (lo hi : Option Int) : List α := (xs.drop (HT.sIx xs.length 0 lo)).take (HT.sIx xs.length xs.length hi - HT.sIx xs.length 0 lo)
theorem repL_cut {α : Type} {e : α → D} {xs : List α} {lo hi : Option Int} (h : repL ms H (xs.map e) vs) : repL ms H ((cutM xs lo hi).map e) (cutV vs lo hi) := by
  have hl := repL_len h
  rw [List.length_map] at hl
  unfold cutM cutV
  rw [List.map_take, List.map_drop, hl]
  exact repL_take _ (repL_drop _ h)
end
section
variable {α β S : Type} {K : PySem.W.Frag} {H1 : Hp} {g : TG} {tt : TT} {te : TE} {vl : List Nat} {σ : L2.St} {Qd : Hp → Prop} {L : Addr}
end
end Rx
namespace Rx
open PySem PySem.Spec PyProof.Rows L2
section
variable {X : Cx} {K : PySem.W.Frag}
theorem call_lenK (hK : X.K = K) : CallR X (.builtin "len") (fun xs H Q => ∃ x n, xs = [x] ∧ LenV K x H n ∧ Q (.int n) H) := by
  subst hK
  exact call_len
theorem call_isiK (hK : X.K = K) : CallR X (.builtin "isinstance") (rIsi K) := by
  subst hK
  exact call_isi
theorem sl_listK (hK : X.K = K) : SlR X (rSlL K) := by
  subst hK
  exact sl_list
theorem call_list_ofK (hK : X.K = K) : CallR X (.type "list") (fun xs H Q => ∃ p ys, xs = [.ref p] ∧ (SqL K H p ys ∨ SqT K H p ys) ∧ ∀ l, H l = none → Q (.ref l) (upd H l (.lst ys))) := by
  subst hK
  exact call_list_of
theorem cr_allK (hK : X.K = K) (hc : X.calm = true) : CallR X (.builtin "all") (rAll K) := by
  subst hK
  exact cr_all hc
theorem op_eqDK (hK : X.K = K) (hu : X.A.units + 64 < cLine) : OpR X (compareOp .Eq) (rEqD K) := by
  subst hK
  exact op_eqD hu
theorem call_reprAK {k : Nat} (hK : X.K = K) (gu : X.A.guards = some []) (hr : Room k X.A) : CallR X (.builtin "repr") (rReprA K) := by
  subst hK
  exact call_reprA gu hr
end
end Rx
namespace Rx
open PySem PySem.Spec PyProof.Rows L2
section
variable {X : Cx} {K : PySem.W.Frag} {T name id : String} {o e : Expr} {es : List Expr} {r : V → List V → Hp → VK → Prop} {to : TE} {t : TA} {apos cpos : Pos}
theorem pe_bmK (hK : X.K = K) (pa : PlainAttrs T) (slot : Slot T name id) (hty : typeOf (.builtin id) = pure (.type "method_descriptor")) (hm : MtR X id r) (ho : PE X o to) (ha : PA X (e :: es) t)
    (hbase : attributeBase o name X.env (eval o X.env) = eval o X.env := by rfl)
    (hfew : ((backTo cpos (starEach (e :: es) X.env)).all (fun x => !x.1) && (backToKw cpos (keywordEach [] X.env)).all (fun x => x.1.isSome)
      && decide ((e :: es).length + ([] : List Keyword).length + (if ([] : List Keyword).isEmpty then 0 else 1) < 30)) = true := by rfl)
    (hline : (apos.endLine == cpos.line) = true := by rfl) (hs : starEach (e :: es) X.env = (false, eval e X.env) :: starEach es X.env := by rfl) (hplain : (backTo cpos (starEach es X.env)).any (·.1) = false := by rfl) :
    PE X (.Call (.Attribute o name apos) (e :: es) [] cpos) (tBM K T r to t) := by
  subst hK
  exact pe_bm pa slot hty hm ho ha hbase hfew hline hs hplain
end
end Rx
namespace Rx
open PySem PySem.Spec PyProof.Rows L2
section
variable {M : Model} {s : Shared} {K : PySem.W.Frag} {C : Addr}
end
section
variable {M : Model} {prog : Program} {w : World} {A : Around} {E : Value → Shared → Prop} {s : Shared} {K : PySem.W.Frag} {x C : Addr} {uy : Value} {ox : Obj} {od : Option Obj}
end
section
variable {K : PySem.W.Frag} {ms : List Addr} {H : Hp} {x y : V} {d : D}
structure IsN (K : PySem.W.Frag) (C : Addr) : Prop where
  ic : PySem.W.isClsIn K C = true
  ty : PySem.W.typeIn K (.ref C) = some (.type "type")
end
end Rx
namespace Rx
open PySem PySem.Spec PyProof.Rows L2
section
variable {ms : List Addr} {ps : List PEn} {cs : List (Addr × List V)} {H0 H H' : Hp} {u : V}
end
end Rx
namespace Rx
open PySem PySem.Spec PyProof.Rows L2
section
variable {κ : Type} [DecidableEq κ]
end
section
variable {K : PySem.W.Frag} {ms : List Addr} {ps : List PEn} {H0 H H' H1 : Hp} {L : Addr} {d : D} {ds : List D} {u x y : V} {vs : List V} {ks : List Key} {k : Key}
end
end Rx
namespace Rx
open PySem PySem.Spec PyProof.Rows L2
section
variable {X : Cx} {K : PySem.W.Frag}
end
end Rx
namespace Rx
theorem nin_of {α : Type} {ks : List α} {k : α} (h : (ks ++ [k]).Nodup) : k ∉ ks := fun z => by
  rw [List.nodup_append] at h
  exact h.2.2 k z k (by simp) rfl
end Rx
namespace Rx
open PySem PySem.Spec PyProof.Rows L2
section
variable {ms : List Addr} {ps : List PEn} {H0 H H' He : Hp} {p L C dx : Addr} {d : D} {u : V} {fs : List (Str × V)} {o : HO}
structure KpI (p : Addr) (He H : Hp) : Prop where
  kp : ∀ a o, a ≠ p → He a = some o → H a = some o
  gr : ∀ a, He a ≠ none → H a ≠ none
theorem ki_refl : KpI p H H := ⟨fun _ _ _ h => h, fun _ h => h⟩
theorem ki_wd (k : KpI p He H0) (w : Wd ms [] [] H0 H) : KpI p He H := ⟨fun a o n h => w.kp a o (by simp) (k.kp a o n h), fun a h => w.grow a (k.gr a h)⟩
theorem ki_put (k : KpI p He H0) (w : Wd ms [] [] H0 H) : KpI p He (upd H p o) := ⟨fun a o' n h => by
  rw [upd_ne n]
  exact (ki_wd k w).kp a o' n h, fun a h => by
  by_cases e : a = p
  · rw [e, upd_same]
    exact fun z => nomatch z
  · rw [upd_ne e]
    exact (ki_wd k w).gr a h⟩
theorem wd_at (w : Wd ms [] [] H0 H) : Wd ms [] [] (upd H p o) (upd H p o) := ⟨fun _ _ _ h => h, fun _ h => h, fun m h => by
  by_cases e : m = p
  · rw [e, upd_same]
    exact fun z => nomatch z
  · rw [upd_ne e]
    exact w.tr m h, fun _ h => absurd h List.not_mem_nil, fun _ h => absurd h List.not_mem_nil, fun _ h => absurd h List.not_mem_nil⟩
theorem at_put (hp : H p = some (.ins C dx fs)) (m : MutO ms ps H0 H L d) : upd H L o p = some (.ins C dx fs) := by
  rw [upd_ne (fun z => ?_)]
  · exact hp
  · have h := m.isMo
    rw [← z, hp] at h
    exact h
theorem putF_zip {f : Str} {v : V} : ∀ {ns : List Str} {us : List V}, ns.length = us.length → f ∉ ns → putF f v (ns.zip us) = (ns ++ [f]).zip (us ++ [v])
  | [], [], _, _ => by simp [putF]
  | [], _ :: _, h, _ => by simp at h
  | _ :: _, [], h, _ => by simp at h
  | n :: ns, u :: us, h, nn => by
    have e : ¬ n = f := fun z => nn (by rw [z]; exact List.mem_cons_self)
    have ih := putF_zip (f := f) (v := v) (ns := ns) (us := us) (by simpa using h) fun z => nn (List.mem_cons_of_mem _ z)
    simp only [List.zip_cons_cons, List.cons_append]
    unfold putF
    rw [if_neg e, ih]
theorem mem_new (nl : H p = none) (h : rep ms H d u) (ndx : H dx = none) {o1 o2 : HO} : rep (p :: ms) (upd (upd H dx o1) p o2) d u :=
  rep_map (fun a o n hp => ⟨fun z => by
    rcases List.mem_cons.mp z with z | z
    · exact ne_of_none hp nl z
    · exact n z, by rw [upd_ne (ne_of_none hp nl), upd_ne (ne_of_none hp ndx)]; exact hp⟩) d u h
theorem wd_new (w : Wd ms ps cs H0 H) (nl : H p = none) (ndx : H dx = none) {o1 o2 : HO} : Wd (p :: ms) [] [] (upd (upd H dx o1) p o2) (upd (upd H dx o1) p o2) := ⟨fun _ _ _ h => h, fun _ h => h, fun m h => by
  by_cases e : m = p
  · rw [e, upd_same]
    exact fun z => nomatch z
  · rw [upd_ne e]
    by_cases e2 : m = dx
    · rw [e2, upd_same]
      exact fun z => nomatch z
    · rw [upd_ne e2]
      exact w.tr m ((List.mem_cons.mp h).elim (fun z => absurd z e) id), fun _ h => absurd h List.not_mem_nil, fun _ h => absurd h List.not_mem_nil, fun _ h => absurd h List.not_mem_nil⟩
theorem ext_new (k : KpI p (upd (upd H dx o1) p o2) H') (nl : H p = none) (ndx : H dx = none) : Ret [] H H' := ⟨fun a o _ h => k.kp a o (ne_of_none h nl) (by rw [upd_ne (ne_of_none h nl), upd_ne (ne_of_none h ndx)]; exact h), fun _ z => absurd z List.not_mem_nil, fun a h => k.gr a (by
  by_cases e : a = p
  · rw [e, upd_same]
    exact fun z => nomatch z
  · rw [upd_ne e]
    by_cases e2 : a = dx
    · rw [e2, upd_same]
      exact fun z => nomatch z
    · rw [upd_ne e2]
      exact h)⟩
theorem rep_insW (w : Wd ms ps cs H0 H) (np : H p = none) {ns : List Str} {us : List V} {ds : List D} (hp : H' p = some (.ins C dx (ns.zip us))) (hl : ns.length = us.length) (hr : repL (p :: ms) H' ds us) : rep ms H' (.ins C ns ds) (.ref p) := by
  simp only [rep]
  exact ⟨p, dx, us, rfl, fun z => w.tr p z np, hp, hl, repL_weak hr⟩
end
end Rx
namespace Rx
open PySem PySem.Spec PyProof.Rows L2
section
variable {K : PySem.W.Frag} {x qual : Str} {params : Arguments} {body : List Stmt} {scope : Scope} {dvs : List V} {f : Addr} {fd : FuncData} {ps : List Str}
end
end Rx
namespace Rx
open PySem PySem.Spec PyProof.Rows L2
section
variable {X : Cx} {K : PySem.W.Frag} {w : World} {d : Addr}
end
end Rx
namespace Rx
open PySem PySem.Spec PyProof.Rows L2
section
variable {α β : Type} {K : PySem.W.Frag} {H1 H2 : Hp} {g : TG} {tt : TT} {te : TE} {vl : List Nat} {σ : L2.St} {Qd : Hp → Prop} {L : Addr}
end
section
variable {α S : Type} {K : PySem.W.Frag} {H1 : Hp} {g : TG} {tb : TS} {D' : Ends} {σ : L2.St}
end
section
variable {X : L2.Cx} {a b c e : PySem.Expr} {ta : TA}
end
section
variable {X : L2.Cx} {e : PySem.Expr} {te : TE}
end
theorem repL_intsM {ms : List Addr} {H : Hp} {xs : List Int} : repL ms H (xs.map fun y_ : Int => D.v (V.int y_)) (xs.map V.int) := by
  have e1 : xs.map (fun y_ : Int => D.v (V.int y_)) = (xs.map V.int).map D.v := by
    rw [List.map_map]
    rfl
  rw [e1]
  exact repL_flat.mpr rfl
section
variable {X : L2.Cx} {K : PySem.W.Frag} {ms : List Addr} {H : Hp} {u x : V}
theorem op_inSK (hK : X.K = K) : OpR X (compareOp .In) (rIn K false) := by
  subst hK
  exact op_in_seq
theorem inQ_all {α : Type} {f : α → V} {xs : List α} (fs : ∀ y, flatV (f y) = true) : (xs.map f).all flatV = true := by
  rw [List.all_map]
  exact List.all_eq_true.mpr fun y _ => fs y
theorem inQ_eq {α : Type} {f : α → V} {xs : List α} {vs : List V} (h : repL ms H (xs.map fun y_ : α => D.v (f y_)) vs) : vs = xs.map f := by
  have e1 : xs.map (fun y_ : α => D.v (f y_)) = (xs.map f).map D.v := by
    rw [List.map_map]
    rfl
  rw [e1] at h
  exact repL_flat.mp h
theorem rep_inL {α : Type} {f : α → V} {xs : List α} {Q : VK} (h : rep ms H (.lst (xs.map fun y_ : α => D.v (f y_))) u) (fx : flatV x = true) (fs : ∀ y, flatV (f y) = true) (k : Q (.bl (inV x (xs.map f))) H) : rIn K false x u H Q := by
  simp only [rep] at h
  obtain ⟨p, vs, e, _, hp, hr⟩ := h
  rw [inQ_eq hr] at hp
  exact ⟨p, _, e, .inl (.inl (.inl hp)), fx, inQ_all fs, k⟩
theorem inV_int {x : Int} {xs : List Int} : inV (.int x) (xs.map V.int) = true ↔ x ∈ xs := by
  unfold inV
  rw [List.any_map, List.any_eq_true]
  constructor
  · rintro ⟨y, hy, e⟩
    have e' : (y == x) = true := e
    rw [← eq_of_beq e']
    exact hy
  · intro h
    exact ⟨x, h, show (x == x) = true from beq_self_eq_true x⟩
end
section
variable {K : PySem.W.Frag} {ms : List Addr} {ps : List PEn} {H0 H H' H1 : Hp} {L : Addr} {d : D} {ds : List D} {u x y : V} {vs : List V} {ks : List Key} {k : Key}
end
end Rx
namespace Rx
open PySem PySem.Spec PyProof.Rows L2
section
variable {K : PySem.W.Frag} {ms : List Addr} {ps : List PEn} {H0 H : Hp} {x : V}
theorem rep_iterE {ds : List D} {P : Addr → Prop} (h : rep ms H (.lst ds) x) (k : ∀ a xs, x = .ref a → a ∉ ms → H a = some (.lst xs) → repL ms H ds xs → P a) : ∃ (a : Addr) (xs : List V), [x] = [.ref a] ∧ SqL K H a xs ∧ P a := by
  simp only [rep] at h
  obtain ⟨p, vs, e, n, hp, hr⟩ := h
  exact ⟨p, vs, by rw [e], .inl (.inl hp), k p vs e n hp hr⟩
end
section
variable {α S : Type} {K : PySem.W.Frag} {H1 : Hp} {g : TG} {tb : TS} {D' : Ends} {σ : L2.St}
theorem rep_pair {ms : List Addr} {H H2 : Hp} {T : Addr} {d1 d2 : D} {v1 v2 : V} (tr : ∀ m ∈ ms, H m ≠ none) (nT : H T = none) (e : H2 = upd H T (.tup [v1, v2])) (h1 : rep ms H d1 v1) (h2 : rep ms H d2 v2) : rep ms H2 (.tup [d1, d2]) (.ref T) := by
  subst e
  simp only [rep]
  refine ⟨T, [v1, v2], rfl, fun z => tr T z nT, upd_same, ?_⟩
  exact repL_ext (Ext.new nT) (repL_cons h1 (repL_cons h2 repL_nil))
theorem for_enumG {items : List α} {e : α → D} {ms : List Addr} {a : Addr} {xs : List V} {body : (Int × α) → S → (S → Prop) → Prop} {KM : S → Prop} (SI : S → L2.St → Hp → Prop) (s0 : S) (an : a ∉ ms) (ha : H1 a = some (.lst xs)) (hx : repL ms H1 (items.map e) xs)
    (kp : ∀ s σ H, SI s σ H → Keep ms H1 H) (tr : ∀ s σ H, SI s σ H → ∀ m ∈ ms, H m ≠ none) (hM : forC body ((rangeI 0 (items.length : Int)).zip items) s0 KM) (h0 : SI s0 σ H1)
    (hs : ∀ (x : Int × α) (u : V) (s : S) (k : S → Prop) (σ : L2.St) (H H2 : Hp), SI s σ H → Ext H H2 → rep ms H2 (.tup [.v (.int x.1), e x.2]) u → body x s k → ∀ Nx : L2.St → Hp → Prop, (∀ s' σ' H', k s' → SI s' σ' H' → Nx σ' H') →
      g u σ H2 fun σ2 H2 => tb { D' with nx := Nx, ct := Nx, bk := D'.nx } σ2 H2)
    (hd : ∀ s σ H, KM s → SI s σ H → D'.nx σ H) :
    ∃ W : Nat → Nat → L2.St → Hp → Prop, (∃ m, W 0 m σ H1) ∧ ∀ i m σ H, W i m σ H →
      ((Ite K a).stop i H ∧ D'.nx σ H) ∨ ((Ite K a).go i H ∧ ∃ Nx : L2.St → Hp → Prop, (∀ σ' H', Nx σ' H' → ∃ m', m' < m ∧ W (i + 1) m' σ' H') ∧ ∀ x H', (Ite K a).yld i H x H' → g x σ H' fun σ2 H2 => tb { D' with nx := Nx, ct := Nx, bk := D'.nx } σ2 H2) := by
  have hl : items.length = xs.length := by
    have := repL_len hx
    rwa [List.length_map] at this
  have rl : (rangeI 0 (items.length : Int)).length = items.length := by rw [rangeI_len]; omega
  have zl : ((rangeI 0 (items.length : Int)).zip items).length = xs.length := by rw [List.length_zip, rl, hl, Nat.min_self]
  refine for_it (walk_enum (K := K) (a := a) (xs := xs)) (D := D') (fun i σ H => ∃ s, SI s σ H ∧ forC body (((rangeI 0 (items.length : Int)).zip items).drop i) s KM) ⟨s0, h0, hM⟩ (fun i σ H _ ⟨s, si, _⟩ => .inl (.inl (kp s σ H si a _ an ha))) (fun i u σ H H' hi ⟨s, si, q⟩ y => ?_) (fun σ H ⟨s, si, q⟩ => ?_)
  · obtain ⟨T, x1, x2, rfl, nT, eH, e1, e2⟩ := y
    have hit : items[i]? = some (items[i]'(by omega)) := List.getElem?_eq_getElem (by omega)
    have hz : ((rangeI 0 (items.length : Int)).zip items)[i]? = some ((i : Int), items[i]'(by omega)) := by
      rw [List.getElem?_zip_eq_some]
      exact ⟨by rw [rangeI_get (by omega)]; congr 1; omega, hit⟩
    rw [drop_cons' hz] at q
    obtain ⟨v, hv, rv⟩ := repL_get (repL_keep (kp s σ H si) hx) (j := i) (d := e (items[i]'(by omega))) (by rw [List.getElem?_map, hit]; rfl)
    have e2 : xs[i]? = some x2 := e2
    rw [e2] at hv
    have ev : x2 = v := Option.some.inj hv
    subst ev
    have ev1 : V.int (i : Nat) = x1 := Option.some.inj e1
    subst ev1
    have ex : Ext H H' := by rw [eH]; exact Ext.new nT
    exact hs ((i : Int), items[i]'(by omega)) (.ref T) s _ σ H H' si ex (rep_pair (tr s σ H si) nT eH rep_v rv) q _ fun s' σ' H'' hk si2 => ⟨s', si2, hk⟩
  · rw [List.drop_of_length_le (by omega)] at q
    exact hd s σ H q si
end
end Rx
namespace Rx
open PySem PySem.Spec PyProof.Rows L2
section
variable {α κ : Type} [DecidableEq κ]
def putD (m : List (κ × α)) (k : κ) (y : α) : List (κ × α) := if (m.any fun q => decide (q.1 = k)) = true then m.map (fun q => if q.1 = k then (q.1, y) else q) else m ++ [(k, y)]
def getD (m : List (κ × α)) (k : κ) : Option α := (m.find? fun q => decide (q.1 = k)).map (·.2)
def hasD (m : List (κ × α)) (k : κ) : Bool := m.any fun q => decide (q.1 = k)
theorem zip_fst_any {k : κ} : ∀ {m : List (κ × α)} {vs : List V}, m.length = vs.length → (((m.map (·.1)).zip vs).any fun kv => decide (kv.1 = k)) = m.any fun q => decide (q.1 = k)
  | [], [], _ => rfl
  | q :: m, v :: vs, h => by
    rw [List.map_cons, List.zip_cons_cons, List.any_cons, List.any_cons, zip_fst_any (by simpa using h)]
  | [], _ :: _, h => by simp at h
  | _ :: _, [], h => by simp at h
theorem putK_map {k : κ} {y : α} {v : V} : ∀ {m : List (κ × α)} {vs : List V}, m.length = vs.length → ((m.map (·.1)).zip vs).map (fun kv => if kv.1 = k then (kv.1, v) else kv) = ((m.map (fun q => if q.1 = k then (q.1, y) else q)).map (·.1)).zip ((m.zip vs).map fun z => if z.1.1 = k then v else z.2)
  | [], [], _ => rfl
  | q :: m, w :: vs, h => by
    have ih := putK_map (k := k) (y := y) (v := v) (m := m) (vs := vs) (by simpa using h)
    rw [List.map_cons, List.zip_cons_cons, List.map_cons, ih, List.map_cons, List.map_cons, List.zip_cons_cons, List.map_cons, List.zip_cons_cons]
    by_cases e : q.1 = k
    · simp [e]
    · simp [e]
  | [], _ :: _, h => by simp at h
  | _ :: _, [], h => by simp at h
end
section
variable {α : Type} {K : PySem.W.Frag} {ms : List Addr} {ps : List PEn} {H0 H : Hp} {L : Addr} {x : V} {e : α → D}
end
section
variable {K : PySem.W.Frag} {ms : List Addr} {H : Hp} {x : V}
end
end Rx
namespace Rx
open PySem PySem.Spec PyProof.Rows L2
theorem units65 {k : Nat} {A : Around} (r : Room k A) : A.units + 65 < cLine := by
  have := r.un
  omega
def tyN : D → String
  | .v (.bl _) => "bool"
  | .v (.int _) => "int"
  | .v (.str _) => "str"
  | .v _ => "NoneType"
  | .lst _ => "list"
  | .tup _ => "tuple"
  | .dct _ _ => "dict"
  | .dcT _ _ => "dict"
  | .ins _ _ _ => "object"
def tyOk : D → Bool
  | .v .non => true
  | .v (.bl _) => true
  | .v (.int _) => true
  | .v (.str _) => true
  | .v _ => false
  | .ins _ _ _ => false
  | _ => true
section
variable {K : PySem.W.Frag} {ms : List Addr} {ps : List PEn} {H0 H : Hp} {d : D} {u x : V}
theorem rep_TyN (h : rep ms H d u) (n : tyOk d = true) {T : String} (e : tyN d = T) : TyX K H u (.type T) := by
  subst e
  cases d with
  | v x =>
    obtain rfl := of_v h
    cases u <;> simp only [tyOk] at n
    · exact .base .non
    · exact .base (.bl _)
    · exact .base (.int _)
    · exact .base (.str _)
    all_goals cases n
  | lst ds =>
    simp only [rep] at h
    obtain ⟨p, vs, rfl, _, hp, _⟩ := h
    exact .base (.lst hp)
  | tup ds =>
    simp only [rep] at h
    obtain ⟨p, vs, rfl, _, hp, _⟩ := h
    exact .base (.tup hp)
  | dct ks ds =>
    simp only [rep] at h
    obtain ⟨p, vs, rfl, _, hp, _⟩ := h
    exact .base (.dK hp)
  | dcT ks ds =>
    simp only [rep] at h
    obtain ⟨p, vs, rfl, _, hp, _⟩ := h
    exact .base (.dT hp)
  | ins _ _ _ => cases n
theorem call_isiTK {X : Cx} (hK : X.K = K) : CallR X (.builtin "isinstance") (rIsiT K) := by
  subst hK
  exact call_isiT
theorem rep_isi1 {a b : String} {r : Bool} {P : Bool → Prop} (h : rep ms H d u) (n : tyOk d = true) (e : tyN d = a) (k : kitB a b = some r) (q : P r) :
    ∃ (x' c : V) (t u' : Value) (b' : Bool), [u, .ty b] = [x', c] ∧ ClsV c u' ∧ TyX K H x' t ∧ PySem.W.kitOne K t u' = some b' ∧ P b' :=
  ⟨u, .ty b, .type a, .type b, r, rfl, .ty b, rep_TyN h n e, kit_ty k, q⟩
theorem rep_isi2 {a b c : String} {r1 r2 : Bool} {tp : Addr} {P : Bool → Prop} (h : rep ms H d u) (n : tyOk d = true) (e : tyN d = a) (ht : H tp = some (.tup [.ty b, .ty c])) (k1 : kitB a b = some r1) (k2 : kitB a c = some r2) (q : P (r1 || r2)) :
    ∃ (x : V) (tp' : Addr) (cs : List V) (t : Value) (us : List Value) (b' : Bool), [u, .ref tp] = [x, .ref tp'] ∧ H tp' = some (.tup cs) ∧ Paired ClsV cs us ∧ TyX K H x t ∧ PySem.W.kitAny K t us = some b' ∧ P b' := by
  refine ⟨u, tp, [.ty b, .ty c], .type a, [.type b, .type c], r1 || r2, rfl, ht, .cons (.ty b) (.cons (.ty c) .nil), rep_TyN h n e, ?_, q⟩
  refine kitAny_cons (kit_ty k1) (fun e1 => ?_) (fun e1 => by rw [e1]; rfl)
  refine kitAny_cons (kit_ty k2) (fun e2 => ?_) (fun e2 => by rw [e2, Bool.or_true])
  rw [e1, e2]
  rfl
theorem rep_lenT {ds : List D} {n : Nat} {P : Nat → Prop} (h : rep ms H (.tup ds) x) (hn : ds.length = n) (q : P n) : ∃ (y : V) (m : Nat), [x] = [y] ∧ LenV K y H m ∧ P m := by
  simp only [rep] at h
  obtain ⟨p, vs, rfl, _, hp, hr⟩ := h
  exact ⟨_, vs.length, rfl, .inr ⟨vs, .inl (.inl hp), rfl⟩, by rw [← repL_len hr, hn]; exact q⟩
theorem op_inDK {X : Cx} (hK : X.K = K) (hu : X.A.units + 65 < cLine) : OpR X (compareOp .In) (rInD K) := by
  subst hK
  exact op_inD hu
def inDv (d : D) (es : List D) : Bool := (pyL es).any fun z => PyData.eqv z (pyOf d)
theorem rep_inD {es : List D} {y : V} {Q : VK} (h1 : rep ms H d x) (h2 : rep ms H (.lst es) y) (p1 : plainD d = true) (p2 : plainD (.lst es) = true) (s1 : SeqAt.shaped (pyOf d) = true) (s2 : SeqAt.shaped (pyOf (.lst es)) = true) (q : Q (.bl (inDv d es)) H) : rInD K x y H Q :=
  ⟨pyOf d, pyL es, dp_of d x p1 h1, by have := dp_of (K := K) (.lst es) y p2 h2; simpa only [pyOf] using this, s1, by simpa only [pyOf] using s2, q⟩
end
section
variable {α : Type} {K : PySem.W.Frag} {ms : List Addr} {ps : List PEn} {H0 H : Hp} {L : Addr} {x kx : V} {e : α → D}
theorem mo_nilT (w : Wd ms ps [] H0 H) (nl : H L = none) : MutO (L :: ms) ps H0 (upd H L (.dT [])) L (.dcT (([] : List (List Key × α)).map (·.1)) (([] : List (List Key × α)).map fun q => e q.2)) where
  im := List.mem_cons_self
  hp := fun z => w.tr L (w.pm L z) nl
  h0 := by
    cases h : H0 L with
    | none => rfl
    | some o => exact absurd nl (w.grow L (by rw [h]; exact fun z => nomatch z))
  val := ⟨[], upd_same, rfl, repL_nil⟩
theorem key_tup {ks : List Key} {ds : List D} (h : rep ms H (.tup ds) kx) (hd : ds = ks.map fun k => D.v (kV k)) : ∃ b, kx = .ref b ∧ H b = some (.tup (ks.map kV)) := by
  subst hd
  simp only [rep] at h
  obtain ⟨p, vs, rfl, _, hp, hr⟩ := h
  have : vs = ks.map kV := by
    have q := repL_flat (xs := ks.map kV) (vs := vs) (ms := ms) (H := H)
    rw [List.map_map] at q
    exact q.mp hr
  subst this
  exact ⟨p, rfl, hp⟩
theorem repL_mapT {y : α} {v : V} {k : List Key} (rv : rep ms H (e y) v) : ∀ {m : List (List Key × α)} {vs : List V}, repL ms H (m.map fun q => e q.2) vs → repL ms H ((m.map (fun q => if q.1 = k then (q.1, y) else q)).map fun q => e q.2) ((m.zip vs).map fun z => if z.1.1 = k then v else z.2)
  | [], vs, h => by
    have := repL_empty h
    subst this
    exact repL_nil
  | q :: m, vs, h => by
    obtain ⟨u, us, rfl, h1, h2⟩ := repL_uncons h
    have ih := repL_mapT (y := y) (v := v) (k := k) rv h2
    by_cases c : q.1 = k
    · simp only [List.map_cons, List.zip_cons_cons, if_pos c]
      exact repL_cons rv ih
    · simp only [List.map_cons, List.zip_cons_cons, if_neg c]
      exact repL_cons h1 ih
theorem mo_putT {m : List (List Key × α)} {ks : List Key} {ds : List D} {y : α} {v : V} {Q : Hp → Prop} (mo : MutO ms ps H0 H L (.dcT (m.map (·.1)) (m.map fun q => e q.2))) (hk : rep ms H (.tup ds) kx) (hd : ds = ks.map fun k => D.v (kV k)) (rv : rep ms H (e y) v) (hs : m.length < 16777216)
    (q : ∀ vs, ((putD m ks y).map (·.1)).length = vs.length → repL ms H ((putD m ks y).map fun q => e q.2) vs → Q (upd H L (.dT (((putD m ks y).map (·.1)).zip vs)))) : rSetD (.ref L) kx v H Q := by
  obtain ⟨vs, h1, h2, h3⟩ := mo.val
  obtain ⟨b, rfl, hb⟩ := key_tup hk hd
  have hl : m.length = vs.length := by rw [← h2, List.length_map]
  refine ⟨L, _, rfl, DPut.t h1 hb ?_, ?_⟩
  · rw [List.length_zip, ← h2, sizeLine_eq, Nat.min_self, List.length_map]
    exact hs
  · unfold putK
    rw [zip_fst_any hl]
    unfold putD at q
    by_cases c : (m.any fun q => decide (q.1 = ks)) = true
    · rw [if_pos c, putK_map (y := y) hl]
      rw [if_pos c] at q
      exact q _ (by simp [hl]) (repL_mapT rv h3)
    · rw [if_neg c]
      rw [if_neg c] at q
      have z : (m.map (·.1)).zip vs ++ [(ks, v)] = ((m ++ [(ks, y)]).map (·.1)).zip (vs ++ [v]) := by
        rw [List.map_append, List.zip_append h2]
        rfl
      rw [z]
      refine q _ (by simp [hl]) ?_
      rw [List.map_append]
      exact repL_app h3 (repL_one rv)
theorem mo_setT {ks : List (List Key)} {vs : List V} {ds : List D} {d : D} (m : MutO ms ps H0 H L d) (hl : ks.length = vs.length) (r : repL ms H ds vs) : MutO ms ps H0 (upd H L (.dT (ks.zip vs))) L (.dcT ks ds) :=
  ⟨m.im, m.hp, m.h0, vs, upd_same, hl, repL_put m.im r⟩
end
section
variable {K : PySem.W.Frag} {ms : List Addr} {ps : List PEn} {H0 H : Hp} {x : V}
theorem cr_sortedIK {X : Cx} (hK : X.K = K) : CallR X (.builtin "sorted") (rSortedI K) := by
  subst hK
  exact cr_sortedI
theorem rep_sortI {xs : List Int} {P : List Int → Addr → Prop} (h : rep ms H (.lst (xs.map fun y => .v (.int y))) x) (q : ∀ ys : List Int, ys.Perm xs → ys.Pairwise (· ≤ ·) → ∀ p, H p = none → P ys p) :
    ∃ (a : Addr) (ns : List Int), [x] = [V.ref a] ∧ SqL K H a (ns.map V.int) ∧ ∀ (ns' : List Int) (p : Addr), ns'.Perm ns → ns'.Pairwise (· ≤ ·) → H p = none → P ns' p := by
  simp only [rep] at h
  obtain ⟨p, vs, rfl, _, hp, hr⟩ := h
  have ev : vs = xs.map V.int := by
    have := repL_flat (xs := xs.map V.int) (vs := vs) (ms := ms) (H := H)
    rw [List.map_map] at this
    exact this.mp hr
  subst ev
  exact ⟨p, xs, rfl, .inl (.inl hp), fun ys q1 a b c => q ys a b q1 c⟩
theorem call_tuple_ofK {X : Cx} (hK : X.K = K) : CallR X (.type "tuple") (fun xs H Q => ∃ p ys, xs = [.ref p] ∧ ((SqL K H p ys ∧ ∀ l, H l = none → Q (.ref l) (upd H l (.tup ys))) ∨ (SqT K H p ys ∧ Q (.ref p) H))) := by
  subst hK
  exact call_tuple_of
theorem rep_tupOf {ds : List D} {P : List V → Addr → Prop} {R : Addr → Prop} (h : rep ms H (.lst ds) x) (q : ∀ ys, repL ms H ds ys → ∀ l, H l = none → P ys l) : ∃ p ys, [x] = [V.ref p] ∧ ((SqL K H p ys ∧ ∀ l, H l = none → P ys l) ∨ (SqT K H p ys ∧ R p)) := by
  simp only [rep] at h
  obtain ⟨p, vs, rfl, _, hp, hr⟩ := h
  exact ⟨p, vs, rfl, .inl ⟨.inl (.inl hp), q vs hr⟩⟩
end
end Rx
namespace Rx
open PySem PySem.Spec PyProof.Rows L2
section
variable {prog : Program} {w : World} {A : Around} {E : Value → Shared → Prop} {s : Shared}
end
section
variable {prog : Program} {w : World} {A : Around} {E : Value → Shared → Prop} {s : Shared}
end
section
variable {K : PySem.W.Frag} {ms : List Addr} {H : Hp} {x : V}
end
section
variable {α β : Type} {K : PySem.W.Frag} {H1 : Hp} {g : TG} {tt : TT} {te : TE} {vl : List Nat} {σ : L2.St} {Qd : Hp → Prop} {L : Addr}
end
end Rx
namespace Rx
open PySem PySem.Spec PyProof.Rows L2
section
variable {K : PySem.W.Frag} {ms : List Addr} {ps : List PEn} {H0 H : Hp} {L : Addr} {u : V}
end
end Rx
namespace Rx
open PySem PySem.Spec PyProof.Rows L2
section
variable {X : Cx}
def tFmtD (K : PySem.W.Frag) (te : TE) : TE := fun σ H Q => te σ H fun x H1 => ∃ (a : Addr) (d : PyData), x = .ref a ∧ Dp K H1 (.ref a) d ∧ d.showable = true ∧ d.hasDict = false ∧ d.depth ≤ 60 ∧ d.shown.length ≤ sizeLine ∧ Q (.str d.shown) H1
theorem pe_fmtD {e : PySem.Expr} {te : TE} {pos : Pos} {k : Nat} {K : PySem.W.Frag} (hK : X.K = K) (gu : X.A.guards = some []) (hr : Room k X.A) (he : PE X e te) : PE X (.FormattedValue e (-1) none pos) (tFmtD K te) := by
  subst hK
  refine ⟨fun pins s σ H Q I h => ?_⟩
  refine wpAny_FormattedValue_plain (thn (he.run pins s σ H _ I h) fun v s1 hv => ?_)
  obtain ⟨x, H1, I1, r1, a, d, rfl, dp, sh, nd, dep, len, q⟩ := hv
  cases r1
  obtain ⟨as, rd⟩ := Dp.reads I1 d _ _ dp rfl
  have un := hr.un
  refine formatField_of_reads (h₀ := s1.heap) rd sh (fun z => by rw [nd] at z; cases z) gu (by omega) (fun _ _ h => h) (fun h' u tk keep => ?_) len
  exact ⟨.str d.shown, H1, I1.kept keep, ⟨u, rfl⟩, q⟩
theorem rep_fmtD {K : PySem.W.Frag} {ms : List Addr} {H : Hp} {d : D} {x : V} {P : PyData → Prop} (h : rep ms H d x) (hx : ∃ a, x = .ref a) (g : plainD d = true ∧ (pyOf d).showable = true ∧ (pyOf d).hasDict = false ∧ (pyOf d).depth ≤ 60 ∧ (pyOf d).shown.length ≤ sizeLine) (q : P (pyOf d)) :
    ∃ (a : Addr) (d : PyData), x = .ref a ∧ Dp K H (.ref a) d ∧ d.showable = true ∧ d.hasDict = false ∧ d.depth ≤ 60 ∧ d.shown.length ≤ sizeLine ∧ P d := by
  obtain ⟨a, rfl⟩ := hx
  exact ⟨a, _, rfl, dp_of (K := K) d _ g.1 h, g.2.1, g.2.2.1, g.2.2.2.1, g.2.2.2.2, q⟩
theorem rep_refL {ms : List Addr} {H : Hp} {ds : List D} {x : V} (h : rep ms H (.lst ds) x) : ∃ a, x = .ref a := by
  simp only [rep] at h
  obtain ⟨p, vs, e, _⟩ := h
  exact ⟨p, e⟩
variable {n : Nat} {C f : Addr} {fd : FuncData} {ps : List Str} {sp : Sp}
theorem ownTextG_run (F : FnG X.prog X.w X.K X.mg X.base n f fd ps sp) {A : Around} (hg : A.guards = some []) (hr : Room n A) (hb : Binds X.K fd ps []) {pins : List (Addr × Obj)} {σ : L2.St} {H : Hp} {s : Shared} {a : Addr} {Q : VK} (I : Inv X pins σ H s)
    (en : Env0 X.prog X.w X.K X.mg X.base A X.stack s H) (h : sp [.ref a] H (fun v H' => ∃ z : Str, v = .str z ∧ Q v H') E0) : wpAny (model X.prog X.w) A (call (.ref f) [.ref a]) (PySem.W.StrBack (EP X pins σ Q)) X.xe s := by
  have hl := F.len _ _ _ _ h
  have bt := hb s [.ref a] I.kIn (by rw [List.append_nil]; exact hl)
  rw [List.append_nil] at bt
  refine wpAny_call (codeAny_mono (F.run A hg hr X.stack s H ⟨[.ref a], []⟩ [.ref a] [.ref a] _ E0 en bt (.cons rfl .nil) h) fun out s' hq => ?_)
  rcases out with err | fl
  · exact pass0 pins σ H s err s' I hq
  · rcases fl with _ | _ | _ | u
    · exact hq.elim
    · exact hq.elim
    · exact hq.elim
    · obtain ⟨v, H', I', rv, z, ez, q⟩ := I.after hq
      subst ez
      obtain ⟨t, rfl⟩ := rv
      exact ⟨.str z, H', I', ⟨t, rfl⟩, q⟩
theorem call_reprOwnG (F : FnG X.prog X.w X.K X.mg X.base n f fd ps sp) (gu : X.A.guards = some []) (hr : Room (n + 1) X.A) (o : OwnText X.K C "__repr__" f) (hb : Binds X.K fd ps []) : CallR X (.builtin "repr") (rOwnText C sp E0) := by
  intro pins s σ H xs us Q I r h
  obtain ⟨x, a, dx, fs, rfl, rfl, ha, hsp⟩ := h
  obtain ⟨u, rfl, ru⟩ := r.one
  cases ru
  obtain ⟨mA, J, _⟩ := ins_get I.hok ha
  obtain ⟨od, J, _⟩ := J.look
  obtain ⟨m, hF⟩ := I.fr
  exact PySem.W.repr_K hr.in1.units0 hF I.ok.mod.kin J o.hs o.hf (ownTextG_run (A := X.A.in1) F (show X.A.in1.guards = some [] from gu) hr.in1 hb I I.env0.in1 hsp)
end
end Rx
namespace PySem
open Sem (wp)
open AutoSeq1 (wpAny_loadPart')
theorem meets_enum_tup (t : Addr) (items : Array Value) :
    Meets (Builtin.«enumerate.__new__» ⟨[.type "enumerate", .ref t], []⟩) (fun _ R s => s.heap.IsTuple t items ∧
      R (.ok (.ret (.ref (s.heap.push { cls := .type "tuple_iterator", data := .fields #[.ref t, .int 0 0] }).objs.size)))
        { s with heap := (s.heap.push { cls := .type "tuple_iterator", data := .fields #[.ref t, .int 0 0] }).push { cls := .type "enumerate", data := .fields #[.none, .bool false, .ref s.heap.objs.size, rawInt 0, .none, .none] } }) :=
  .of_wp fun prog w A R s h => by
    obtain ⟨hp, g, d, tk, os⟩ := s; obtain ⟨h1, h⟩ := h
    have hsub := sub_enumerate
    have q1 : ∀ {A' : Around} {E : Value → Shared → Prop} {Q : Value → Shared → Prop}, Q (.ref hp.objs.size) ⟨hp.push { cls := .type "tuple_iterator", data := .fields #[.ref t, .int 0 0] }, g, d, tk, os⟩ → wpAny (model prog w) A' (pyIter (.ref t)) Q E ⟨hp, g, d, tk, os⟩ :=
      fun q => (begins_tuple t items).iter prog w _ _ ⟨hp, g, d, tk, os⟩ _ h1 q
    wp_walk using q1
    refine wpAny_stack_any fun st => wpAny_pure ?_
    split
    · rename_i c _ _ _ _ _
      cases (c == Value.type "enumerate")
      · wp_walk using q1
        exact ⟨_, rfl, h⟩
      · wp_walk using q1
        exact ⟨_, rfl, h⟩
    · wp_walk using q1
      exact ⟨_, rfl, h⟩
section
variable {prog : Program} {w : World} {A : Around} {E : Value → Shared → Prop} {s : Shared}
theorem call_enum_tup {t : Addr} {items : Array Value} {Q : Value → Shared → Prop} (hL : s.heap.IsTuple t items)
    (h : ∀ h', IsEnum h' (s.heap.objs.size + 1) s.heap.objs.size 0 .none → h'.IsTupleIter s.heap.objs.size t 0 → h'.objs.size = s.heap.objs.size + 2 →
      (∀ b o, s.heap.get? b = some o → h'.get? b = some o) → Q (.ref (s.heap.objs.size + 1)) { s with heap := h' }) :
    wpAny (model prog w) A (call (.type "enumerate") [.ref t]) Q E s := by
  refine callType_new F.called_enumerate (by decide) (F.typeCall_enumerate_1 _) (F.newCall_enumerate_1 _) (fun obj => F.args_object_init_2 obj _) F.entry_enumerate_new
    (meets_enum_tup t items) ⟨hL, ?_⟩
  have hz : (s.heap.push { cls := .type "tuple_iterator", data := .fields #[.ref t, .int 0 0] }).objs.size = s.heap.objs.size + 1 := Heap.size_push ..
  show _ ∧ _
  rw [hz]
  have he : IsEnum ((s.heap.push { cls := .type "tuple_iterator", data := .fields #[.ref t, .int 0 0] }).push
      { cls := .type "enumerate", data := .fields #[.none, .bool false, .ref s.heap.objs.size, rawInt 0, .none, .none] }) (s.heap.objs.size + 1) s.heap.objs.size 0 .none := by
    have := Heap.get?_push_size (s.heap.push { cls := .type "tuple_iterator", data := .fields #[.ref t, .int 0 0] })
      (o := { cls := .type "enumerate", data := .fields #[.none, .bool false, .ref s.heap.objs.size, rawInt 0, .none, .none] }) rfl
    rw [hz] at this; exact this
  refine ⟨⟨_, he, rfl⟩, h _ he ⟨_, Heap.get?_push_of_some _ (Heap.get?_push_size _ rfl), rfl, rfl⟩ (by rw [Heap.size_push, hz]) fun b o x => Heap.get?_push_of_some _ (Heap.get?_push_of_some _ x)⟩
end
end PySem
namespace Rx
open PySem PySem.Spec PyProof.Rows L2
def IteT (K : PySem.W.Frag) (a : Addr) : It :=
  ⟨fun i H => ∃ (xs : List V) (x : V), SqT K H a xs ∧ xs[i]? = some x, fun i H v H' => ∃ T x, v = .ref T ∧ H T = none ∧ H' = upd H T (.tup [.int (i : Nat), x]) ∧ ∀ xs, SqT K H a xs → xs[i]? = some x, fun i H => ∃ xs : List V, SqT K H a xs ∧ xs.length ≤ i⟩
theorem turn_enumT {P : Program} {w : World} {K : PySem.W.Frag} {elts : List Expr} {kk : Nat} {tpos : Pos} (a e it : Addr) (hei : e ≠ it) (hai : a ≠ it) :
    L2.Turn P w K (.Tuple elts kk tpos) (IteT K a) [e, it] e (fun i h => (∃ old, IsEnum h e it ((i : Nat) : Int) old) ∧ h.IsTupleIter it a i) where
  mem := by simp
  obj := fun i h st b hb => by
    obtain ⟨⟨old, he⟩, ⟨o, ho, hc, hd⟩⟩ := st
    have e' : b = e ∨ b = it := by simpa using hb
    rcases e' with z | z
    · rw [z]; exact ⟨_, he, fun v q => nomatch q⟩
    · rw [z]; exact ⟨o, ho, fun v q => by rw [hd] at q; cases q⟩
  keep := fun i h h' st k => let ⟨⟨old, he⟩, hi⟩ := st; ⟨⟨old, k e (by simp) _ he⟩, hi.at fun o q => k it (by simp) o q⟩
  item := by
    intro X hP hw hK hc i pins s σ H E I hf st hg
    subst hP hw hK
    obtain ⟨⟨old, he⟩, hit⟩ := st
    obtain ⟨xs, x, hq, hx⟩ := hg
    obtain ⟨its, rv, p, hz⟩ := I.tuple hq
    obtain ⟨u, hu, ru⟩ := rv.get hx
    have hel : e < s.heap.objs.size := Heap.lt_size he
    have hil : it < s.heap.objs.size := by obtain ⟨_, q, _⟩ := hit; exact Heap.lt_size q
    have hea : e ≠ a := fun z => by
      obtain ⟨o, ho, hc', _⟩ := p
      rw [← z, he] at ho
      cases ho
      simp at hc'
    refine wpAny_pyNext_enum_itemD (Draws.tuple (A := X.A.in1) (I.ok.hd hc) it a hai its.toArray) he ⟨hit, p⟩ (by
      have := rv.length
      have := (List.getElem?_eq_some_iff.mp hx).1
      rw [List.size_toArray]
      omega) hei (by simp [hei, hea]) fun y h' tk hP ho hit' hT hsz hk => ?_
    have ey : y = u := by
      have h1 : its[i]? = some y := by simpa using hP
      rw [hu] at h1
      exact (Option.some.inj h1).symm
    subst ey
    refine ⟨_, rfl, wpAny_letOwnedTupleGo_enum (s := { s with heap := h', toks := tk + 1 }) ho fun h'' he' sb => ?_⟩
    have hT2 : h''.get? s.heap.objs.size = some { cls := .type "tuple", data := .seq #[.int i tk, y] } := (sb.2 _ (Nat.ne_of_gt hel)).trans hT
    have new : ObjOk X.prog X.w (upd H s.heap.objs.size (.tup [.int (i : Nat), x])) h'' s.heap.objs.size (.tup [.int (i : Nat), x]) :=
      ⟨by show 2 ≤ sizeLine; decide, [.int i tk, y], .cons ⟨_, rfl⟩ (.cons ru .nil), ⟨_, hT2, rfl, _, rfl⟩⟩
    have I1 : Inv X pins σ (upd H s.heap.objs.size (.tup [.int (i : Nat), x])) { s with heap := h'', toks := tk + 1 } :=
      I.turnedNew (ch := [e, it]) (fun b ob hb q => (sb.2 b (fun z => hb (by simp [z]))).trans (hk b ob (fun z => hb (by simp [z])) (fun z => hb (by simp [z])) q)) hf (Nat.le_refl _) new
    refine ⟨.ref s.heap.objs.size, _, I1, rfl, ⟨_, x, rfl, I.hok.fresh (Nat.le_refl _), rfl, fun ys hy => by rw [I.tuple_inj hy hq]; exact hx⟩, ⟨⟨y, ?_⟩, hit'.1.at fun o q => (sb.2 it (Ne.symm hei)).trans q⟩, fun b hb => ?_⟩
    · have e1 : ((i + 1 : Nat) : Int) = (i : Int) + 1 := by omega
      rw [e1]; exact he'
    · have hb' : b < s.heap.objs.size := by
        have e' : b = e ∨ b = it := by simpa using hb
        rcases e' with z | z
        · rw [z]; exact hel
        · rw [z]; exact hil
      rw [upd_ne (Nat.ne_of_lt hb')]
      exact (hf b hb).1
  done := by
    intro X hP hw hK hc i pins s σ H E I hf st hg
    subst hP hw hK
    obtain ⟨⟨old, he⟩, hit⟩ := st
    obtain ⟨xs, hq, hx⟩ := hg
    obtain ⟨its, rv, p, hz⟩ := I.tuple hq
    obtain ⟨f0, f1, f2, f3, f4, f5⟩ := hf it (by simp)
    have hl := rv.length
    have D : Draws X.prog X.w X.A.in1 it [it, a] i (fun i v => its.toArray[i]? = some v) (fun j h => j = i ∧ h.IsTupleIter it a i ∧ h.IsTuple a its.toArray) := {
      live := fun _ _ st => let ⟨o, ho, _⟩ := st.2.1; ⟨o, ho⟩
      frame := fun _ _ _ st hk => ⟨st.1, st.2.1.at fun o e => hk it (by simp) o e, st.2.2.at fun o e => hk a (by simp) o e⟩
      item := fun j s Q E hj st hQ => absurd hj (by rw [st.1]; exact Nat.lt_irrefl _)
      done := fun s Q E st hE => wpAny_nextOf_tuple_end (I.ok.hd hc) st.2.1 st.2.2 (by simp; omega) hE }
    refine wpAny_pyNext_enum_endD D he ⟨rfl, hit, p⟩ fun h' eb => ?_
    exact ⟨rfl, I.turned (t' := s.toks) (fun b o hb q => eb b o hb q) f0 f1 f3 f4 f5⟩
  self := fun A i s Q E st h => let ⟨⟨_, he⟩, _⟩ := st; wpAny_pyIter_enum he h
section
variable {K : PySem.W.Frag} {a : Addr} {xs : List V}
theorem walk_enumT : L2.Walk (IteT K a) xs.length (fun H => SqT K H a xs) (YPair (fun i => some (.int (i : Nat))) (fun i => xs[i]?)) := by
  refine ⟨fun i _ hi q => ⟨xs, xs[i], q, by simp [hi]⟩, fun _ q => ⟨xs, q, Nat.le_refl _⟩, fun i H v H' _ q y => ?_⟩
  obtain ⟨T, x, h1, h2, h3, h4⟩ := y
  exact ⟨T, .int (i : Nat), x, h1, h2, h3, rfl, h4 xs q⟩
end
section
variable {α S : Type} {K : PySem.W.Frag} {H1 : Hp} {g : TG} {tb : TS} {D' : Ends} {σ : L2.St}
end
section
variable {K : PySem.W.Frag} {ms : List Addr} {ps : List PEn} {H0 H : Hp} {x : V}
end
def tFS (ts : List TE) : TE := fun σ H Q => tJs ts Str.empty σ H fun out H1 => Q (.str out) H1
theorem pe_joinedF {X : Cx} {v1 v2 : PySem.Expr} {rest : List PySem.Expr} {ts : List TE} {pos : Pos} (h : PJ X (v1 :: v2 :: rest) ts) : PE X (.JoinedStr (v1 :: v2 :: rest) pos) (tFS ts) := pe_joined h
theorem cr_sumK {X : Cx} {K : PySem.W.Frag} (hK : X.K = K) (hc : X.calm = true) : CallR X (.builtin "sum") (rSum K) := by
  subst hK
  exact cr_sum hc
theorem rep_sumL {ms : List Addr} {H : Hp} {K : PySem.W.Frag} {ns : List Int} {x : V} {P : List Int → Prop} (h : rep ms H (.lst (ns.map (fun y_ : Int => D.v (V.int y_)))) x) (q : P ns) : ∃ (a : Addr) (ns : List Int), [x] = [V.ref a] ∧ SqL K H a (ns.map V.int) ∧ P ns := by
  simp only [rep] at h
  obtain ⟨p, vs, e, _, hp, hr⟩ := h
  have ev := repL_ints hr
  subst ev e
  exact ⟨p, ns, rfl, .inl (.inl hp), q⟩
end Rx
namespace Rx
open PySem PySem.Spec PyProof.Rows L2
section
variable {K : PySem.W.Frag} {ms ms' : List Addr} {ps : List PEn} {H0 H H' H1 : Hp} {L L' : Addr} {d d' : D} {ds : List D} {u x : V} {vs : List V}
end
section
variable {K : PySem.W.Frag} {X : Cx} {o : PySem.Expr} {to : TE} {name : Str} {apos cpos : Pos} {T id : String} {r : V → List V → Hp → VK → Prop}
end
section
variable {K : PySem.W.Frag} {X : Cx} {C g : Addr} {CX : CXT} {k : Nat} {sp : Sp} {E : XK} {fe e : PySem.Expr} {es : List PySem.Expr} {tf : TE} {t : TA} {pos : Pos} {fd : FuncData} {ps : List Str}
end
end Rx
namespace PySem.W
open Lean Elab Tactic Meta PySem PySem.Calls PyProof.Rows
section
variable {prog : Program} {w : World} {A : Around} {E : Value → Shared → Prop} {s : Shared} {K : Frag} {x y C L f : Addr} {h₀ : Heap} {m : Str → Option Value} {ox oy : Obj} {od oe : Option Obj}
end
end PySem.W
namespace Rx
open PySem PySem.Spec PyProof.Rows L2
structure OwnBin (K : PySem.W.Frag) (C : Addr) (op : Operator) (f : Addr) : Prop where
  first : PySem.W.selfFirst K C = true
  hs : PySem.W.findIn K (.ref C) (PySem.dunder op.info.2) = some (some (.ref f))
  hf : PySem.W.isFn K (.ref f) = true
structure OwnBinT (K : PySem.W.Frag) (C : Addr) (op : Operator) (f : Addr) : Prop extends OwnBin K C op f where
  hr : ∃ rc : Option Value, PySem.W.findIn K (.ref C) (dunderR op.info.2) = some rc ∧ (rc = none ∨ ∃ g : Addr, rc = some (.ref g))
  i1 : ∃ fo : Option Value, PySem.W.findIn K (.type "int") (PySem.dunder op.info.2) = some fo
  i2 : ∃ ro : Option Value, PySem.W.findIn K (.type "int") (dunderR op.info.2) = some ro
section
variable {α γ β : Type} {K : PySem.W.Frag} {H1 : Hp} {g : TG} {tt : TT} {te : TE} {vl : List Nat} {σ : L2.St} {Qd : Hp → Prop} {L : Addr}
end
end Rx
namespace Rx
open PySem PySem.Spec PyProof.Rows L2
section
variable {K : PySem.W.Frag} {ms ms' : List Addr} {ps : List PEn} {H0 H H' H1 : Hp} {L L' : Addr} {d d' : D} {ds : List D} {u x : V} {vs : List V}
end
end Rx
namespace Rx
open PySem PySem.Spec PyProof.Rows L2
end Rx
namespace Rx
open PySem PySem.Spec PyProof.Rows L2
theorem wipe_get (σ : L2.St) : ∀ (vl : List Nat) (j : Nat), (L2.wipe σ vl)[j]? = if j ∈ vl then (if j < σ.length then some none else none) else σ[j]?
  | [], j => by simp [L2.wipe]
  | v :: vs, j => by
    show ((L2.wipe σ vs).set v none)[j]? = _
    rw [List.getElem?_set, L2.wipe_length, wipe_get σ vs j]
    by_cases h : v = j
    · subst h
      simp
    · have h' : ¬ j = v := fun z => h z.symm
      simp [h, h']
theorem wipe_set {σ : L2.St} {vl : List Nat} {i : Nat} {x : Option V} (h : i ∈ vl) : L2.wipe (List.set σ i x) vl = L2.wipe σ vl := by
  apply List.ext_getElem?
  intro j
  rw [wipe_get, wipe_get, List.length_set, List.getElem?_set]
  by_cases c : j ∈ vl
  · rw [if_pos c, if_pos c]
  · have n : ¬ i = j := fun z => c (by rw [← z]; exact h)
    simp [c, n]
theorem wipe_idem {σ : L2.St} {vl : List Nat} : L2.wipe (L2.wipe σ vl) vl = L2.wipe σ vl := by
  apply List.ext_getElem?
  intro j
  rw [wipe_get, L2.wipe_length, wipe_get]
  by_cases c : j ∈ vl <;> simp [c]
end Rx
namespace Rx
open PySem PySem.Spec PyProof.Rows L2
end Rx
namespace PySem.W
open Lean Elab Tactic Meta PySem PySem.Calls PyProof.Rows
section
variable {prog : Program} {w : World} {M : Model} {A : Around} {E : Value → Shared → Prop} {s : Shared} {K : Frag} {y C L f g : Addr} {h₀ : Heap} {m : Str → Option Value} {oy : Obj} {oe : Option Obj} {n : Int} {t : Tok}
end
end PySem.W
namespace Rx
open PySem PySem.Spec PyProof.Rows L2 RZ
structure OwnNeg (K : PySem.W.Frag) (C f : Addr) : Prop where
  hs : PySem.W.findIn K (.ref C) "__neg__" = some (some (.ref f))
  hf : PySem.W.isFn K (.ref f) = true
structure OwnBinR (K : PySem.W.Frag) (C : Addr) (op : Operator) (g : Addr) : Prop where
  first : PySem.W.selfFirst K C = true
  hs : ∃ f : Addr, PySem.W.findIn K (.ref C) (PySem.dunder op.info.2) = some (some (.ref f))
  hr : PySem.W.findIn K (.ref C) (dunderR op.info.2) = some (some (.ref g))
  hg : PySem.W.isFn K (.ref g) = true
  hsub : PySem.W.subIn K (.ref C) (.type "int") = some false
section
variable {α γ β S : Type}
def PairIt (ms : List Addr) (H1 : Hp) (J : It) (items : List (α × γ)) (e : α → D) (e2 : γ → D) : Prop :=
  ∃ (p q : Nat → Option V) (G : Hp → Prop), L2.Walk J items.length G (YPair p q) ∧ (∀ H, Keep ms H1 H → G H) ∧
    ∀ (i : Nat) (x1 x2 : V) (H : Hp) (h : i < items.length), Keep ms H1 H → p i = some x1 → q i = some x2 → rep ms H (e items[i].1) x1 ∧ rep ms H (e2 items[i].2) x2
theorem repL_at {ms : List Addr} {H : Hp} {items : List α} {e : α → D} {xs : List V} {i : Nat} {x : V} (hx : repL ms H (items.map e) xs) (h : i < items.length) (hi : xs[i]? = some x) : rep ms H (e items[i]) x := by
  obtain ⟨v, hv, rv⟩ := repL_get hx (j := i) (d := e items[i]) (by rw [List.getElem?_map, List.getElem?_eq_getElem h]; rfl)
  rw [hi] at hv
  cases hv
  exact rv
theorem enum_at {items : List γ} {i : Nat} (h : i < ((rangeI 0 (items.length : Int)).zip items).length) (h2 : i < items.length) : ((rangeI 0 (items.length : Int)).zip items)[i] = ((i : Int), items[i]) := by
  have hz : ((rangeI 0 (items.length : Int)).zip items)[i]? = some ((i : Int), items[i]) := by
    rw [List.getElem?_zip_eq_some]
    exact ⟨by rw [rangeI_get (by omega)]; congr 1; omega, List.getElem?_eq_getElem h2⟩
  rw [List.getElem?_eq_getElem h] at hz
  exact Option.some.inj hz
theorem enum_len (items : List γ) : ((rangeI 0 (items.length : Int)).zip items).length = items.length := by
  rw [List.length_zip, rangeI_len]
  omega
theorem pair_enum {K : PySem.W.Frag} {ms : List Addr} {H1 : Hp} {items : List γ} {e2 : γ → D} {a : Addr} {xs : List V} (an : a ∉ ms) (ha : H1 a = some (.lst xs)) (hx : repL ms H1 (items.map e2) xs) :
    PairIt ms H1 (Ite K a) ((rangeI 0 (items.length : Int)).zip items) (fun i => .v (.int i)) e2 := by
  have hl : items.length = xs.length := by
    have := repL_len hx
    rwa [List.length_map] at this
  have w := walk_enum (K := K) (a := a) (xs := xs)
  rw [← hl, ← enum_len items] at w
  refine ⟨_, _, _, w, fun H k => .inl (.inl (k a _ an ha)), fun i x1 x2 H h k h1 h2 => ?_⟩
  have l2 : i < items.length := by rwa [enum_len] at h
  rw [enum_at h l2]
  have e1 : V.int (i : Nat) = x1 := Option.some.inj h1
  subst e1
  exact ⟨rep_v, repL_at (repL_keep k hx) l2 h2⟩
theorem pair_enumT {K : PySem.W.Frag} {ms : List Addr} {H1 : Hp} {items : List γ} {e2 : γ → D} {a : Addr} {xs : List V} (an : a ∉ ms) (ha : H1 a = some (.tup xs)) (hx : repL ms H1 (items.map e2) xs) :
    PairIt ms H1 (IteT K a) ((rangeI 0 (items.length : Int)).zip items) (fun i => .v (.int i)) e2 := by
  have hl : items.length = xs.length := by
    have := repL_len hx
    rwa [List.length_map] at this
  have w := walk_enumT (K := K) (a := a) (xs := xs)
  rw [← hl, ← enum_len items] at w
  refine ⟨_, _, _, w, fun H k => .inl (.inl (k a _ an ha)), fun i x1 x2 H h k h1 h2 => ?_⟩
  have l2 : i < items.length := by rwa [enum_len] at h
  rw [enum_at h l2]
  have e1 : V.int (i : Nat) = x1 := Option.some.inj h1
  subst e1
  exact ⟨rep_v, repL_at (repL_keep k hx) l2 h2⟩
theorem nin_new {ms : List Addr} {H1 : Hp} {a L : Addr} {o : HO} (nl : H1 L = none) (an : a ∉ ms) (ha : H1 a = some o) : a ∉ L :: ms := fun z => by
  rcases List.mem_cons.mp z with z | z
  · exact ne_of_none ha nl z
  · exact an z
variable {H1 : Hp} {g : TG} {tt : TT} {te : TE} {vl : List Nat} {σ : L2.St} {Qd : Hp → Prop} {L : Addr} {J : It}
theorem lf_pairG {items : List (α × γ)} {e : α → D} {e2 : γ → D} {ms : List Addr} {body : (α × γ) → (Option β → Prop) → Prop} {KM : List β → Prop} (SI : Nat → List β → Hp → Prop) (P : PairIt (L :: ms) H1 J items e e2)
    (kp : ∀ n ys H, SI n ys H → Keep (L :: ms) H1 H) (tr : ∀ n ys H, SI n ys H → ∀ m ∈ L :: ms, H m ≠ none) (hM : items.length < 100000 ∧ filC body items [] KM) (h0 : SI 0 [] (upd H1 L (.lst [])))
    (hs : ∀ (x : α × γ) (u : V) (n : Nat) (ys : List β) (k : Option β → Prop) (H H2 : Hp), n < 100000 → SI n ys H → Ext H H2 → rep (L :: ms) H2 (.tup [e x.1, e2 x.2]) u → body x k → ∀ Nx : Hp → Prop, (∀ y H', k (some y) → SI (n + 1) (ys ++ [y]) H' → Nx H') → (∀ H', k none → SI (n + 1) ys H' → Nx H') → Turn g tt te vl σ L u H2 Nx)
    (hd : ∀ n ys H, KM ys → SI n ys H → Qd H) :
    ∃ W : Nat → Nat → Hp → Prop, (∃ m, W 0 m (upd H1 L (.lst []))) ∧ ∀ i m H, W i m H →
      (J.stop i H ∧ Qd H) ∨ (J.go i H ∧ ∃ Nx : Hp → Prop, (∀ H', Nx H' → ∃ m', m' < m ∧ W (i + 1) m' H') ∧ ∀ x H', J.yld i H x H' → g x (wipe σ vl) H' fun σ2 H2 => wipe σ2 vl = wipe σ vl ∧ tt σ2 H2 fun b H3 =>
        if b = true then te σ2 H3 fun y H4 => ∃ acc, H4 L = some (.lst acc) ∧ acc.length < sizeLine ∧ Nx (upd H4 L (.lst (acc ++ [y]))) else Nx H3) := by
  obtain ⟨hn, hM⟩ := hM
  obtain ⟨p, q', G, w, hG, hat⟩ := P
  refine ⟨fun i m H => m = items.length - i ∧ i ≤ items.length ∧ ∃ ys, SI i ys H ∧ filC body (items.drop i) ys KM, ⟨_, rfl, Nat.zero_le _, [], h0, hM⟩, ?_⟩
  rintro i m H ⟨rfl, hi', ys, T, q⟩
  have hk := kp i ys H T
  by_cases hlt : i < items.length
  · refine .inr ⟨w.goes i H hlt (hG H hk), fun H' => i + 1 ≤ items.length ∧ ∃ ys, SI (i + 1) ys H' ∧ filC body (items.drop (i + 1)) ys KM, fun H' p' => ⟨_, by omega, rfl, p'⟩, fun x H' y => ?_⟩
    obtain ⟨T', x1, x2, rfl, nT, eH, e1, e3⟩ := w.yields i H x H' hlt (hG H hk) y
    rw [drop_cons' (List.getElem?_eq_getElem hlt)] at q
    obtain ⟨r1, r2⟩ := hat i x1 x2 H hlt hk e1 e3
    exact hs _ _ i ys _ H H' (by omega) T (by rw [eH]; exact Ext.new nT) (rep_pair (tr i ys H T) nT eH r1 r2) q _ (fun y H'' k T' => ⟨hlt, _, T', k⟩) fun H'' k T' => ⟨hlt, _, T', k⟩
  · have ei : i = items.length := by omega
    refine .inl ⟨by rw [ei]; exact w.stops H (hG H hk), ?_⟩
    rw [List.drop_of_length_le (by omega)] at q
    exact hd _ ys H q T
variable {tb : TS} {D' : Ends}
theorem for_pairG {items : List (α × γ)} {e : α → D} {e2 : γ → D} {ms : List Addr} {body : (α × γ) → S → (S → Prop) → Prop} {KM : S → Prop} (SI : S → L2.St → Hp → Prop) (s0 : S) (P : PairIt ms H1 J items e e2)
    (kp : ∀ s σ H, SI s σ H → Keep ms H1 H) (tr : ∀ s σ H, SI s σ H → ∀ m ∈ ms, H m ≠ none) (hM : forC body items s0 KM) (h0 : SI s0 σ H1)
    (hs : ∀ (x : α × γ) (u : V) (s : S) (k : S → Prop) (σ : L2.St) (H H2 : Hp), SI s σ H → Ext H H2 → rep ms H2 (.tup [e x.1, e2 x.2]) u → body x s k → ∀ Nx : L2.St → Hp → Prop, (∀ s' σ' H', k s' → SI s' σ' H' → Nx σ' H') →
      g u σ H2 fun σ2 H2 => tb { D' with nx := Nx, ct := Nx, bk := D'.nx } σ2 H2)
    (hd : ∀ s σ H, KM s → SI s σ H → D'.nx σ H) :
    ∃ W : Nat → Nat → L2.St → Hp → Prop, (∃ m, W 0 m σ H1) ∧ ∀ i m σ H, W i m σ H →
      (J.stop i H ∧ D'.nx σ H) ∨ (J.go i H ∧ ∃ Nx : L2.St → Hp → Prop, (∀ σ' H', Nx σ' H' → ∃ m', m' < m ∧ W (i + 1) m' σ' H') ∧ ∀ x H', J.yld i H x H' → g x σ H' fun σ2 H2 => tb { D' with nx := Nx, ct := Nx, bk := D'.nx } σ2 H2) := by
  obtain ⟨p, q', G, w, hG, hat⟩ := P
  refine L2.for_it w (D := D') (fun i σ H => ∃ s, SI s σ H ∧ forC body (items.drop i) s KM) ⟨s0, h0, hM⟩ (fun i σ H _ ⟨s, si, _⟩ => hG H (kp s σ H si)) (fun i u σ H H' hi ⟨s, si, q⟩ y => ?_) (fun σ H ⟨s, si, q⟩ => ?_)
  · obtain ⟨T, x1, x2, rfl, nT, eH, e1, e3⟩ := y
    have hk := kp s σ H si
    rw [drop_cons' (List.getElem?_eq_getElem hi)] at q
    obtain ⟨r1, r2⟩ := hat i x1 x2 H hi hk e1 e3
    exact hs _ (.ref T) s _ σ H H' si (by rw [eH]; exact Ext.new nT) (rep_pair (tr s σ H si) nT eH r1 r2) q _ fun s' σ' H'' hk si2 => ⟨s', si2, hk⟩
  · rw [List.drop_of_length_le (by omega)] at q
    exact hd s σ H q si
end
end Rx
namespace PySem.W
open PySem PySem.Calls PyProof.Rows Builtin
section
variable {prog : Program} {w : World} {A : Around} {E : Value → Shared → Prop} {s : Shared} {K : Frag} {x C L f : Addr} {h₀ : Heap} {m : Str → Option Value} {ox : Obj} {od : Option Obj}
end
end PySem.W
namespace Rx
open PySem PySem.Spec PyProof.Rows L2
abbrev GL (a : Addr) (rest : List Value) : List Code := [.builtin "list.__repr__.loop" ⟨.ref a :: rest, []⟩]
structure FnQ (P : Program) (w : World) (K : PySem.W.Frag) (mg : Str → Option Value) (base : Heap) (k : Nat) (f : Addr) (fd : FuncData) (ps : List Str) (sp : Addr → Sp) : Prop where
  len : ∀ a vs H Q E, sp a vs H Q E → vs.length = ps.length
  run : ∀ (a : Addr) (rest : List Value) (A : Around), A.guards = some (GL a rest) → Room k A → ∀ (outer : List Env) (s : Shared) (H : Hp) (args : Args) (us : List Value) (vs : List V) (Q : VK) (E : XK), Env0 P w K mg base A outer s H → BindsTo s fd args (ps.zip us) → Vals vs us → sp a vs H Q E →
    codeAny (model P w) A (.call (.ref f) args) (CR CX0 outer P w H s Q E) s
theorem FnQ.mono {P : Program} {w : World} {K : PySem.W.Frag} {mg : Str → Option Value} {base : Heap} {j k : Nat} {f : Addr} {fd : FuncData} {ps : List Str} {sp : Addr → Sp} (F : FnQ P w K mg base j f fd ps sp) (h : j ≤ k) : FnQ P w K mg base k f fd ps sp :=
  ⟨F.len, fun a rest A gu hr => F.run a rest A gu (hr.mono h)⟩
section
variable {P : Program} {w : World} {K : PySem.W.Frag} {mg : Str → Option Value} {base : Heap}
end
def NoRd (H : Hp) (a : Addr) : Prop := ∃ vs b C dx fs, H a = some (.lst vs) ∧ V.ref b ∈ vs ∧ H b = some (.ins C dx fs)
theorem NoRd.ext {H H' : Hp} {a : Addr} (h : NoRd H a) (e : Ret [] H H') : NoRd H' a := by
  obtain ⟨vs, b, C, dx, fs, h1, h2, h3⟩ := h
  exact ⟨vs, b, C, dx, fs, e.keep h1, h2, e.keep h3⟩
section
variable {X : Cx} {pins : List (Addr × Obj)} {σ : L2.St} {H : Hp} {s : Shared}
end
section
variable {X : Cx}
end
section
variable {X : Cx} {n : Nat} {C f : Addr} {fd : FuncData} {ps : List Str} {sp : Addr → Sp}
end
section
variable {α : Type} {e : α → D} {C : Addr} {ns : List Str} {ms : List Addr} {H : Hp} {M : α → (Str → Prop) → Prop} {sp : Addr → Sp} {Q : VK} {KM : List Str → Prop}
end
end Rx
namespace PySem.W
open Lean Elab Tactic Meta PySem PySem.Calls PyProof.Rows
section
variable {prog : Program} {w : World} {A : Around} {E : Value → Shared → Prop} {s : Shared} {K : Frag} {x y C L f : Addr} {h₀ : Heap} {m : Str → Option Value} {ox oy : Obj} {od oe : Option Obj}
end
end PySem.W
namespace Rx
open PySem PySem.Spec PyProof.Rows L2
structure OwnIn (K : PySem.W.Frag) (C : Addr) (op : Operator) (f : Addr) : Prop extends OwnBin K C op f where
  mro : ∃ cd, PySem.W.clsIn K C = some cd ∧ cd.mro = [.ref C, .type "object"]
  hi : PySem.W.findIn K (.ref C) (dunderI op.info.2) = some none
structure SMet (K : PySem.W.Frag) (C : Addr) (m : Str) (g : Addr) : Prop where
  mc : ∃ mc, ClX.CRead K C mc ∧ ∃ p, PySem.W.findCls K (.ref C) mc m = some (.get (.builtin "staticmethod.__get__") (.ref p) .none (.ref C)) ∧ ∃ rest, PySem.W.recIn K p "staticmethod" = some (.ref g :: rest)
section
variable {X : Cx} {CX : CXT} {k : Nat} {C g : Addr} {fd : FuncData} {ps : List Str} {sp : Sp} {E : XK} {o e : Expr} {es : List Expr} {m : Str} {pos apos : Pos} {ta : TE} {t : TA}
end
end Rx
namespace Rx
open PySem PySem.Spec PyProof.Rows L2
def Apart (d e : D) : Prop := ∀ (ms ms' : List Addr) (H : Hp) (u : V), rep ms H d u → rep ms' H e u → False
def flatV : V → Bool
  | .ref _ => false
  | _ => true
section
variable {x : V} {ds es : List D} {C C' : Addr} {ns ns' : List Str}
theorem Apart.symm {d e : D} (h : Apart d e) : Apart e d := fun ms ms' H u a b => h ms' ms H u b a
theorem ap_tl : Apart (.tup ds) (.lst es) := fun ms ms' H u a b => by
  simp only [rep] at a b
  obtain ⟨p, _, rfl, _, h, _⟩ := a
  obtain ⟨p', _, e, _, h', _⟩ := b
  cases e
  rw [h] at h'
  cases h'
theorem ap_ll {α β : Type} {f : α → D} {g : β → D} {xs : List α} {ys : List β} (hy : 0 < ys.length) (h : ∀ x y, Apart (f x) (g y)) : Apart (.lst (xs.map f)) (.lst (ys.map g)) := fun ms ms' H u a b => by
  simp only [rep] at a b
  obtain ⟨p, vs, rfl, _, h1, r1⟩ := a
  obtain ⟨p', vs', e', _, h2, r2⟩ := b
  cases e'
  rw [h1] at h2
  cases h2
  cases ys with
  | nil => exact absurd hy (Nat.lt_irrefl _)
  | cons y ys =>
    obtain ⟨u, us, rfl, q2, _⟩ := repL_uncons r2
    cases xs with
    | nil =>
      have := repL_empty r1
      cases this
    | cons x xs =>
      obtain ⟨u', us', e, q1, _⟩ := repL_uncons r1
      cases e
      exact h x y _ _ _ _ q1 q2
end
mutual
/-- no list within d can be the one that tells e -/
def ApIn (e : D) : D → Prop
  | .v _ => True
  | .lst ds => Apart (.lst ds) e ∧ ApIns e ds
  | .tup ds => ApIns e ds
  | .ins _ _ ds => ApIns e ds
  | .dct _ _ => False
  | .dcT _ _ => False
def ApIns (e : D) : List D → Prop
  | [] => True
  | d :: ds => ApIn e d ∧ ApIns e ds
end
theorem apIns_map {α : Type} {e : D} {f : α → D} (h : ∀ x, ApIn e (f x)) : ∀ xs : List α, ApIns e (xs.map f)
  | [] => by simp only [List.map_nil, ApIns]
  | x :: xs => by
    simp only [List.map_cons, ApIns]
    exact ⟨h x, apIns_map h xs⟩
section
variable {ms ms' : List Addr} {ps : List PEn} {H0 H : Hp} {L : Addr} {es : List D}
theorem ne_dr {p : Addr} (dr : Drop ms L ms') (n : p ∉ ms') (q : p ≠ L) : p ∉ ms := fun z => (dr.ex p z).elim n q
mutual
theorem rep_liftA (dr : Drop ms L ms') (m : MutO ms ps H0 H L (.lst es)) : ∀ (d : D) (u : V), ApIn (.lst es) d → rep ms' H d u → rep ms H d u
  | .v x, u, _, h => by
    simp only [rep] at h ⊢
    exact h
  | .lst ds, u, n, h => by
    simp only [ApIn] at n
    have h0 := h
    simp only [rep] at h ⊢
    obtain ⟨p, vs, rfl, np, hp, hl⟩ := h
    refine ⟨p, vs, rfl, ne_dr dr np fun z => ?_, hp, repL_liftA dr m ds vs n.2 hl⟩
    rw [z] at h0
    exact n.1 _ _ _ _ h0 (mo_rep (ms' := []) (by simp) (fun a ha => absurd ha List.not_mem_nil) m)
  | .tup ds, u, n, h => by
    simp only [ApIn] at n
    simp only [rep] at h ⊢
    obtain ⟨p, vs, rfl, np, hp, hl⟩ := h
    refine ⟨p, vs, rfl, ne_dr dr np fun z => ?_, hp, repL_liftA dr m ds vs n hl⟩
    have := m.isMo
    rw [← z, hp] at this
    exact this
  | .ins C ns ds, u, n, h => by
    simp only [ApIn] at n
    simp only [rep] at h ⊢
    obtain ⟨p, dx, vs, rfl, np, hp, hn, hl⟩ := h
    refine ⟨p, dx, vs, rfl, ne_dr dr np fun z => ?_, hp, hn, repL_liftA dr m ds vs n hl⟩
    have := m.isMo
    rw [← z, hp] at this
    exact this
  | .dct _ ds, u, n, h => by
    simp only [ApIn] at n
  | .dcT _ ds, u, n, h => by
    simp only [ApIn] at n
theorem repL_liftA (dr : Drop ms L ms') (m : MutO ms ps H0 H L (.lst es)) : ∀ (ds : List D) (us : List V), ApIns (.lst es) ds → repL ms' H ds us → repL ms H ds us
  | [], us, _, h => by
    simp only [repL] at h ⊢
    exact h
  | d :: ds, us, n, h => by
    simp only [ApIns] at n
    simp only [repL] at h ⊢
    obtain ⟨u, ws, e, h1, h2⟩ := h
    exact ⟨u, ws, e, rep_liftA dr m d u n.1 h1, repL_liftA dr m ds ws n.2 h2⟩
end
end
end Rx
namespace Rx
open PySem PySem.Spec PyProof.Rows L2
end Rx
namespace Rx
open PySem PySem.Spec PyProof.Rows L2
section
variable {e : D} {x : V} {C : Addr} {ns : List Str} {ds : List D}
theorem apIn_v : ApIn e (.v x) := by simp only [ApIn]
theorem apIn_l {α : Type} {f : α → D} {xs : List α} (h1 : Apart (.lst (xs.map f)) e) (h2 : ∀ x, ApIn e (f x)) : ApIn e (.lst (xs.map f)) := by
  simp only [ApIn]
  exact ⟨h1, apIns_map h2 xs⟩
theorem apIn_t (h : ApIns e ds) : ApIn e (.tup ds) := by
  simp only [ApIn]
  exact h
theorem apIns_nil : ApIns e [] := by simp only [ApIns]
theorem apIns_cons {d : D} (h : ApIn e d) (h2 : ApIns e ds) : ApIns e (d :: ds) := by
  simp only [ApIns]
  exact ⟨h, h2⟩
end
end Rx
namespace Rx
open PySem PySem.Spec PyProof.Rows L2
section
variable {α γ β : Type} {K : PySem.W.Frag} {H1 : Hp} {g : TG} {tt : TT} {te : TE} {vl : List Nat} {σ : L2.St} {Qd : Hp → Prop} {L : Addr}
end
end Rx
namespace Rx
open PySem PySem.Spec PyProof.Rows L2
section
variable {α : Type} {K : PySem.W.Frag} {H1 : Hp} {ms : List Addr}
theorem lc2_flat {items : List α} {e : α → D} {f : α → List V} {xs : List V} {a : Addr} {i j : Nat} {σ : L2.St} {Qd : Addr → Hp → Prop}
    (he : ∀ y, e y = D.tup ((f y).map D.v)) (an : a ∉ ms) (ha : H1 a = some (.lst xs)) (hx : repL ms H1 (items.map e) xs) (hz : (items.flatMap f).length ≤ 16777216)
    (hi : i < σ.length) (hj : j < σ.length) (ij : i ≠ j) (q : ∀ L, H1 L = none → Qd L (upd H1 L (.lst (items.flatMap f)))) :
    ∀ D, H1 D = none → ∃ W : Nat → Nat → Hp → Prop, (∃ m, W 0 m (upd H1 D (.lst []))) ∧ ∀ i' m H, W i' m H →
      ((Itl K a).stop i' H ∧ Qd D H) ∨ ((Itl K a).go i' H ∧ ∃ Nx : Hp → Prop, (∀ H', Nx H' → ∃ m', m' < m ∧ W (i' + 1) m' H') ∧ ∀ x H', (Itl K a).yld i' H x H' → gName i x (wipe σ [i, j]) H' fun σ2 H2 => wipe σ2 [i, j] = wipe σ [i, j] ∧ tYes σ2 H2 fun b H3 =>
        if b = true then iTup K (tVar i) σ2 H3 fun J1 H4 => ∃ W1 : Nat → Nat → Hp → Prop, (∃ m, W1 0 m H4) ∧ ∀ j' k H, W1 j' k H →
          (J1.stop j' H ∧ Nx H) ∨ (J1.go j' H ∧ ∃ Nx1 : Hp → Prop, (∀ H', Nx1 H' → ∃ k', k' < k ∧ W1 (j' + 1) k' H') ∧ ∀ x H', J1.yld j' H x H' → gName j x (wipe σ2 [j]) H' fun σ3 H5 => wipe σ3 [j] = wipe σ2 [j] ∧ tYes σ3 H5 fun b H6 =>
            if b = true then tVar j σ3 H6 fun y H7 => ∃ acc, H7 D = some (.lst acc) ∧ acc.length < sizeLine ∧ Nx1 (upd H7 D (.lst (acc ++ [y]))) else Nx1 H6)
        else Nx H3) := by
  intro L nl
  have hl : items.length = xs.length := by
    have := repL_len hx
    rwa [List.length_map] at this
  have aL : a ≠ L := ne_of_none ha nl
  have hx1 : ∀ acc : List V, repL (L :: ms) (upd H1 L (.lst acc)) (items.map e) xs := fun acc => repL_map (fun p o n hp => ⟨fun z => by
    rcases List.mem_cons.mp z with z | z
    · exact ne_of_none hp nl z
    · exact n z, by rw [upd_ne (ne_of_none hp nl)]; exact hp⟩) _ _ hx
  refine ⟨fun i' m H => m = xs.length - i' ∧ i' ≤ xs.length ∧ H = upd H1 L (.lst ((items.take i').flatMap f)), ⟨_, rfl, Nat.zero_le _, rfl⟩, ?_⟩
  rintro i' m H ⟨rfl, hi', rfl⟩
  have hA : (upd H1 L (.lst ((items.take i').flatMap f))) a = some (.lst xs) := by rw [upd_ne aL]; exact ha
  by_cases hlt : i' < xs.length
  · refine .inr ⟨⟨xs, xs[i'], .inl (.inl hA), by simp [hlt]⟩, fun H' => H' = upd H1 L (.lst ((items.take (i' + 1)).flatMap f)), fun H' p' => ⟨_, by omega, rfl, hlt, p'⟩, fun x H' y => ?_⟩
    obtain ⟨e1, y⟩ := y
    subst e1
    have hxi := y xs (.inl (.inl hA))
    have hit : items[i']? = some (items[i']'(by omega)) := List.getElem?_eq_getElem (by omega)
    generalize items[i']'(by omega) = it at hit
    obtain ⟨v, hv, rv⟩ := repL_get (hx1 ((items.take i').flatMap f)) (j := i') (d := e it) (by rw [List.getElem?_map, hit]; rfl)
    rw [hxi] at hv
    obtain rfl : x = v := Option.some.inj hv
    rw [he] at rv
    simp only [rep] at rv
    obtain ⟨b, us, rfl, nb, hb, hr⟩ := rv
    obtain rfl : us = f it := repL_flat.mp hr
    have bL : b ≠ L := fun z => nb (by rw [z]; exact List.mem_cons_self)
    have hb1 : H1 b = some (.tup (f it)) := by rw [upd_ne bL] at hb; exact hb
    have tk : items.take (i' + 1) = items.take i' ++ [it] := by
      rw [List.take_add_one, hit]
      rfl
    have hz1 : ((items.take i').flatMap f).length + (f it).length ≤ 16777216 := by
      have : ((items.take (i' + 1)).flatMap f).length ≤ (items.flatMap f).length := by
        conv => rhs; rw [← List.take_append_drop (i' + 1) items, List.flatMap_append, List.length_append]
        exact Nat.le_add_right _ _
      rw [tk, List.flatMap_append, List.length_append] at this
      simp only [List.flatMap_cons, List.flatMap_nil, List.append_nil] at this
      omega
    have li : i < (wipe σ [i, j]).length := by rw [wipe_length]; exact hi
    show wipe ((wipe σ [i, j]).set i (some (.ref b))) [i, j] = wipe σ [i, j] ∧ _
    refine ⟨by rw [wipe_set (by simp), wipe_idem], ?_⟩
    unfold tYes
    simp only [if_true]
    refine ⟨.ref b, by rw [List.getElem?_set_self li], b, rfl, ⟨f it, .inl (.inl hb)⟩, ?_⟩
    refine ⟨fun j' k H => k = (f it).length - j' ∧ j' ≤ (f it).length ∧ H = upd H1 L (.lst ((items.take i').flatMap f ++ (f it).take j')), ⟨_, rfl, Nat.zero_le _, by simp⟩, ?_⟩
    rintro j' k H ⟨rfl, hj', rfl⟩
    have hB : (upd H1 L (.lst ((items.take i').flatMap f ++ (f it).take j'))) b = some (.tup (f it)) := by rw [upd_ne bL]; exact hb1
    by_cases hlt2 : j' < (f it).length
    · refine .inr ⟨⟨f it, (f it)[j'], .inl (.inl hB), by simp [hlt2]⟩, fun H' => H' = upd H1 L (.lst ((items.take i').flatMap f ++ (f it).take (j' + 1))), fun H' p' => ⟨_, by omega, rfl, hlt2, p'⟩, fun x H' y => ?_⟩
      obtain ⟨e1, y⟩ := y
      subst e1
      have hxj := y (f it) (.inl (.inl hB))
      have lj : j < (wipe ((wipe σ [i, j]).set i (some (.ref b))) [j]).length := by rw [wipe_length, List.length_set, wipe_length]; exact hj
      show wipe ((wipe ((wipe σ [i, j]).set i (some (.ref b))) [j]).set j (some x)) [j] = wipe ((wipe σ [i, j]).set i (some (.ref b))) [j] ∧ _
      refine ⟨by rw [wipe_set (by simp), wipe_idem], ?_⟩
      refine ⟨x, by rw [List.getElem?_set_self lj], _, upd_same, ?_, ?_⟩
      · rw [List.length_append, List.length_take, sizeLine_eq]
        omega
      · rw [upd_upd, List.append_assoc, List.take_add_one, hxj]
        rfl
    · refine .inl ⟨⟨f it, .inl (.inl hB), by omega⟩, ?_⟩
      show _ = _
      rw [tk, List.flatMap_append, List.take_of_length_le (l := f it) (by omega)]
      simp
  · refine .inl ⟨⟨xs, .inl (.inl hA), by omega⟩, ?_⟩
    rw [List.take_of_length_le (by omega)]
    exact q L nl
theorem lc2_flatC {β : Type} {items : List α} {e : α → D} {g : α → List β} {c : β → V} {xs : List V} {a : Addr} {i j : Nat} {σ : L2.St} {Qd : Addr → Hp → Prop}
    (he : ∀ y, e y = D.tup ((g y).map fun z => D.v (c z))) (an : a ∉ ms) (ha : H1 a = some (.lst xs)) (hx : repL ms H1 (items.map e) xs) (hz : (items.flatMap g).length ≤ 16777216)
    (hi : i < σ.length) (hj : j < σ.length) (ij : i ≠ j) (q : ∀ L, H1 L = none → Qd L (upd H1 L (.lst ((items.flatMap g).map c)))) :
    ∀ D, H1 D = none → ∃ W : Nat → Nat → Hp → Prop, (∃ m, W 0 m (upd H1 D (.lst []))) ∧ ∀ i' m H, W i' m H →
      ((Itl K a).stop i' H ∧ Qd D H) ∨ ((Itl K a).go i' H ∧ ∃ Nx : Hp → Prop, (∀ H', Nx H' → ∃ m', m' < m ∧ W (i' + 1) m' H') ∧ ∀ x H', (Itl K a).yld i' H x H' → gName i x (wipe σ [i, j]) H' fun σ2 H2 => wipe σ2 [i, j] = wipe σ [i, j] ∧ tYes σ2 H2 fun b H3 =>
        if b = true then iTup K (tVar i) σ2 H3 fun J1 H4 => ∃ W1 : Nat → Nat → Hp → Prop, (∃ m, W1 0 m H4) ∧ ∀ j' k H, W1 j' k H →
          (J1.stop j' H ∧ Nx H) ∨ (J1.go j' H ∧ ∃ Nx1 : Hp → Prop, (∀ H', Nx1 H' → ∃ k', k' < k ∧ W1 (j' + 1) k' H') ∧ ∀ x H', J1.yld j' H x H' → gName j x (wipe σ2 [j]) H' fun σ3 H5 => wipe σ3 [j] = wipe σ2 [j] ∧ tYes σ3 H5 fun b H6 =>
            if b = true then tVar j σ3 H6 fun y H7 => ∃ acc, H7 D = some (.lst acc) ∧ acc.length < sizeLine ∧ Nx1 (upd H7 D (.lst (acc ++ [y]))) else Nx1 H6)
        else Nx H3) := by
  have ef : items.flatMap (fun y => (g y).map c) = (items.flatMap g).map c := by rw [List.map_flatMap]
  refine lc2_flat (f := fun y => (g y).map c) (fun y => ?_) an ha hx ?_ hi hj ij ?_
  · rw [he, List.map_map]
    rfl
  · rw [ef, List.length_map]
    exact hz
  · rw [ef]
    exact q
end
section
end
section
end
section
variable {K : PySem.W.Frag} {ms : List Addr} {ps : List PEn} {H0 H : Hp} {x : V} {L : Addr} {ds : List D}
theorem pi_tupK {X : Cx} {tg l : PySem.Expr} {tl : TE} (hK : X.K = K) (hl : PE X l tl) : PI X tg l (iTup K tl) := by
  subst hK
  exact pi_tup hl
theorem pi_listK {X : Cx} {tg l : PySem.Expr} {tl : TE} (hK : X.K = K) (hl : PE X l tl) : PI X tg l (iList K tl) := by
  subst hK
  exact pi_list hl
theorem cr_sortedPK {X : Cx} (hK : X.K = K) : CallR X (.builtin "sorted") (rSortedPO K) := by
  subst hK
  exact cr_sortedPO
abbrev encP2 (y : Int × Int) : D := D.tup [D.v (V.int y.1), D.v (V.int y.2)]
def keyP (H : Hp) : V → Int × Int
  | .ref t => match H t with
    | some (.tup [.int i, .int j]) => (i, j)
    | _ => (0, 0)
  | _ => (0, 0)
theorem rep_p2 {y : Int × Int} {v : V} (h : rep ms H (encP2 y) v) : keyP H v = y ∧ ∃ t, v = .ref t ∧ H t = some (.tup [.int y.1, .int y.2]) := by
  simp only [rep] at h
  obtain ⟨p, vs, rfl, _, hp, hr⟩ := h
  obtain ⟨u1, r1, rfl, h1, hr⟩ := repL_uncons hr
  obtain ⟨u2, r2, rfl, h2, hr⟩ := repL_uncons hr
  obtain rfl := repL_empty hr
  obtain rfl := of_v h1
  obtain rfl := of_v h2
  refine ⟨?_, p, rfl, hp⟩
  unfold keyP
  simp only [hp]
theorem repL_keysP : ∀ {xs : List (Int × Int)} {vs : List V}, repL ms H (xs.map encP2) vs → vs.map (keyP H) = xs ∧ ∀ v ∈ vs, rep ms H (encP2 (keyP H v)) v
  | [], vs, h => by
    obtain rfl := repL_empty h
    exact ⟨rfl, fun v hv => absurd hv List.not_mem_nil⟩
  | y :: xs, vs, h => by
    obtain ⟨u, us, rfl, h1, h2⟩ := repL_uncons h
    obtain ⟨e, f⟩ := repL_keysP h2
    have k1 := (rep_p2 h1).1
    refine ⟨by rw [List.map_cons, e, k1], fun v hv => ?_⟩
    rcases List.mem_cons.mp hv with rfl | hv
    · rw [k1]
      exact h1
    · exact f v hv
theorem repL_of_keysP : ∀ {vs : List V}, (∀ v ∈ vs, rep ms H (encP2 (keyP H v)) v) → repL ms H ((vs.map (keyP H)).map encP2) vs
  | [], _ => repL_nil
  | v :: vs, h => repL_cons (h v List.mem_cons_self) (repL_of_keysP fun u hu => h u (List.mem_cons_of_mem _ hu))
def lePI (a b : Int × Int) : Prop := a.1 < b.1 ∨ (a.1 = b.1 ∧ a.2 ≤ b.2)
theorem lexB_le {a b : Int × Int} (h : SrtO.lexB b a = false) : lePI a b := by
  have := SrtO.lexB_no.mp h
  unfold lePI
  omega
theorem rep_sortP {xs : List (Int × Int)} {P : List V → Addr → Prop} (h : rep ms H (.lst (xs.map encP2)) x)
    (q : ∀ (ys : List (Int × Int)) (zs : List V), ys.Perm xs → ys.Pairwise lePI → repL ms H (ys.map encP2) zs → ∀ p, H p = none → P zs p) :
    ∃ (a : Addr) (vs : List V) (k : V → Int × Int), [x] = [V.ref a] ∧ SqL K H a vs ∧ (∀ x ∈ vs, ∃ t, x = V.ref t ∧ H t = some (.tup [.int (k x).1, .int (k x).2])) ∧
      ∀ (zs : List V) (p : Addr), SrtO.Srtd (ltP k) zs → SrtO.Stb (ltP k) zs vs → H p = none → P zs p := by
  simp only [rep] at h
  obtain ⟨p, vs, rfl, _, hp, hr⟩ := h
  obtain ⟨e, f⟩ := repL_keysP hr
  refine ⟨p, vs, keyP H, rfl, .inl (.inl hp), fun v hv => (rep_p2 (f v hv)).2, fun zs l srt stb nl => ?_⟩
  refine q (zs.map (keyP H)) zs ?_ ?_ (repL_of_keysP fun v hv => f v (stb.perm.mem_iff.mp hv)) l nl
  · rw [← e]
    exact stb.perm.map _
  · refine List.pairwise_map.mpr (List.Pairwise.imp ?_ srt)
    intro a b hab
    exact lexB_le hab
end
section
section
variable {X : Cx} {pins : List (Addr × Obj)} {σ : L2.St} {H : Hp} {s : Shared} {ms : List Addr}
end
end
section
variable {ms : List Addr} {p : Addr} {He H0 H H1 : Hp}
end
end Rx
namespace Rx
open PySem PySem.Spec PyProof.Rows L2
end Rx
namespace Rx
open PySem PySem.Spec PyProof.Rows L2
section
variable {ms : List Addr} {ps ps' : List PEn} {cs : List (Addr × List V)} {H0 H H' : Hp}
end
end Rx
namespace Rx
open PySem PySem.Spec PyProof.Rows L2
end Rx
namespace Rx
open PySem PySem.Spec PyProof.Rows L2
section
variable {ms ms' : List Addr} {ps : List PEn} {cs : List (Addr × List V)} {H0 H H1 H' : Hp} {C : Addr} {ns : List Str} {ds : List D} {cls : Value} {d : Option Addr}
end
inductive ClsOk (X : Cx) (n : Str) : List ExceptHandler → List (Value × (Addr → Value → Option Addr → TS)) → Prop
  | nil : ClsOk X n [] []
  | cons {x : Str} {c : Value} {ts : Addr → Value → Option Addr → TS} {st1 : Stmt} {suite : List Stmt} {np pos' : Pos} {hds : List ExceptHandler} {l : List (Value × (Addr → Value → Option Addr → TS))} (names : Names X x c)
      (each : ∀ (a : Addr) (oe : Obj) (cls : Value) (d : Option Addr) (pn : List (Addr × Obj)), Zc cls d oe → (∃ vs, oe.data = .fields vs) → PSs (X.suite a ((a, oe) :: pn)) (st1 :: suite) (ts a cls d)) (r : ClsOk X n hds l) :
      ClsOk X n (.ExceptHandler (some (.Name x np)) (some n) (st1 :: suite) pos' :: hds) ((c, ts) :: l)
end Rx
namespace Rx
open PySem PySem.Spec PyProof.Rows L2
section
variable {X : Cx} {pins : List (Addr × Obj)} {σ : L2.St} {H : Hp} {s : Shared}
end
def pyKey : Key → PyData
  | .inl i => .int i
  | .inr z => .str z
mutual
def pyX : D → PyData
  | .v .non => .none
  | .v (.bl b) => .bool b
  | .v (.int i) => .int i
  | .v (.str z) => .str z
  | .v _ => .none
  | .lst ds => .list (pyXs ds)
  | .tup ds => .tuple (pyXs ds)
  | .ins _ _ _ => .none
  | .dct ks ds => .dict ((ks.map pyKey).zip (pyXs ds))
  | .dcT _ _ => .none
def pyXs : List D → List PyData
  | [] => []
  | d :: ds => pyX d :: pyXs ds
def plainX : D → Bool
  | .v .non => true
  | .v (.bl _) => true
  | .v (.int _) => true
  | .v (.str _) => true
  | .v _ => false
  | .lst ds => plainXs ds
  | .tup ds => plainXs ds
  | .ins _ _ _ => false
  | .dct ks ds => decide (ks.length = ds.length) && plainXs ds
  | .dcT _ _ => false
def plainXs : List D → Bool
  | [] => true
  | d :: ds => plainX d && plainXs ds
end
section
variable {X : Cx} {pins : List (Addr × Obj)} {σ : L2.St} {H : Hp} {s : Shared} {ms : List Addr}
abbrev ShX (X : Cx) (s : Shared) (v : Value) (d : PyData) : Prop := ∃ as bs, Reads s.heap v d as ∧ ReadAtMost s.heap d.depth bs ∧ ReprK X.prog X.w bs s.heap d.depth v d.shown
abbrev ShXs (X : Cx) (s : Shared) (vs : List Value) (ds : List PyData) : Prop := ∃ as bs, ReadsAll s.heap vs ds as ∧ ReadAtMost s.heap (PyData.depthAll ds) bs ∧ ReprAllK X.prog X.w bs s.heap (PyData.depthAll ds) vs (PyData.shownAll ds)
theorem pyXs_len : ∀ ds : List D, (pyXs ds).length = ds.length
  | [] => rfl
  | d :: ds => by
    simp only [pyXs, List.length_cons]
    rw [pyXs_len ds]
theorem entries_vals {P : Program} {w : World} : ∀ {ks : List Key} {vs : List V} {ws : List (Key × Value)} {es : List DictEntry}, ks.length = vs.length → KV (ks.zip vs) ws → Pairs (mixKind P w) es ws →
    Vals (ks.map kV) (es.map (·.key)) ∧ Vals vs (es.map (·.val))
  | [], [], _, _, _, kv, pr => by
    cases kv
    cases pr
    exact ⟨.nil, .nil⟩
  | k :: ks, v :: vs, _, _, hl, kv, pr => by
    cases kv with
    | cons h1 h2 =>
      cases pr with
      | cons e1 e2 e3 =>
        obtain ⟨i1, i2⟩ := entries_vals (by simpa using hl) h2 e3
        exact ⟨.cons (relV_key (by have z := e1; rw [← h1.1] at z; exact z)) i1, .cons (by have z := h1.2; rw [← e2] at z; exact z) i2⟩
  | [], _ :: _, _, _, hl, _, _ => by simp at hl
  | _ :: _, [], _, _, hl, _, _ => by simp at hl
theorem shKeys (X : Cx) (s : Shared) : ∀ (ks : List Key) (us : List Value), Vals (ks.map kV) us → PyData.showableAll (ks.map pyKey) = true → (∀ t ∈ PyData.shownAll (ks.map pyKey), t.length ≤ sizeLine) → ShXs X s us (ks.map pyKey)
  | [], us, r, _, _ => by
    cases r
    exact ⟨_, [], .nil, (fun _ z => nomatch z), by simp only [List.map_nil, PyData.shownAll]; exact .nil⟩
  | k :: ks, us, r, sh, sz => by
    cases r with
    | cons r1 r2 =>
      simp only [List.map_cons, PyData.showableAll, PyData.shownAll, Bool.and_eq_true] at sh sz ⊢
      obtain ⟨a2, b2, d2, m2, k2⟩ := shKeys X s ks _ r2 sh.2 (fun t ht => sz t (List.mem_cons_of_mem _ ht))
      have one : ∀ v', RelV (kV k) v' → ShX X s v' (pyKey k) := fun v' r1 => by
        cases k with
        | inl i =>
          obtain ⟨t, rfl⟩ := r1
          exact ⟨_, [], .int i t, (fun _ z => nomatch z), by simp only [pyKey, PyData.shown]; exact .of_is (ReprIs.int t (by simpa [pyKey, PyData.showable] using sh.1)) _ _ _⟩
        | inr z =>
          obtain ⟨t, rfl⟩ := r1
          exact ⟨_, [], .str z t, (fun _ z => nomatch z), by simp only [pyKey, PyData.shown]; exact .of_is (ReprIs.str z t (by simpa only [pyKey, PyData.shown] using sz _ List.mem_cons_self)) _ _ _⟩
      obtain ⟨a1, b1, d1, m1, k1⟩ := one _ r1
      refine ⟨_, b1 ++ b2, .cons d1 d2, ?_, ?_⟩
      · simp only [PyData.depthAll]
        exact ReadAtMost.append (m1.mono (Nat.le_max_left _ _)) (m2.mono (Nat.le_max_right _ _))
      · simp only [PyData.depthAll]
        exact .cons ((k1.more fun _ z => List.mem_append_left _ z).level_le (Nat.le_max_left _ _)) (k2.more_le (fun _ z => List.mem_append_right _ z) (Nat.le_max_right _ _))
theorem reads_nil {h : Heap} {xs : List PyData} {as : List Addr} (r : ReadsAll h [] xs as) : xs = [] := by
  cases r
  rfl
mutual
theorem shX (I : L2.Inv X pins σ H s) : ∀ (d : D) (u : V) (v : Value), plainX d = true → rep ms H d u → RelV u v → (pyX d).showable = true → (pyX d).shown.length ≤ sizeLine → ShX X s v (pyX d)
  | .v x, u, v, p, h, r, sh, sz => by
    obtain rfl := of_v h
    cases u <;> simp only [plainX, pyX] at p sh sz ⊢
    case non =>
      cases r
      exact ⟨_, [], .none, (fun _ z => nomatch z), by simp only [PyData.shown]; exact .of_is ReprIs.none _ _ _⟩
    case bl b =>
      cases r
      exact ⟨_, [], .bool b, (fun _ z => nomatch z), by simp only [PyData.shown]; exact .of_is (ReprIs.bool b) _ _ _⟩
    case int i =>
      obtain ⟨t, rfl⟩ := r
      exact ⟨_, [], .int i t, (fun _ z => nomatch z), by simp only [PyData.shown]; exact .of_is (ReprIs.int t (by simpa [PyData.showable] using sh)) _ _ _⟩
    case str z =>
      obtain ⟨t, rfl⟩ := r
      exact ⟨_, [], .str z t, (fun _ z => nomatch z), by simp only [PyData.shown]; exact .of_is (ReprIs.str z t (by simpa only [PyData.shown] using sz)) _ _ _⟩
    all_goals cases p
  | .lst ds, u, v, p, h, r, sh, sz => by
    simp only [rep] at h
    obtain ⟨a, vs, rfl, _, hp, hl⟩ := h
    cases r
    obtain ⟨its, rv, ⟨o, n, ho, hc, _, hd⟩, _⟩ := I.list (.inl (.inl hp))
    simp only [plainX] at p
    simp only [pyX, PyData.showable, PyData.shown] at sh sz ⊢
    obtain ⟨as, bs, rd, most, all⟩ := shXs I ds vs its p hl rv sh (fun t ht => Nat.le_trans (listText_mem_le ht) sz)
    have rl : Reads s.heap (.ref a) (.list (pyXs ds)) _ := Reads.list ho hc hd rd
    have na : a ∉ bs := not_mem_of_deeper rl (by simp only [PyData.depth]; omega) most
    refine ⟨_, a :: bs, rl, ReadAtMost.cons rl (by simp only [PyData.depth]; omega) most, ?_⟩
    simp only [PyData.depth, PyData.shown]
    cases its with
    | nil =>
      rw [reads_nil rd]
      simp only [PyData.shownAll, listText_nil]
      exact ReprK.listEmpty ho hc hd
    | cons y l => exact ReprK.list ho hc hd na (by simpa using all.length_eq) (fun j z e => all.item j z (by simpa using e))
  | .tup ds, u, v, p, h, r, sh, sz => by
    simp only [rep] at h
    obtain ⟨a, vs, rfl, _, hp, hl⟩ := h
    cases r
    obtain ⟨its, rv, ⟨o, ho, hc, n, hd⟩, _⟩ := I.tuple (.inl (.inl hp))
    simp only [plainX] at p
    simp only [pyX, PyData.showable, PyData.shown] at sh sz ⊢
    obtain ⟨as, bs, rd, most, all⟩ := shXs I ds vs its p hl rv sh (fun t ht => Nat.le_trans (tupleText_mem_le ht) sz)
    have rl : Reads s.heap (.ref a) (.tuple (pyXs ds)) _ := Reads.tuple ho hc hd rd
    have na : a ∉ bs := not_mem_of_deeper rl (by simp only [PyData.depth]; omega) most
    refine ⟨_, a :: bs, rl, ReadAtMost.cons rl (by simp only [PyData.depth]; omega) most, ?_⟩
    simp only [PyData.depth, PyData.shown]
    exact ReprK.tuple ho hc hd na all
  | .ins _ _ _, u, v, p, h, r, sh, sz => by simp only [plainX] at p; cases p
  | .dct ks ds, u, v, p, h, r, sh, sz => by
    simp only [rep] at h
    obtain ⟨a, vs, rfl, _, hp, hlk, hl⟩ := h
    cases r
    obtain ⟨_, low, ws, kv, o, es, ep, ho, hc, hd, _, pr, _⟩ := dk_of I.hok hp
    simp only [plainX, Bool.and_eq_true, decide_eq_true_eq] at p
    obtain ⟨vk, vv⟩ := entries_vals (ks := ks) hlk kv pr
    have lx : (ks.map pyKey).length = (pyXs ds).length := by rw [List.length_map, pyXs_len]; exact p.1
    simp only [pyX, PyData.showable, PyData.shown] at sh sz ⊢
    generalize hkv : (ks.map pyKey).zip (pyXs ds) = kvs at sh sz ⊢
    have f1 : kvs.map (·.1) = ks.map pyKey := by rw [← hkv]; exact List.map_fst_zip (by omega)
    have f2 : kvs.map (·.2) = pyXs ds := by rw [← hkv]; exact List.map_snd_zip (by omega)
    obtain ⟨s1, s2⟩ := PyData.showableKv_split kvs sh
    obtain ⟨as1, b1, d1, m1, k1⟩ := shKeys X s ks _ vk (by rw [← f1]; exact s1) (fun t ht => let ⟨q, hq, hql⟩ := PyData.shownKv_key_le kvs t (by rw [f1]; exact ht); Nat.le_trans hql (Nat.le_trans (dictText_mem_le hq) sz))
    obtain ⟨as2, b2, d2, m2, k2⟩ := shXs I ds vs _ p.2 hl vv (by rw [← f2]; exact s2) (fun t ht => let ⟨q, hq, hql⟩ := PyData.shownKv_val_le kvs t (by rw [f2]; exact ht); Nat.le_trans hql (Nat.le_trans (dictText_mem_le hq) sz))
    rw [← f1] at d1 m1 k1
    rw [← f2] at d2 m2 k2
    have rl : Reads s.heap (.ref a) (.dict kvs) _ := Reads.dict ho hc.1 hd d1 d2
    have hb : ReadAtMost s.heap (PyData.depthKv kvs) (b1 ++ b2) := (m1.mono (PyData.depthAll_keys_le kvs)).append (m2.mono (PyData.depthAll_vals_le kvs))
    have na : a ∉ b1 ++ b2 := not_mem_of_deeper rl (by simp only [PyData.depth]; omega) hb
    refine ⟨_, a :: (b1 ++ b2), rl, ReadAtMost.cons rl (by simp only [PyData.depth]; omega) hb, ?_⟩
    simp only [PyData.depth, PyData.shown, PyData.shownKv_eq]
    exact ReprK.dict ho hc.1 hd low na (ReprEntriesK.of_two es.toList _ _
      (k1.more_le (fun b hb => List.mem_append_left _ hb) (PyData.depthAll_keys_le kvs)) (k2.more_le (fun b hb => List.mem_append_right _ hb) (PyData.depthAll_vals_le kvs)))
  | .dcT _ _, u, v, p, h, r, sh, sz => by simp only [plainX] at p; cases p
theorem shXs (I : L2.Inv X pins σ H s) : ∀ (ds : List D) (us : List V) (vs : List Value), plainXs ds = true → repL ms H ds us → Vals us vs → PyData.showableAll (pyXs ds) = true → (∀ t ∈ PyData.shownAll (pyXs ds), t.length ≤ sizeLine) → ShXs X s vs (pyXs ds)
  | [], us, vs, p, h, r, sh, sz => by
    obtain rfl := repL_empty h
    cases r
    simp only [pyXs]
    exact ⟨_, [], .nil, (fun _ z => nomatch z), by simp only [PyData.shownAll]; exact .nil⟩
  | d :: ds, us, vs, p, h, r, sh, sz => by
    obtain ⟨u, ws, rfl, h1, h2⟩ := repL_uncons h
    cases r with
    | cons r1 r2 =>
      simp only [plainXs, Bool.and_eq_true] at p
      simp only [pyXs, PyData.showableAll, PyData.shownAll, Bool.and_eq_true] at sh sz ⊢
      obtain ⟨a1, b1, d1, m1, k1⟩ := shX I d u _ p.1 h1 r1 sh.1 (sz _ List.mem_cons_self)
      obtain ⟨a2, b2, d2, m2, k2⟩ := shXs I ds ws _ p.2 h2 r2 sh.2 (fun t ht => sz t (List.mem_cons_of_mem _ ht))
      refine ⟨_, b1 ++ b2, .cons d1 d2, ?_, ?_⟩
      · simp only [PyData.depthAll]
        exact ReadAtMost.append (m1.mono (Nat.le_max_left _ _)) (m2.mono (Nat.le_max_right _ _))
      · simp only [PyData.depthAll]
        exact .cons ((k1.more fun _ z => List.mem_append_left _ z).level_le (Nat.le_max_left _ _)) (k2.more_le (fun _ z => List.mem_append_right _ z) (Nat.le_max_right _ _))
end
end
def rReprX (ms : List Addr) : List V → Hp → VK → Prop := fun xs H Q => ∃ (x : V) (d : D), xs = [x] ∧ rep ms H d x ∧ plainX d = true ∧ (pyX d).showable = true ∧ (pyX d).depth ≤ 60 ∧ (pyX d).shown.length ≤ sizeLine ∧ Q (.str (pyX d).shown) H
theorem call_reprX {X : Cx} {ms : List Addr} (gu : X.A.guards = some []) (un : X.A.units + 65 < cLine) : CallR X (.builtin "repr") (rReprX ms) := by
  intro pins s σ H xs us Q I r h
  obtain ⟨x, d, rfl, rp, pl, sh, dep, sz, q⟩ := h
  obtain ⟨u, rfl, ru⟩ := r.one
  have fin : ∀ (h' : Heap) (t2 : Tok) (tk : Nat), (∀ b o, s.heap.get? b = some o → h'.get? b = some o) → EP X pins σ Q (.str (pyX d).shown t2) { s with heap := h', toks := tk } := fun h' t2 tk keep => ⟨.str (pyX d).shown, H, I.kept keep, ⟨t2, rfl⟩, q⟩
  cases d with
  | v y =>
    obtain rfl := of_v rp
    cases x <;> simp only [plainX, pyX] at pl sh sz q fin ⊢
    case non =>
      cases ru
      exact P.repr_of_none ⟨.str PyData.none.shown, H, I.tok _, ⟨_, rfl⟩, q⟩
    case bl b =>
      cases ru
      exact P.repr_of_bool ⟨.str (PyData.bool b).shown, H, I.tok _, ⟨_, rfl⟩, q⟩
    case int i =>
      obtain ⟨t, rfl⟩ := ru
      exact P.repr_of_int (of_decide_eq_true sh) ⟨.str (PyData.int i).shown, H, I.tok _, ⟨_, rfl⟩, q⟩
    case str z =>
      obtain ⟨t, rfl⟩ := ru
      exact P.repr_of_str ⟨.str (PyData.str z).shown, H, I.tok _, ⟨_, rfl⟩, q⟩ sz
    all_goals cases pl
  | lst ds =>
    simp only [rep] at rp
    obtain ⟨a, vs, rfl, _, hp, hl⟩ := rp
    cases ru
    obtain ⟨its, rv, ⟨o, n, ho, hc, _, hd⟩, _⟩ := I.list (.inl (.inl hp))
    simp only [plainX] at pl
    simp only [pyX, PyData.showable, PyData.shown, PyData.depth] at sh sz dep fin ⊢
    obtain ⟨as, bs, rd, most, all⟩ := shXs I ds vs its pl hl rv sh (fun t ht => Nat.le_trans (listText_mem_le ht) sz)
    have rl : Reads s.heap (.ref a) (.list (pyXs ds)) _ := Reads.list ho hc hd rd
    have na : a ∉ bs := not_mem_of_deeper rl (by simp only [PyData.depth]; omega) most
    refine call_repr_slot (by omega) ⟨o, ho, hc⟩ F.slot_list_repr.toG ?_
    cases its with
    | nil =>
      rw [reads_nil rd] at fin
      simp only [PyData.shownAll, listText_nil] at fin
      exact call_list_repr_empty ⟨o, ho, hc⟩ ho hd ⟨_, _, rfl, fin s.heap _ _ fun _ _ e => e⟩
    | cons y l => exact call_list_reprK ho hc hd na (by simpa using all.length_eq) (fun j z e => all.item j z (by simpa using e)) gu (fun b _ => Clear.nil b) (by show X.A.units + 1 + _ < cLine; omega) (fun _ _ z => z) (fun h' t2 tk keep => ⟨_, _, rfl, fin h' t2 tk keep⟩) sz
  | tup ds =>
    simp only [rep] at rp
    obtain ⟨a, vs, rfl, _, hp, hl⟩ := rp
    cases ru
    obtain ⟨its, rv, ⟨o, ho, hc, n, hd⟩, _⟩ := I.tuple (.inl (.inl hp))
    simp only [plainX] at pl
    simp only [pyX, PyData.showable, PyData.shown, PyData.depth] at sh sz dep fin ⊢
    obtain ⟨as, bs, rd, most, all⟩ := shXs I ds vs its pl hl rv sh (fun t ht => Nat.le_trans (tupleText_mem_le ht) sz)
    have rl : Reads s.heap (.ref a) (.tuple (pyXs ds)) _ := Reads.tuple ho hc hd rd
    have na : a ∉ bs := not_mem_of_deeper rl (by simp only [PyData.depth]; omega) most
    refine call_repr_slot (by omega) ⟨o, ho, hc⟩ F.slot_tuple_repr ?_
    exact call_tuple_reprK ho hc hd na all gu (fun b _ => Clear.nil b) (by show X.A.units + 1 + _ < cLine; omega) (fun _ _ z => z) (fun h' t2 tk keep => ⟨_, _, rfl, fin h' t2 tk keep⟩) sz
  | ins _ _ _ => simp only [plainX] at pl; cases pl
  | dct ks ds =>
    simp only [plainX, Bool.and_eq_true, decide_eq_true_eq] at pl
    simp only [rep] at rp
    obtain ⟨a, vs, rfl, _, hp, hlk, hl⟩ := rp
    cases ru
    obtain ⟨_, low, ws, kv, o, es, ep, ho, hc, hd, _, pr, _⟩ := dk_of I.hok hp
    obtain ⟨vk, vv⟩ := entries_vals (ks := ks) hlk kv pr
    have lx : (ks.map pyKey).length = (pyXs ds).length := by rw [List.length_map, pyXs_len]; exact pl.1
    simp only [pyX, PyData.showable, PyData.shown, PyData.depth] at sh sz dep fin ⊢
    generalize hkv : (ks.map pyKey).zip (pyXs ds) = kvs at sh sz dep fin ⊢
    have f1 : kvs.map (·.1) = ks.map pyKey := by rw [← hkv]; exact List.map_fst_zip (by omega)
    have f2 : kvs.map (·.2) = pyXs ds := by rw [← hkv]; exact List.map_snd_zip (by omega)
    obtain ⟨s1, s2⟩ := PyData.showableKv_split kvs sh
    obtain ⟨as1, b1, d1, m1, k1⟩ := shKeys X s ks _ vk (by rw [← f1]; exact s1) (fun t ht => let ⟨q, hq, hql⟩ := PyData.shownKv_key_le kvs t (by rw [f1]; exact ht); Nat.le_trans hql (Nat.le_trans (dictText_mem_le hq) sz))
    obtain ⟨as2, b2, d2, m2, k2⟩ := shXs I ds vs _ pl.2 hl vv (by rw [← f2]; exact s2) (fun t ht => let ⟨q, hq, hql⟩ := PyData.shownKv_val_le kvs t (by rw [f2]; exact ht); Nat.le_trans hql (Nat.le_trans (dictText_mem_le hq) sz))
    rw [← f1] at d1 m1 k1
    rw [← f2] at d2 m2 k2
    have rl : Reads s.heap (.ref a) (.dict kvs) _ := Reads.dict ho hc.1 hd d1 d2
    have hb : ReadAtMost s.heap (PyData.depthKv kvs) (b1 ++ b2) := (m1.mono (PyData.depthAll_keys_le kvs)).append (m2.mono (PyData.depthAll_vals_le kvs))
    have na : a ∉ b1 ++ b2 := not_mem_of_deeper rl (by simp only [PyData.depth]; omega) hb
    refine call_repr_slot (by omega) ⟨o, ho, hc.1⟩ F.slot_dict_repr ?_
    rw [PyData.shownKv_eq] at sz fin
    exact call_dict_reprK ho hc.1 hd low na (ReprEntriesK.of_two es.toList _ _
      (k1.more_le (fun b hb => List.mem_append_left _ hb) (PyData.depthAll_keys_le kvs)) (k2.more_le (fun b hb => List.mem_append_right _ hb) (PyData.depthAll_vals_le kvs))) gu (fun b _ => Clear.nil b) (by show X.A.units + 1 + _ < cLine; omega) (fun _ _ z => z) (fun h' t2 tk keep => ⟨_, _, rfl, fin h' t2 tk keep⟩) sz
  | dcT _ _ => simp only [plainX] at pl; cases pl
end Rx
namespace Rx
open PySem PySem.Spec PyProof.Rows L2
section
variable {P : Program} {w : World} {K : PySem.W.Frag} {mg mb : Str → Option Value} {k : Nat} {fa a : Addr} {fd : FuncData} {x : Str} {sp : Sp} {s1 : Shared} {vs : List Value} {ns : List Int} {cs : List (Addr × Addr)}
structure TabT (K : PySem.W.Frag) (h : Heap) (cs : List (Addr × Addr)) : Prop where
  at_ : ∀ p ∈ cs, h.get? p.2 = some { cls := .none, data := .fields #[] }
  un : ∀ p ∈ cs, K.lookup p.2 = none
  cd : ∀ p ∈ cs, PySem.W.CodeHd h p.1 p.2
end
end Rx
namespace Rx
open PySem PySem.Spec PyProof.Rows L2
section
variable {P : Program} {w : World} {K : PySem.W.Frag} {mg : Str → Option Value} {base : Heap}
end
section
variable {X : Cx}
end
theorem rep_reprX {ms : List Addr} {H : Hp} {x : V} {d : D} {Q : VK} (h : rep ms H d x) (p : plainX d = true ∧ (pyX d).showable = true ∧ (pyX d).depth ≤ 60 ∧ (pyX d).shown.length ≤ sizeLine) (q : Q (.str (pyX d).shown) H) : rReprX ms [x] H Q :=
  ⟨x, d, rfl, h, p.1, p.2.1, p.2.2.1, p.2.2.2, q⟩
end Rx
namespace Rx
open PySem PySem.Spec PyProof.Rows L2
def rReprY : List V → Hp → VK → Prop := fun xs H Q => ∃ ms, rReprX ms xs H Q
theorem call_reprY {X : Cx} (gu : X.A.guards = some []) (un : X.A.units + 65 < cLine) : CallR X (.builtin "repr") rReprY := fun pins s σ H xs us Q I r ⟨ms, h⟩ => call_reprX gu un pins s σ H xs us Q I r h
theorem rep_reprY {ms : List Addr} {H : Hp} {x : V} {d : D} {Q : VK} (h : rep ms H d x) (p : plainX d = true ∧ (pyX d).showable = true ∧ (pyX d).depth ≤ 60 ∧ (pyX d).shown.length ≤ sizeLine) (q : Q (.str (pyX d).shown) H) : rReprY [x] H Q :=
  ⟨ms, rep_reprX h p q⟩
end Rx
namespace Rx
open PySem PySem.Spec PyProof.Rows L2
section
variable {ms : List Addr} {ps : List PEn} {H0 H H1 H' : Hp} {d : D} {u : V} {L : Addr}
end
end Rx
namespace Rx
open PySem PySem.Spec PyProof.Rows L2
end Rx
namespace Rx
open PySem PySem.Spec PyProof.Rows L2
section
end
end Rx
namespace Rx
open PySem PySem.Spec PyProof.Rows L2
structure OexG (K : PySem.W.Frag) (C : Addr) : Prop where
  base : ∃ (B newId initId : String) (bmB : List Value), ExcBaseFacts B newId initId bmB ∧ StoreFacts B bmB "object.__setattr__" "object" ∧ PySem.W.excInitIn K C bmB newId = true ∧ PySem.W.excOver K C bmB = true
  cd : ∃ cd, PySem.W.clsIn K C = some cd ∧ cd.hasDict = true
  sa : PySem.W.findIn K (.ref C) "__setattr__" = some (some (.builtin "object.__setattr__"))
  exC : PySem.W.subIn K (.ref C) (.type "BaseException") = some true
  tyC : PySem.W.typeIn K (.ref C) = some (.type "type")
  kC : PySem.W.keepIn K (.ref C) = true
section
open PySem.W Builtin Builtin.ObjectAttr
variable {prog : Program} {w : World} {A : Around} {R : Result → Shared → Prop} {hp : Heap} {g : Array GenState} {d : Drawn} {t : Nat} {os : OsState} {K : PySem.W.Frag} {x C : Addr} {name : Str} {tk : Tok} {v : Value}
end
section
variable {X : Cx} {pins : List (Addr × Obj)} {σ : L2.St} {H : Hp} {s : Shared} {a C dx : Addr} {f : Str} {y : V} {u : Value} {fs : List (Str × V)} {Q : Unit → Shared → Prop} {E : Value → Shared → Prop}
end
section
variable {X : Cx} {o e : PySem.Expr} {es : List PySem.Expr} {to te : TE} {ta : TA} {f : Str} {p p' pos : Pos}
end
section
variable {ms ms' : List Addr} {ps : List PEn} {cs : List (Addr × List V)} {H0 H H1 H' : Hp} {C : Addr}
end
end Rx
namespace Rx
open PySem PySem.Spec PyProof.Rows L2
section
variable {α : Type}
end
section
end
section
variable {K : PySem.W.Frag} {ms : List Addr} {ps : List PEn} {H0 H : Hp} {x : V} {L : Addr} {ds : List D}
end
section
variable {X : L2.Cx}
end
section
variable {X : L2.Cx} {e : PySem.Expr} {te : TE}
end
theorem flat_le {α : Type} {yss : List (List α)} {r : List α} {n : Nat} (hy : yss.flatten.length ≤ n * 16000) (hr : r.length ≤ 16000) : (yss ++ [r]).flatten.length ≤ (n + 1) * 16000 := by
  rw [List.flatten_append, List.flatten_cons, List.flatten_nil, List.append_nil, List.length_append]
  omega
section
variable {α β : Type} {K : PySem.W.Frag} {H1 : Hp} {σ : L2.St} {Qd : Hp → Prop} {L : Addr} {ms : List Addr} {tc : TE}
end
section
variable {K : PySem.W.Frag} {ms : List Addr} {H : Hp} {x : V} {a : Addr} {ds : List D}
end
theorem rep_ixTup {K : PySem.W.Frag} {ms : List Addr} {H : Hp} {x : V} {α : Type} {e : α → D} {xs : List α} {i : Int} {Q : VK} (h : rep ms H (.tup (xs.map e)) x) (h0 : 0 ≤ i) (hi : i.toNat < xs.length) (k : ∀ v, rep ms H (e (xs[i.toNat]'hi)) v → Q v H) : rIxT K x (.int i) H Q := by
  simp only [rep] at h
  obtain ⟨p, vs, e', _, hp, hr⟩ := h
  obtain ⟨v, hv, rv⟩ := repL_get (d := e (xs[i.toNat]'hi)) hr (by rw [List.getElem?_map, List.getElem?_eq_getElem hi]; rfl)
  exact ⟨p, vs, i, v, e', rfl, .inl (.inl hp), at_of (j := i.toNat) (by omega) hv, k v rv⟩
end Rx
namespace Rx
open PySem PySem.Spec PyProof.Rows L2
section
variable {M : Model} {A : Around} {E : Value → Shared → Prop} {s : Shared} {a : Addr} {pos : Pos} {Q : Value → Shared → Prop}
end
section
variable {K : PySem.W.Frag} {X : Cx} {C g0 : Addr} {CX : CXT} {k : Nat} {sp : Sp} {E : XK} {fe : PySem.Expr} {tf : TE} {tk : TA} {pos : Pos} {fd : FuncData} {ps ks : List Str} {kws : List Keyword} {g : List Value → List Value → List Value} {gV : List V → List V → List V}
end
section
variable {X : Cx} {CX : CXT} {k : Nat} {C g0 : Addr} {fd : FuncData} {ps ks : List Str} {sp : Sp} {E : XK} {o : PySem.Expr} {m : Str} {pos apos : Pos} {ta : TE} {tk : TA} {kws : List Keyword} {g : List Value → List Value → List Value} {gV : List V → List V → List V}
end
section
variable {X : Cx} {b : List Stmt} {t1 t2 : TS}
end
section
variable {ms ms' : List Addr} {ps : List PEn} {H0 H H1 : Hp} {L : Addr}
end
end Rx
namespace Rx
open PySem PySem.Spec PyProof.Rows L2
section
variable {X : Cx} {pins : List (Addr × Obj)} {σ : L2.St} {H : Hp} {s : Shared}
end
end Rx
namespace PySem.W
open Lean Elab Tactic Meta PySem PySem.Calls PyProof.Rows
section
variable {prog : Program} {w : World} {A : Around} {E : Value → Shared → Prop} {s : Shared} {K : Frag} {y C L f g : Addr} {h₀ : Heap} {m : Str → Option Value} {oy : Obj} {oe : Option Obj} {v : Value} {T : String} {b : Bool} {t : Tok}
end
end PySem.W
namespace Rx
open PySem PySem.Spec PyProof.Rows L2
structure OpN (op : Operator) : Prop where
  n : ∀ T ∈ (["NoneType", "str", "list", "tuple", "dict"] : List String), fillsNumberSlot (.type T) op.info.2 = pure false
  b : fillsNumberSlot (.type "bool") op.info.2 = pure true
  r : ∃ ro, typeLookup (.type "bool") (dunderR op.info.2) = pure ro
structure OpI (op : Operator) : Prop where
  b : fillsNumberSlot (.type "int") op.info.2 = pure true
  r : ∃ ro, typeLookup (.type "int") (dunderR op.info.2) = pure ro
end Rx
namespace Rx
open PySem PySem.Spec PyProof.Rows L2
theorem shR_ok {K : PySem.W.Frag} {a : Addr} {x q : Str} {ps : Arguments} {body : List Stmt} {sc : Scope} {dV cd : Value}
    (e : shR K a = some (x, q, ps, .stmts body, sc, mainGlobals, [], builtinsNs)) (d : dfR K a = some dV) (c : cdR K a = cd) :
    ∃ oc od sl kV dc pm an ct, K.lookup a = some ⟨oc, od, .func (PySem.W.fnOf x q ps body sc dV kV dc pm an cd ct), sl⟩ := by
  unfold shR at e
  unfold dfR at d
  unfold cdR at c
  cases z : fdR K a with
  | none =>
    rw [z] at e
    cases e
  | some fd =>
    rw [z] at e d c
    obtain ⟨n1, n2, n3, n4, n5, n6, n7, n8, n9, n10, n11, n12, n13, n14, n15⟩ := fd
    have e1 := Option.some.inj e
    have d1 := Option.some.inj d
    simp only [Prod.mk.injEq] at e1 d1 c
    obtain ⟨h1, h2, h3, h4, h5, h6, h7, h8⟩ := e1
    subst h1 h2 h3 h4 h5 h6 h7 h8 d1 c
    unfold fdR at z
    split at z
    · rename_i oc od fd sl hl
      cases z
      exact ⟨oc, od, sl, _, _, _, _, _, hl⟩
    · cases z
theorem rcB_ok {K : PySem.W.Frag} {p : Addr} {T : String} (e : rcB K p T = true) : ∃ R, PySem.W.recIn K p T = some (.ref (rcA K p T) :: R) := by
  unfold rcB at e
  unfold rcA
  split at e
  · rename_i a r h
    exact ⟨r, by rw [h]; rfl⟩
  · cases e
theorem frcK_eq {α : Type} : ∀ (K : PySem.W.Frag) (k : PySem.W.Frag → α), frcK K k = k K
  | [], _ => rfl
  | (a, o) :: r, k => by
    show frcK r (fun r => k ((a, o) :: r)) = _
    rw [frcK_eq r]
theorem obF_eq {n : Nat} {ea eb : PySem.W.Frag → Bool} {fn : List (PySem.W.Frag → Addr)} {vs : List He.FnW} {ts : List He.Tab} (s : PySem.W.SharedT) : obF n ea eb fn ts s = (hkR n (fun K => ea K && eb K) fn vs ts).obs s.abs := by
  have e : HandSHeadRun.getT s = s.abs.heap.get? := funext fun a => HandSHeadRun.getT_eq s a
  show (frcK (He.frT (HandSHeadRun.getT s) (List.range n)) ea && frcK (He.frT (HandSHeadRun.getT s) (List.range n)) eb, frcK (He.frT (HandSHeadRun.getT s) (List.range n)) fun K => (fn.map fun a => shR K (a K), ts.map fun t => He.dicW K (t.1 K))) = obK (fun K => ea K && eb K) fn ts (He.frT s.abs.heap.get? (List.range n))
  rw [frcK_eq, frcK_eq, frcK_eq, e]
  rfl
theorem fnAt {K : PySem.W.Frag} {fn : List (PySem.W.Frag → Addr)} {vs : List He.FnW} (c : (fn.map fun a => shR K (a K)) = vs) (i : Nat) {a : PySem.W.Frag → Addr} {v : He.FnW} (ha : fn[i]? = some a) (hv : vs[i]? = some v) : shR K (a K) = v := by
  rw [← c, List.getElem?_map, ha] at hv
  exact Option.some.inj hv
theorem walk_ofGE {l : PySem.W.OpenLaw} {n k : Nat} {q : Program} {loose : List Str} {XP : (Str → Option Value) → Heap → Prop} {YP : World → Heap → Prop} {d : DefRec} {x : Str}
    (most : l.most = some n) (small : n ≤ sizeLine) (plain : d.params.defaults = []) (hr : Room k callerA)
    (F : ∀ (w : World) (mg : Str → Option Value) (fa : Addr) (h : Heap), YP w h → h.Ns mainGlobals mg → mg d.name = some (.ref fa) →
      ∃ K : PySem.W.Frag, K.In h ∧ ∃ (fd : FuncData) (sp : Sp), (∀ (s : Shared) (u : Value), BindsTo s fd ⟨[u], []⟩ [(x, u)]) ∧
        (∀ (H : Hp) (a : Addr) (ns : List Int), ns.length ≤ n → Only H → SqL K H a (ns.map V.int) → sp [.ref a] H (fun v _ => v = .bl true) E0) ∧
        ∀ base : Heap, K.In base → base.Ns mainGlobals mg → FnG l.prog w K mg base k fa fd [x] sp) :
    PySem.W.WalkO q loose XP YP l.row.toRowW d [] (fun f vs => PySem.call f vs) := by
  refine Att.attach_call most plain fun w s₀ s₁ mg mb fa o pm cd doc a vs ns G Y ho hd hcd hmg obj its0 len ng => ?_
  obtain ⟨K, KX, fd, sp, bind, enter, hF⟩ := F w mg fa _ Y G.T.g hmg
  exact callG KX G.T.g G.T.b G.T.builtins G.T.nolimit ng obj its0 (Nat.le_trans len small) hr hF bind fun H only sq => enter H a ns len only sq
end Rx

namespace Rx
open PySem PySem.Spec PyProof.Rows L2
def Uniq {α : Type} (xs : List α) (n : Nat) : Prop := ∃ l : List α, l.Nodup ∧ (∀ x, x ∈ l ↔ x ∈ xs) ∧ l.length = n
theorem Uniq.nil {α : Type} : Uniq ([] : List α) 0 := ⟨[], List.nodup_nil, fun _ => Iff.rfl, rfl⟩
section
variable {P : Program} {w : World} {κ : Type} [DecidableEq κ] {knd : PySem.KeyKind P w κ}
end
section
variable {X : Cx}
end
section
variable {ms : List Addr} {H : Hp} {x : V} {K : PySem.W.Frag}
end
section
variable {X : Cx} {o e : Expr} {to te : TE}
def rJoinK (K : PySem.W.Frag) : V → List V → Hp → VK → Prop := fun x xs H Q => ∃ a p, ∃ ys : List Str, x = .str a ∧ xs = [.ref p] ∧ (SqL K H p (ys.map V.str) ∨ SqT K H p (ys.map V.str)) ∧ (ys.map (·.length)).sum + ys.length * a.length ≤ 16777216 ∧ Q (.str (Txt.join a ys)) H
theorem pe_joinK {K : PySem.W.Frag} (hK : X.K = K) {apos pos : Pos} (ho : PE X o to) (he : PE X e te) (hs : starEach [e] X.env = [(false, eval e X.env)] := by rfl) (hb : attributeBase o "join" X.env (eval o X.env) = eval o X.env := by rfl)
    (hl : (apos.endLine == pos.line) = true := by rfl) : PE X (.Call (.Attribute o "join" apos) [e] [] pos) (tM1 (rJoinK K) to te) := by
  subst hK
  exact pe_join ho he hs hb hl
end
theorem blkOk_rel {X : Cx} {scope : Scope} {N : List Str} {own : List (Str × Nat)} (hN : X.N = N) (h : blkC N X.env.scope scope own = true) : BlkOk X.N X.env.scope scope own := by
  subst hN
  exact blkOk_by h
end Rx
namespace Rx
open PySem PySem.Spec PyProof.Rows
abbrev ItT := Addr × Str × Tok
def StI (h : Heap) (t : ItT) (i : Nat) : Prop := h.IsStrIter t.1 (strIterType t.2.1) t.2.1 t.2.2 i
def Refs (its : List ItT) : List Value := its.map fun t => .ref t.1
def Chars (i : Nat) : List ItT → List Value → Prop
  | [], vs => vs = []
  | t :: ts, vs => ∃ c u us, t.2.1.cps[i]? = some c ∧ vs = .str ⟨#[c]⟩ u :: us ∧ Chars i ts us
theorem Chars.len {i : Nat} : ∀ {its : List ItT} {vs : List Value}, Chars i its vs → vs.length = its.length
  | [], _, h => by rw [show _ = _ from h]; rfl
  | t :: ts, _, ⟨c, u, us, _, e, h⟩ => by rw [e]; simp [Chars.len h]
theorem StI.keep {h h' : Heap} {t : ItT} {i : Nat} (st : StI h t i) (k : ∀ o, h.get? t.1 = some o → h'.get? t.1 = some o) : StI h' t i := by
  obtain ⟨o, ho, r⟩ := st
  exact ⟨o, k o ho, r⟩
def Tup (h : Heap) (a : Addr) (vs : List Value) : Prop := h.get? a = some { cls := .type "tuple", data := .seq vs.toArray }
structure ZS (h : Heap) (z TI TO T : Addr) (its : List ItT) (i : Nat) : Prop where
  hz : ∃ f, IsZipHeld h z TI TO T f
  hT : ∃ o, h.get? T = some o
  hTI : Tup h TI (Refs its)
  st : ∀ t ∈ its, StI h t i
structure ZAp (S z TI TO : Addr) (its : List ItT) : Prop where
  ne0 : its ≠ []
  nd : (its.map (·.1)).Nodup
  nz : ∀ t ∈ its, z ≠ t.1
  nto : ∀ t ∈ its, t.1 ≠ TO
  zto : z ≠ TO
  tiz : TI ≠ z
  tii : ∀ t ∈ its, TI ≠ t.1
  tito : TI ≠ TO
  sz : S ≠ z
  sti : S ≠ TI
  sto : S ≠ TO
  si : ∀ t ∈ its, S ≠ t.1
  hl : its.length ≤ sizeLine
section
open L2
def col (j : Nat) (xs : List Str) : List V := xs.map fun x => V.str ⟨#[x.cps.getD j 0]⟩
end
end Rx
namespace Rx
open PySem PySem.Spec PyProof.Rows L2
def lenZ (xs : List Str) : Nat := (xs.headD ⟨#[]⟩).cps.size
structure ZL (H H2 : Hp) (L : Addr) (as : List Addr) (xs : List Str) : Prop where
  nl : H L = none
  na : ∀ a ∈ as, H a = none
  len : as.length = lenZ xs
  hL : H2 L = some (.lst (as.map V.ref))
  hA : ∀ j a, as[j]? = some a → H2 a = some (.tup (col j xs))
section
variable {K : PySem.W.Frag} {ms : List Addr} {ps : List PEn} {cs : List (Addr × List V)} {H0 H H1 H2 : Hp} {x u y : V} {d : D}
theorem op_catTK {X : Cx} (hK : X.K = K) : OpR X (binaryOp .Add) (rCatT K) := by
  subst hK
  exact op_catT
theorem rep_catT {ds es : List D} {Q : VK} (h : rep ms H (.tup ds) x) (h2 : rep ms H (.tup es) y) (h3 : ds ≠ [] ∧ es ≠ [] ∧ ds.length + es.length ≤ 16777216) (k : ∀ vs us, repL ms H ds vs → repL ms H es us → ∀ p, H p = none → Q (.ref p) (upd H p (.tup (vs ++ us)))) : rCatT K x y H Q := by
  simp only [rep] at h h2
  obtain ⟨p, vs, rfl, _, hp, hr⟩ := h
  obtain ⟨p2, us, rfl, _, hp2, hr2⟩ := h2
  have l1 := repL_len hr
  have l2 := repL_len hr2
  refine ⟨p, p2, vs, us, rfl, rfl, .inl (.inl hp), .inl (.inl hp2), fun z => h3.1 (List.length_eq_zero_iff.mp (by rw [l1, z]; rfl)), by rw [← l1, ← l2, sizeLine_eq]; exact h3.2.2, fun z => absurd (List.length_eq_zero_iff.mp (by rw [l2, z]; rfl)) h3.2.1, fun _ => k vs us hr hr2⟩
end
section
variable {α S : Type} {K : PySem.W.Frag} {H1 : Hp} {g : TG} {tb : TS} {D' : Ends} {σ : L2.St}
end
section
variable {K : PySem.W.Frag} {H : Hp}
end
section
variable {K : PySem.W.Frag} {ms : List Addr} {ps : List PEn} {cs : List (Addr × List V)} {H0 H : Hp} {x : V}
end
end Rx
namespace Rx
open PySem PySem.Spec PyProof.Rows L2
section
variable {X : L2.Cx}
end
section
variable {α : Type} {K : PySem.W.Frag} {ms : List Addr} {H : Hp} {x : V} {vs : List V}
end
section
variable {ms : List Addr} {ps : List PEn} {H0 H : Hp} {L : Addr} {ds : List D} {ks : List Key}
end
end Rx
namespace Rx
open PySem PySem.Spec PyProof.Rows L2
def eSq {α : Type} (f : α → D) (m : Bool × List α) : D := if m.1 = true then D.tup (m.2.map f) else D.lst (m.2.map f)
structure SeqIt {α : Type} (ms : List Addr) (H1 : Hp) (J : It) (items : List α) (e : α → D) : Prop where
  ex : ∃ (G : Hp → Prop) (Y : Nat → Hp → V → Hp → Prop), L2.Walk J items.length G Y ∧ (∀ H, Keep ms H1 H → G H) ∧ ∀ (i : Nat) (x : V) (H H' : Hp) (h : i < items.length), Keep ms H1 H → Y i H x H' → H' = H ∧ rep ms H (e (items[i]'h)) x
section
variable {α : Type} {K : PySem.W.Frag} {ms : List Addr} {H1 : Hp} {items : List α} {e : α → D} {a : Addr} {xs : List V}
theorem seqIt_list (an : a ∉ ms) (ha : H1 a = some (.lst xs)) (hx : repL ms H1 (items.map e) xs) : SeqIt ms H1 (Itl K a) items e := by
  have hl : items.length = xs.length := by
    have := repL_len hx
    rwa [List.length_map] at this
  have w := L2.walk_list (K := K) (a := a) (xs := xs)
  rw [← hl] at w
  exact ⟨_, _, w, fun H k => .inl (.inl (k a _ an ha)), fun i x H H' h k y => ⟨y.1, repL_at (repL_keep k hx) h y.2⟩⟩
theorem seqIt_tup (an : a ∉ ms) (ha : H1 a = some (.tup xs)) (hx : repL ms H1 (items.map e) xs) : SeqIt ms H1 (Itt K a) items e := by
  have hl : items.length = xs.length := by
    have := repL_len hx
    rwa [List.length_map] at this
  have w := L2.walk_tup (K := K) (a := a) (xs := xs)
  rw [← hl] at w
  exact ⟨_, _, w, fun H k => .inl (.inl (k a _ an ha)), fun i x H H' h k y => ⟨y.1, repL_at (repL_keep k hx) h y.2⟩⟩
end
section
variable {α β S : Type} {K : PySem.W.Frag} {H1 : Hp} {g : TG} {tt : TT} {te : TE} {tb : TS} {D' : Ends} {vl : List Nat} {σ : L2.St} {Qd : Hp → Prop} {L : Addr} {J : It}
theorem lc_seqG {items : List α} {e : α → D} {ms : List Addr} {body : α → (β → Prop) → Prop} {KM : List β → Prop} (SI : Nat → List β → Hp → Prop) (P : SeqIt (L :: ms) H1 J items e)
    (kp : ∀ n ys H, SI n ys H → Keep (L :: ms) H1 H) (hM : items.length < 100000 ∧ mapC body items [] KM) (h0 : SI 0 [] (upd H1 L (.lst [])))
    (hs : ∀ (x : α) (u : V) (n : Nat) (ys : List β) (k : β → Prop) (H : Hp), n < 100000 → SI n ys H → rep (L :: ms) H (e x) u → body x k → ∀ Nx : Hp → Prop, (∀ y H', k y → SI (n + 1) (ys ++ [y]) H' → Nx H') → Turn g tt te vl σ L u H Nx)
    (hd : ∀ n ys H, KM ys → SI n ys H → Qd H) :
    ∃ W : Nat → Nat → Hp → Prop, (∃ m, W 0 m (upd H1 L (.lst []))) ∧ ∀ i m H, W i m H →
      (J.stop i H ∧ Qd H) ∨ (J.go i H ∧ ∃ Nx : Hp → Prop, (∀ H', Nx H' → ∃ m', m' < m ∧ W (i + 1) m' H') ∧ ∀ x H', J.yld i H x H' → g x (wipe σ vl) H' fun σ2 H2 => wipe σ2 vl = wipe σ vl ∧ tt σ2 H2 fun b H3 =>
        if b = true then te σ2 H3 fun y H4 => ∃ acc, H4 L = some (.lst acc) ∧ acc.length < sizeLine ∧ Nx (upd H4 L (.lst (acc ++ [y]))) else Nx H3) := by
  obtain ⟨hn, hM⟩ := hM
  obtain ⟨G, Y, w, hG, hat⟩ := P
  refine ⟨fun i m H => m = items.length - i ∧ i ≤ items.length ∧ ∃ ys, SI i ys H ∧ mapC body (items.drop i) ys KM, ⟨_, rfl, Nat.zero_le _, [], h0, hM⟩, ?_⟩
  rintro i m H ⟨rfl, hi', ys, T, q⟩
  have hk := kp i ys H T
  by_cases hlt : i < items.length
  · refine .inr ⟨w.goes i H hlt (hG H hk), fun H' => i + 1 ≤ items.length ∧ ∃ ys, SI (i + 1) ys H' ∧ mapC body (items.drop (i + 1)) ys KM, fun H' p' => ⟨_, by omega, rfl, p'⟩, fun x H' y => ?_⟩
    obtain ⟨e1, r1⟩ := hat i x H H' hlt hk (w.yields i H x H' hlt (hG H hk) y)
    subst e1
    rw [drop_cons' (List.getElem?_eq_getElem hlt)] at q
    exact hs _ x i ys _ H' (by omega) T r1 q _ fun y H'' k T' => ⟨hlt, _, T', k⟩
  · have ei : i = items.length := by omega
    refine .inl ⟨by rw [ei]; exact w.stops H (hG H hk), ?_⟩
    rw [List.drop_of_length_le (by omega)] at q
    exact hd _ ys H q T
theorem lc2_flatS {α : Type} {items : List α} {e : α → D} {f : α → List V} {ms : List Addr} {i j : Nat} {Qd : Addr → Hp → Prop}
    (he : ∀ y, e y = D.tup ((f y).map D.v)) (P : ∀ L, H1 L = none → SeqIt (L :: ms) H1 J items e) (hz : (items.flatMap f).length ≤ 16777216)
    (hi : i < σ.length) (hj : j < σ.length) (ij : i ≠ j) (q : ∀ L, H1 L = none → Qd L (upd H1 L (.lst (items.flatMap f)))) :
    ∀ D, H1 D = none → ∃ W : Nat → Nat → Hp → Prop, (∃ m, W 0 m (upd H1 D (.lst []))) ∧ ∀ i' m H, W i' m H →
      (J.stop i' H ∧ Qd D H) ∨ (J.go i' H ∧ ∃ Nx : Hp → Prop, (∀ H', Nx H' → ∃ m', m' < m ∧ W (i' + 1) m' H') ∧ ∀ x H', J.yld i' H x H' → gName i x (wipe σ [i, j]) H' fun σ2 H2 => wipe σ2 [i, j] = wipe σ [i, j] ∧ tYes σ2 H2 fun b H3 =>
        if b = true then iTup K (tVar i) σ2 H3 fun J1 H4 => ∃ W1 : Nat → Nat → Hp → Prop, (∃ m, W1 0 m H4) ∧ ∀ j' k H, W1 j' k H →
          (J1.stop j' H ∧ Nx H) ∨ (J1.go j' H ∧ ∃ Nx1 : Hp → Prop, (∀ H', Nx1 H' → ∃ k', k' < k ∧ W1 (j' + 1) k' H') ∧ ∀ x H', J1.yld j' H x H' → gName j x (wipe σ2 [j]) H' fun σ3 H5 => wipe σ3 [j] = wipe σ2 [j] ∧ tYes σ3 H5 fun b H6 =>
            if b = true then tVar j σ3 H6 fun y H7 => ∃ acc, H7 D = some (.lst acc) ∧ acc.length < sizeLine ∧ Nx1 (upd H7 D (.lst (acc ++ [y]))) else Nx1 H6)
        else Nx H3) := by
  intro L nl
  obtain ⟨G, Y, w, hG, hat⟩ := P L nl
  have kp : ∀ ws, Keep (L :: ms) H1 (upd H1 L (.lst ws)) := fun ws b o hb e => by
    rw [upd_ne (fun z => hb (by rw [z]; exact List.mem_cons_self))]
    exact e
  refine ⟨fun i' m H => m = items.length - i' ∧ i' ≤ items.length ∧ H = upd H1 L (.lst ((items.take i').flatMap f)), ⟨_, rfl, Nat.zero_le _, rfl⟩, ?_⟩
  rintro i' m H ⟨rfl, hi', rfl⟩
  by_cases hlt : i' < items.length
  · refine .inr ⟨w.goes i' _ hlt (hG _ (kp _)), fun H' => H' = upd H1 L (.lst ((items.take (i' + 1)).flatMap f)), fun H' p' => ⟨_, by omega, rfl, hlt, p'⟩, fun x H' y => ?_⟩
    obtain ⟨e1, rv⟩ := hat i' x _ H' hlt (kp _) (w.yields i' _ x H' hlt (hG _ (kp _)) y)
    subst e1
    have hit : items[i']? = some (items[i']'hlt) := List.getElem?_eq_getElem hlt
    generalize items[i']'hlt = it at hit rv
    rw [he] at rv
    simp only [rep] at rv
    obtain ⟨b, us, rfl, nb, hb, hr⟩ := rv
    obtain rfl : us = f it := repL_flat.mp hr
    have bL : b ≠ L := fun z => nb (by rw [z]; exact List.mem_cons_self)
    have hb1 : H1 b = some (.tup (f it)) := by rw [upd_ne bL] at hb; exact hb
    have tk : items.take (i' + 1) = items.take i' ++ [it] := by
      rw [List.take_add_one, hit]
      rfl
    have hz1 : ((items.take i').flatMap f).length + (f it).length ≤ 16777216 := by
      have : ((items.take (i' + 1)).flatMap f).length ≤ (items.flatMap f).length := by
        conv => rhs; rw [← List.take_append_drop (i' + 1) items, List.flatMap_append, List.length_append]
        exact Nat.le_add_right _ _
      rw [tk, List.flatMap_append, List.length_append] at this
      simp only [List.flatMap_cons, List.flatMap_nil, List.append_nil] at this
      omega
    have li : i < (wipe σ [i, j]).length := by rw [wipe_length]; exact hi
    show wipe ((wipe σ [i, j]).set i (some (.ref b))) [i, j] = wipe σ [i, j] ∧ _
    refine ⟨by rw [wipe_set (by simp), wipe_idem], ?_⟩
    unfold tYes
    simp only [if_true]
    refine ⟨.ref b, by rw [List.getElem?_set_self li], b, rfl, ⟨f it, .inl (.inl hb)⟩, ?_⟩
    refine ⟨fun j' k H => k = (f it).length - j' ∧ j' ≤ (f it).length ∧ H = upd H1 L (.lst ((items.take i').flatMap f ++ (f it).take j')), ⟨_, rfl, Nat.zero_le _, by simp⟩, ?_⟩
    rintro j' k H ⟨rfl, hj', rfl⟩
    have hB : (upd H1 L (.lst ((items.take i').flatMap f ++ (f it).take j'))) b = some (.tup (f it)) := by rw [upd_ne bL]; exact hb1
    by_cases hlt2 : j' < (f it).length
    · refine .inr ⟨⟨f it, (f it)[j'], .inl (.inl hB), by simp [hlt2]⟩, fun H' => H' = upd H1 L (.lst ((items.take i').flatMap f ++ (f it).take (j' + 1))), fun H' p' => ⟨_, by omega, rfl, hlt2, p'⟩, fun x H' y => ?_⟩
      obtain ⟨e1, y⟩ := y
      subst e1
      have hxj := y (f it) (.inl (.inl hB))
      have lj : j < (wipe ((wipe σ [i, j]).set i (some (.ref b))) [j]).length := by rw [wipe_length, List.length_set, wipe_length]; exact hj
      show wipe ((wipe ((wipe σ [i, j]).set i (some (.ref b))) [j]).set j (some x)) [j] = wipe ((wipe σ [i, j]).set i (some (.ref b))) [j] ∧ _
      refine ⟨by rw [wipe_set (by simp), wipe_idem], ?_⟩
      refine ⟨x, by rw [List.getElem?_set_self lj], _, upd_same, ?_, ?_⟩
      · rw [List.length_append, List.length_take, sizeLine_eq]
        omega
      · rw [upd_upd, List.append_assoc, List.take_add_one, hxj]
        rfl
    · refine .inl ⟨⟨f it, .inl (.inl hB), by omega⟩, ?_⟩
      show _ = _
      rw [tk, List.flatMap_append, List.take_of_length_le (l := f it) (by omega)]
      simp
  · have ei : i' = items.length := by omega
    refine .inl ⟨by rw [ei]; exact w.stops _ (hG _ (by rw [← ei]; exact kp _)), ?_⟩
    rw [List.take_of_length_le (by omega)]
    exact q L nl
theorem lc2_flatCS {α β : Type} {items : List α} {e : α → D} {g : α → List β} {c : β → V} {ms : List Addr} {i j : Nat} {Qd : Addr → Hp → Prop}
    (he : ∀ y, e y = D.tup ((g y).map fun z => D.v (c z))) (P : ∀ L, H1 L = none → SeqIt (L :: ms) H1 J items e) (hz : (items.flatMap g).length ≤ 16777216)
    (hi : i < σ.length) (hj : j < σ.length) (ij : i ≠ j) (q : ∀ L, H1 L = none → Qd L (upd H1 L (.lst ((items.flatMap g).map c)))) :
    ∀ D, H1 D = none → ∃ W : Nat → Nat → Hp → Prop, (∃ m, W 0 m (upd H1 D (.lst []))) ∧ ∀ i' m H, W i' m H →
      (J.stop i' H ∧ Qd D H) ∨ (J.go i' H ∧ ∃ Nx : Hp → Prop, (∀ H', Nx H' → ∃ m', m' < m ∧ W (i' + 1) m' H') ∧ ∀ x H', J.yld i' H x H' → gName i x (wipe σ [i, j]) H' fun σ2 H2 => wipe σ2 [i, j] = wipe σ [i, j] ∧ tYes σ2 H2 fun b H3 =>
        if b = true then iTup K (tVar i) σ2 H3 fun J1 H4 => ∃ W1 : Nat → Nat → Hp → Prop, (∃ m, W1 0 m H4) ∧ ∀ j' k H, W1 j' k H →
          (J1.stop j' H ∧ Nx H) ∨ (J1.go j' H ∧ ∃ Nx1 : Hp → Prop, (∀ H', Nx1 H' → ∃ k', k' < k ∧ W1 (j' + 1) k' H') ∧ ∀ x H', J1.yld j' H x H' → gName j x (wipe σ2 [j]) H' fun σ3 H5 => wipe σ3 [j] = wipe σ2 [j] ∧ tYes σ3 H5 fun b H6 =>
            if b = true then tVar j σ3 H6 fun y H7 => ∃ acc, H7 D = some (.lst acc) ∧ acc.length < sizeLine ∧ Nx1 (upd H7 D (.lst (acc ++ [y]))) else Nx1 H6)
        else Nx H3) := by
  have ef : items.flatMap (fun y => (g y).map c) = (items.flatMap g).map c := by rw [List.map_flatMap]
  refine lc2_flatS (f := fun y => (g y).map c) (fun y => ?_) P ?_ hi hj ij ?_
  · rw [he, List.map_map]
    rfl
  · rw [ef, List.length_map]
    exact hz
  · rw [ef]
    exact q
end
def SqJ (K : PySem.W.Frag) (H : Hp) (J : It) (a : Addr) : Prop := (J = Itl K a ∧ ∃ xs, SqL K H a xs) ∨ (J = Itt K a ∧ ∃ xs, SqT K H a xs)
def iSeq (K : PySem.W.Frag) (tl : TE) : TI := fun σ H R => tl σ H fun x H1 => ∃ a, x = .ref a ∧ ∃ J, SqJ K H1 J a ∧ R J H1
theorem pi_seq {X : Cx} {tg l : PySem.Expr} {tl : TE} (hl : PE X l tl) : PI X tg l (iSeq X.K tl) := by
  refine ⟨fun pins s σ H R I h => ?_⟩
  refine thn (hl.run pins s σ H _ I h) fun v s1 ⟨x, H1, I1, r1, q1⟩ => ?_
  obtain ⟨a, e, J, sq, q⟩ := q1
  subst e
  cases r1
  rcases sq with ⟨rfl, xs, hq⟩ | ⟨rfl, xs, hq⟩
  · obtain ⟨its, rv, p, hz⟩ := I1.list hq
    refine wpAny_pyIter_list p.isList ?_
    refine ⟨s1.heap.objs.size, [s1.heap.objs.size], _, _, H1, rfl, I1.kept (t' := s1.toks) fun b o e => Heap.get?_push_of_some _ e, turn_list a _, ⟨_, Heap.get?_push_size _ rfl, rfl, rfl⟩, fun b hb => ?_, q⟩
    have e : b = s1.heap.objs.size := by simpa using hb
    subst e
    exact I1.fpOk (Nat.le_refl _) (I1.hok.fresh (Nat.le_refl _))
  · obtain ⟨its, rv, p, hz⟩ := I1.tuple hq
    refine wpAny_pyIter_tuple (show s1.heap.IsTuple a its.toArray from p) ?_
    refine ⟨s1.heap.objs.size, [s1.heap.objs.size], _, _, H1, rfl, I1.kept (t' := s1.toks) fun b o e => Heap.get?_push_of_some _ e, turn_tuple a _, ⟨_, Heap.get?_push_size _ rfl, rfl, rfl⟩, fun b hb => ?_, q⟩
    have e : b = s1.heap.objs.size := by simpa using hb
    subst e
    exact I1.fpOk (Nat.le_refl _) (I1.hok.fresh (Nat.le_refl _))
theorem pi_seqK {X : Cx} {K : PySem.W.Frag} {tg l : PySem.Expr} {tl : TE} (hK : X.K = K) (hl : PE X l tl) : PI X tg l (iSeq K tl) := by
  subst hK
  exact pi_seq hl
def SqE (K : PySem.W.Frag) (H : Hp) (J : It) (a : Addr) : Prop := (J = Ite K a ∧ ∃ xs, SqL K H a xs) ∨ (J = IteT K a ∧ ∃ xs, SqT K H a xs)
def iEnumS (K : PySem.W.Frag) (ta : TA) : TI := fun σ H R => ta σ H fun vs H1 => ∃ a, vs = [.ref a] ∧ ∃ J, SqE K H1 J a ∧ R J H1
theorem pi_enumS {X : Cx} {K : PySem.W.Frag} {e : PySem.Expr} {ta : TA} {p pos tpos : Pos} {elts : List PySem.Expr} {kk : Nat} (hK : X.K = K) (hg : Gl X "enumerate") (hm : X.mg "enumerate" = none) (ha : PA X [e] ta) (hs : starEach [e] X.env = [(false, eval e X.env)] := by rfl) :
    PI X (.Tuple elts kk tpos) (.Call (.Name "enumerate" p) [e] [] pos) (iEnumS K ta) := by
  subst hK
  refine ⟨fun pins s σ H R I h => ?_⟩
  refine Call_ (ld_blt I hg hm boot_enumerate (PyProof.Rows.callWith_type1 (thn (ha.run pos pins s σ H _ I h) fun us s1 ⟨vs, H1, I1, r1, q1⟩ => ?_) hs rfl))
  obtain ⟨a, ex, J, sq, q⟩ := q1
  subst ex
  cases r1 with
  | cons r rr =>
    cases rr
    cases r
    have fin : ∀ b, b = s1.heap.objs.size + 1 ∨ b = s1.heap.objs.size → FpOk X pins H1 b := fun b e' => by
      have hle : s1.heap.objs.size ≤ b := by
        rcases e' with z | z
        · rw [z]; exact Nat.le_add_right _ _
        · rw [z]; exact Nat.le_refl _
      exact I1.fpOk hle (I1.hok.fresh hle)
    rcases sq with ⟨rfl, xs, hq⟩ | ⟨rfl, xs, hq⟩
    · obtain ⟨its, rv, p', hz⟩ := I1.list hq
      refine call_enumerate_list p'.isList fun h' he hit hsz hk => wpAny_pyIter_enum he ?_
      have I2 : Inv X pins σ H1 { s1 with heap := h' } := I1.kept (t' := s1.toks) hk
      exact ⟨s1.heap.objs.size + 1, [s1.heap.objs.size + 1, s1.heap.objs.size], _, _, H1, rfl, I2, turn_enum a (s1.heap.objs.size + 1) s1.heap.objs.size, ⟨⟨.none, he⟩, hit, Nat.succ_ne_self _⟩, fun b hb => fin b (by simpa using hb), q⟩
    · obtain ⟨its, rv, p', hz⟩ := I1.tuple hq
      have hal : a < s1.heap.objs.size := by
        obtain ⟨o, ho, _⟩ := p'
        exact Heap.lt_size ho
      refine call_enum_tup p' fun h' he hit hsz hk => wpAny_pyIter_enum he ?_
      have I2 : Inv X pins σ H1 { s1 with heap := h' } := I1.kept (t' := s1.toks) hk
      exact ⟨s1.heap.objs.size + 1, [s1.heap.objs.size + 1, s1.heap.objs.size], _, _, H1, rfl, I2, turn_enumT a (s1.heap.objs.size + 1) s1.heap.objs.size (Nat.succ_ne_self _) (Nat.ne_of_lt hal), ⟨⟨.none, he⟩, hit⟩, fun b hb => fin b (by simpa using hb), q⟩
section
variable {α : Type} {K : PySem.W.Frag} {ms : List Addr} {ps : List PEn} {H0 H : Hp} {x u : V} {f : α → D} {m : Bool × List α}
theorem rep_sq (h : rep ms H (eSq f m) u) : ∃ p vs, u = .ref p ∧ p ∉ ms ∧ (m.1 = false ∧ H p = some (.lst vs) ∨ m.1 = true ∧ H p = some (.tup vs)) ∧ repL ms H (m.2.map f) vs := by
  obtain ⟨b, xs⟩ := m
  cases b
  · have h' : rep ms H (.lst (xs.map f)) u := h
    simp only [rep] at h'
    obtain ⟨p, vs, e, n, hp, hr⟩ := h'
    exact ⟨p, vs, e, n, .inl ⟨rfl, hp⟩, hr⟩
  · have h' : rep ms H (.tup (xs.map f)) u := h
    simp only [rep] at h'
    obtain ⟨p, vs, e, n, hp, hr⟩ := h'
    exact ⟨p, vs, e, n, .inr ⟨rfl, hp⟩, hr⟩
theorem rep_sqL {xs : List α} (h : rep ms H (.lst (xs.map f)) u) : rep ms H (eSq f (false, xs)) u := h
theorem rep_sqT {xs : List α} (h : rep ms H (.tup (xs.map f)) u) : rep ms H (eSq f (true, xs)) u := h
theorem rep_lenSq {P : Nat → Prop} (h : rep ms H (eSq f m) x) (k : P m.2.length) : ∃ y n, [x] = [y] ∧ LenV K y H n ∧ P n := by
  obtain ⟨p, vs, rfl, _, hp, hr⟩ := rep_sq h
  have hl := repL_len hr
  rw [List.length_map] at hl
  rcases hp with ⟨_, hp⟩ | ⟨_, hp⟩
  · exact ⟨_, m.2.length, rfl, .inl ⟨vs, .inl (.inl hp), hl⟩, k⟩
  · exact ⟨_, m.2.length, rfl, .inr ⟨vs, .inl (.inl hp), hl⟩, k⟩
theorem ix_seqK {X : Cx} (hK : X.K = K) : IxR X (fun x y H Q => rIxL K x y H Q ∨ rIxT K x y H Q) := IxR.or (ix_listK hK) (ix_tupK hK)
theorem rep_ixSq {i : Int} {Q : VK} (h : rep ms H (eSq f m) x) (h0 : 0 ≤ i) (hi : i.toNat < m.2.length) (k : ∀ v, rep ms H (f (m.2[i.toNat]'hi)) v → Q v H) : rIxL K x (.int i) H Q ∨ rIxT K x (.int i) H Q := by
  obtain ⟨b, xs⟩ := m
  cases b
  · exact .inl (rep_ixL (e := f) (xs := xs) h h0 hi k)
  · exact .inr (rep_ixTup (e := f) (xs := xs) h h0 hi k)
theorem rep_isiSq {tp : Addr} {P : Bool → Prop} (h : rep ms H (eSq f m) u) (ht : H tp = some (.tup [.ty "list", .ty "tuple"])) (q : P true) :
    ∃ (x : V) (tp' : Addr) (cs : List V) (t : Value) (us : List Value) (b' : Bool), [u, .ref tp] = [x, .ref tp'] ∧ H tp' = some (.tup cs) ∧ Paired ClsV cs us ∧ TyX K H x t ∧ PySem.W.kitAny K t us = some b' ∧ P b' := by
  obtain ⟨b, xs⟩ := m
  cases b
  · exact rep_isi2 (d := .lst (xs.map f)) (a := "list") (b := "list") (c := "tuple") (r1 := true) (r2 := false) h (by rfl) (by rfl) ht (by decide +kernel) (by decide +kernel) q
  · exact rep_isi2 (d := .tup (xs.map f)) (a := "tuple") (b := "list") (c := "tuple") (r1 := false) (r2 := true) h (by rfl) (by rfl) ht (by decide +kernel) (by decide +kernel) q
theorem rep_iterSq {P : Addr → It → Prop} (h : rep ms H (eSq f m) x) (k : ∀ (a : Addr) (J : It), x = .ref a → SeqIt ms H J m.2 f → (∀ L, H L = none → SeqIt (L :: ms) H J m.2 f) → P a J) : ∃ a, x = .ref a ∧ ∃ J, SqJ K H J a ∧ P a J := by
  obtain ⟨p, vs, e, n, hp, hr⟩ := rep_sq h
  rcases hp with ⟨_, hp⟩ | ⟨_, hp⟩
  · exact ⟨p, e, Itl K p, .inl ⟨rfl, vs, .inl (.inl hp)⟩, k p _ e (seqIt_list n hp hr) fun L nl => seqIt_list (nin_new nl n hp) hp (repL_new nl hr)⟩
  · exact ⟨p, e, Itt K p, .inr ⟨rfl, vs, .inl (.inl hp)⟩, k p _ e (seqIt_tup n hp hr) fun L nl => seqIt_tup (nin_new nl n hp) hp (repL_new nl hr)⟩
theorem rep_iterES {P : Addr → It → Prop} (h : rep ms H (eSq f m) x) (k : ∀ (a : Addr) (J : It), x = .ref a → PairIt ms H J ((rangeI 0 (m.2.length : Int)).zip m.2) (fun i => .v (.int i)) f → (∀ L, H L = none → PairIt (L :: ms) H J ((rangeI 0 (m.2.length : Int)).zip m.2) (fun i => .v (.int i)) f) → P a J) : ∃ a, [x] = [.ref a] ∧ ∃ J, SqE K H J a ∧ P a J := by
  obtain ⟨p, vs, e, n, hp, hr⟩ := rep_sq h
  rcases hp with ⟨_, hp⟩ | ⟨_, hp⟩
  · exact ⟨p, by rw [e], Ite K p, .inl ⟨rfl, vs, .inl (.inl hp)⟩, k p _ e (pair_enum n hp hr) fun L nl => pair_enum (nin_new nl n hp) hp (repL_new nl hr)⟩
  · exact ⟨p, by rw [e], IteT K p, .inr ⟨rfl, vs, .inl (.inl hp)⟩, k p _ e (pair_enumT n hp hr) fun L nl => pair_enumT (nin_new nl n hp) hp (repL_new nl hr)⟩
end
end Rx
namespace Rx
open PySem PySem.Spec PyProof.Rows L2
section
variable {X : Cx}
end
section
variable {prog : Program} {w : World} {A : Around} {R : Result → Shared → Prop} {s : Shared} {kx vx t0 i0 t1 i1 : PySem.Expr} {ifs0 ifs1 : List PySem.Expr} {scope : Scope} {pos : Pos} {it : Value} {D : Addr} {env : Env}
end

section
variable {X : Cx}
end
end Rx
namespace Rx
open PySem PySem.Spec PyProof.Rows L2
theorem putD_len {α κ : Type} [DecidableEq κ] (m : List (κ × α)) (k : κ) (y : α) : (putD m k y).length ≤ m.length + 1 := by
  unfold putD
  split
  · rw [List.length_map]
    omega
  · rw [List.length_append]
    show m.length + 1 ≤ _
    omega
section
variable {α : Type} {K : PySem.W.Frag} {H1 : Hp} {σ : L2.St} {J : It} {ms : List Addr}
end
section
variable {ms : List Addr} {ps : List PEn} {H0 H H' : Hp} {L : Addr}
end
end Rx
namespace Rx
open PySem PySem.Spec PyProof.Rows L2
section
variable {α : Type} {ms : List Addr} {H : Hp} {x kx : V} {e : α → D}
end
end Rx
namespace Rx
open PySem PySem.Spec PyProof.Rows L2
def rOwnLen (C : Addr) (sp : Sp) (E : XK) : List V → Hp → VK → Prop := fun xs H Q => ∃ (x : V) (a dx : Addr) (fs : List (Str × V)), xs = [x] ∧ x = .ref a ∧ H a = some (.ins C dx fs) ∧ sp [x] H (fun v H' => ∃ j : Int, v = .int j ∧ (0 ≤ j ∧ j < 4611686018427387904) ∧ Q v H') E
section
variable {X : Cx} {n : Nat} {CX : CXT} {C f : Addr} {fd : FuncData} {ps : List Str} {sp : Sp} {E : XK}
theorem ownLen_run (F : FnOk X.prog X.w X.K X.mg X.base CX n f fd ps sp) {A : Around} (hr : Room n A) (hb : Binds X.K fd ps []) (hx : Passes CX X E) {pins : List (Addr × Obj)} {σ : L2.St} {H : Hp} {s : Shared} {a : Addr} {Q : VK} (I : Inv X pins σ H s)
    (en : Env0 X.prog X.w X.K X.mg X.base A X.stack s H) (h : sp [.ref a] H (fun v H' => ∃ j : Int, v = .int j ∧ (0 ≤ j ∧ j < 4611686018427387904) ∧ Q v H') E) :
    wpAny (model X.prog X.w) A (call (.ref f) [.ref a]) (fun v s' => ∃ (j : Int) (t : Tok) (H' : Hp), v = .int j t ∧ (0 ≤ j ∧ j < 4611686018427387904) ∧ Inv X pins σ H' s' ∧ Q (.int j) H') X.xe s := by
  have hl := F.len _ _ _ _ h
  have bt := hb s [.ref a] I.kIn (by rw [List.append_nil]; exact hl)
  rw [List.append_nil] at bt
  refine wpAny_call (codeAny_mono (F.run A X.stack s H ⟨[.ref a], []⟩ [.ref a] [.ref a] _ E hr en bt (.cons rfl .nil) h) fun out s' hq => ?_)
  rcases out with err | fl
  · exact hx pins σ H s err s' I hq
  · rcases fl with _ | _ | _ | u
    · exact hq.elim
    · exact hq.elim
    · exact hq.elim
    · obtain ⟨v, H', I', rv, j, ej, hj, q⟩ := I.after hq
      subst ej
      obtain ⟨t, rfl⟩ := rv
      exact ⟨j, t, H', rfl, hj, I', q⟩
theorem call_lenOwn (F : FnOk X.prog X.w X.K X.mg X.base CX n f fd ps sp) (hr : Room (n + 1) X.A) (o : OwnText X.K C "__len__" f) (hb : Binds X.K fd ps []) (hx : Passes CX X E) : CallR X (.builtin "len") (rOwnLen C sp E) := by
  intro pins s σ H xs us Q I r h
  obtain ⟨x, a, dx, fs, rfl, rfl, ha, hsp⟩ := h
  obtain ⟨u, rfl, ru⟩ := r.one
  cases ru
  obtain ⟨mA, J, _⟩ := ins_get I.hok ha
  obtain ⟨od, J, _⟩ := J.look
  refine Calls.call_function_entry kind_len plain_len entry_len (args_len1 _) ?_
  unfold Builtin.«len»
  refine wpAny_bind (m := oneArg "len" _) (wpAny_pure ?_)
  refine wpAny_bind (m := callSpecial? (.ref a) (Str.ofString "__len__")) (PySem.W.special_fn I.kIn J o.hs (beq_iff_eq.mp o.hf) (wpAny_mono (ownLen_run (A := X.A.in1) F hr.in1 hb hx I I.env0.in1 hsp) (fun v s' hv => ?_) fun _ _ y => y))
  obtain ⟨j, t, H', rfl, hj, I', q⟩ := hv
  refine wpAny_bind (wpAny_holding (wpAny_pure ?_))
  refine wpAny_bind (wpAny_letGo ?_)
  show wpAny _ _ (if j < 0 then _ else _) _ _ _
  rw [if_neg (by omega)]
  show wpAny _ _ (if j ≥ 2 ^ 63 then _ else _) _ _ _
  rw [if_neg (by omega)]
  exact wpAny_bind (wpAny_mkInt (wpAny_pure ⟨_, rfl, .int j, H', I'.tok _, ⟨_, rfl⟩, q⟩))
end
end Rx
namespace Rx
open PySem PySem.Spec PyProof.Rows L2
theorem rep_ownLen {ms : List Addr} {H : Hp} {C : Addr} {ns : List Str} {ds : List D} {u : V} {P : V → Prop} (h : rep ms H (.ins C ns ds) u) (k : P u) :
    ∃ (x : V) (a dx : Addr) (fs : List (Str × V)), [u] = [x] ∧ x = .ref a ∧ H a = some (.ins C dx fs) ∧ P x := by
  obtain ⟨p, dx, fs, e, hp⟩ := rep_ins h
  exact ⟨u, p, dx, fs, rfl, e, hp, k⟩
end Rx
namespace Rx
open PySem PySem.Spec PyProof.Rows L2
end Rx
namespace Rx
open PySem PySem.Spec PyProof.Rows L2
section
variable {K : PySem.W.Frag} {ms ms2 : List Addr} {H : Hp} {x y : V} {d : D} {es : List D} {Q : VK}
end
end Rx
namespace Rx
open PySem PySem.Spec PyProof.Rows L2
end Rx
namespace Rx
open PySem PySem.Spec PyProof.Rows L2
theorem kt_putAll {H : Hp} : ∀ {new : List (List L2.Key × V)} {ps : List (List L2.Key × Addr × Value)} {kvs : List (List L2.Key × V)} {xs : List (List L2.Key × Addr × Value)}, L2.KT H new ps → L2.KT H kvs xs → L2.KT H (new.foldl (fun m kv => L2.putK m kv.1 kv.2) kvs) (PySem.storedAllH xs ps)
  | _, _, _, _, .nil, r => r
  | _, _, kvs, xs, .cons (a := p) (b := q) (l₁ := new) (l₂ := ps) h t, r => by
    show L2.KT H (new.foldl (fun m kv => L2.putK m kv.1 kv.2) (L2.putK kvs p.1 p.2)) (PySem.storedAllH (PySem.storedH xs q.1 q.2.1 q.2.2) ps)
    refine kt_putAll t ?_
    rw [← h.1]
    exact r.put p.1 h.2.1 h.2.2
theorem pairsT_of {X : Cx} {pins : List (Addr × Obj)} {σ : L2.St} {H : Hp} {s : Shared} (I : Inv X pins σ H s) : ∀ {ts : List Addr} {new : List (List L2.Key × V)}, Paired (fun t kv => ∃ b, H t = some (.tup [V.ref b, kv.2]) ∧ H b = some (.tup (kv.1.map kV))) ts new →
    ∃ ps : List (List L2.Key × Addr × Value), L2.KT H new ps ∧ ps.length = ts.length ∧ ∀ (j : Nat) (p : List L2.Key × Addr × Value), ps[j]? = some p → ∃ t, ts[j]? = some t ∧ IsTup s.heap t #[.ref p.2.1, p.2.2]
  | _, _, .nil => ⟨[], .nil, rfl, fun j q e => by simp at e⟩
  | _, _, .cons (a := t) (b := kv) ⟨b, h1, h2⟩ r => by
    obtain ⟨ps, k, hl, hp⟩ := pairsT_of I r
    obtain ⟨its, rv, ht, _⟩ := I.tuple (SqT.of h1)
    obtain ⟨u, y, ei, ru, ry⟩ := vals2 rv
    subst ei
    cases ru
    refine ⟨(kv.1, b, y) :: ps, .cons ⟨rfl, h2, ry⟩ k, by rw [List.length_cons, List.length_cons, hl], fun j q e => ?_⟩
    cases j with
    | zero =>
      have e' : (kv.1, b, y) = q := Option.some.inj e
      subst e'
      exact ⟨t, rfl, ht⟩
    | succ j =>
      obtain ⟨t', e1, e2⟩ := hp j q (by simpa using e)
      exact ⟨t', by simpa using e1, e2⟩
theorem paired_left {α β : Type} {F : α → β → Prop} : ∀ {l₁ : List α} {l₂ : List β}, Paired F l₁ l₂ → ∀ a ∈ l₁, ∃ b, F a b
  | _, _, .nil, a, h => nomatch h
  | _, _, .cons (b := b) f t, a, h => by
    rcases List.mem_cons.mp h with rfl | h
    · exact ⟨b, f⟩
    · exact paired_left t a h
theorem paired_right {α β : Type} {F : α → β → Prop} : ∀ {l₁ : List α} {l₂ : List β}, Paired F l₁ l₂ → ∀ b ∈ l₂, ∃ a, F a b
  | _, _, .nil, a, h => nomatch h
  | _, _, .cons (a := a) f t, b, h => by
    rcases List.mem_cons.mp h with rfl | h
    · exact ⟨a, f⟩
    · exact paired_right t b h
theorem foldPut_len : ∀ (new : List (List L2.Key × V)) (kvs : List (List L2.Key × V)), (new.foldl (fun m kv => L2.putK m kv.1 kv.2) kvs).length ≤ kvs.length + new.length
  | [], kvs => Nat.le_refl _
  | p :: new, kvs => by
    rw [List.foldl_cons, List.length_cons]
    refine Nat.le_trans (foldPut_len new _) ?_
    have : (L2.putK kvs p.1 p.2).length ≤ kvs.length + 1 := by
      unfold L2.putK
      split
      · rw [List.length_map]; omega
      · rw [List.length_append]; exact Nat.le_refl _
    omega
def rUpdateT : V → List V → Hp → VK → Prop := fun x xs H Q => ∃ (a l : Addr) (kvs : List (List L2.Key × V)) (ts : List Addr) (new : List (List L2.Key × V)), x = .ref a ∧ xs = [.ref l] ∧ H a = some (.dT kvs) ∧ H l = some (.lst (ts.map V.ref)) ∧
  Paired (fun t kv => ∃ b, H t = some (.tup [V.ref b, kv.2]) ∧ H b = some (.tup (kv.1.map kV))) ts new ∧ kvs.length + new.length ≤ sizeLine ∧ Q .non (upd H a (.dT (new.foldl (fun m kv => L2.putK m kv.1 kv.2) kvs)))
theorem mt_updateT {X : Cx} (hcalm : X.calm = true) (hu : X.A.units + 1 < cLine) : MtR X "dict.update" rUpdateT := by
  intro pins s σ H x xs v us Q I rx rxs h
  obtain ⟨a, l, kvs, ts, new, rfl, rfl, ha, hl, hp, hz, q⟩ := h
  cases rx
  obtain ⟨u, rfl, ru⟩ := vals1 rxs
  cases ru
  obtain ⟨z, hd, xs', rel, dd⟩ := dt_of I.hok ha
  obtain ⟨its, rv, ⟨ol, n, ho, hc, hdn, hdat⟩, hzl⟩ := I.list (SqL.of (K := X.K) hl)
  have ei := refs_at rv
  subst ei
  obtain ⟨ps, kt, pl, pat⟩ := pairsT_of I hp
  have nl := Paired.length hp
  have tt : ∀ {t : Addr} {us : List V}, H t = some (.tup us) → t ≠ a := fun e w => by
    rw [w, ha] at e
    cases e
  have tsn : ∀ t ∈ ts, t ≠ a := fun t ht => by
    obtain ⟨y, b, e, _⟩ := paired_left hp t ht
    exact tt e
  refine PySem.call_update_pairsH (knd := tupleKind (mixKind X.prog X.w)) (acc := xs') (ps := ps) (PySem.PairArg.list l (ts.map Value.ref).toArray (fun j => ts.getD j 0) (ps.map fun p => (Value.ref p.2.1, p.2.2))) (I.ok.hd hcalm) (tupleKind_room_in1 hu) ⟨⟨ol, n, ho, hc, hdn, hdat⟩, ?_, ?_⟩ ?_ ?_ ?_ dd ?_ ?_
  · simp [pl]
  · intro j k v e
    rw [List.getElem?_map] at e
    obtain ⟨p, e1, e2⟩ := Option.map_eq_some_iff.mp e
    obtain ⟨t, e3, e4⟩ := pat j p e1
    cases e2
    have g : ts.getD j 0 = t := by rw [List.getD_eq_getElem?_getD, e3]; rfl
    refine ⟨by simp [e3], ?_⟩
    show PairAt s.heap (ts.getD j 0) _ _
    rw [g]
    obtain ⟨o, h1, h2, m, h3⟩ := e4
    exact .inl ⟨o, h1, h2, m, h3⟩
  · intro w
    rcases List.mem_cons.mp w with w | w
    · rw [← w, ha] at hl
      cases hl
    · obtain ⟨j, hj, e⟩ := List.mem_map.mp w
      have hj := List.mem_range.mp hj
      rw [List.length_map, pl] at hj
      have g : ts.getD j 0 = ts[j]'hj := by rw [List.getD_eq_getElem?_getD, List.getElem?_eq_getElem hj]; rfl
      exact tsn _ (List.getElem_mem hj) (g.symm.trans e)
  · refine ⟨by rw [List.length_map], fun i key v e => ?_⟩
    have e : (ps.map fun p => (Value.ref p.2.1, p.2.2))[i]? = some (key, v) := e
    rw [List.getElem?_map] at e
    obtain ⟨p, e1, e2⟩ := Option.map_eq_some_iff.mp e
    cases e2
    exact ⟨p.1, p.2.1, e1, rfl⟩
  · intro h' hk x hx
    have hb : ∃ y : List L2.Key, x.1 = y ∧ H x.2.1 = some (.tup (y.map kV)) := by
      rcases List.mem_append.mp hx with w | w
      · obtain ⟨p, e1, e2, _⟩ := paired_right rel x w
        exact ⟨p.1, e1.symm, e2⟩
      · obtain ⟨p, e1, e2, _⟩ := paired_right kt x w
        exact ⟨p.1, e1.symm, e2⟩
    obtain ⟨y, e1, e2⟩ := hb
    obtain ⟨o, items, m, h1, h2, h3, h4⟩ := key_of I.hok e2
    rw [e1]
    exact ⟨o, items, m, hk _ _ (tt e2) (by simp) h1, h2, h3, h4⟩
  · rw [List.length_map, ← Paired.length rel, ← Paired.length kt]
    exact hz
  · intro h' tk dd' hk
    obtain ⟨o, es, ep, hq, h2, h3, h4, _, h5⟩ := dd'
    have I2 : Inv X pins σ (upd H a (.dT (new.foldl (fun m kv => L2.putK m kv.1 kv.2) kvs))) { s with heap := h', toks := tk } :=
      I.write (x := a) (e := a) (by rw [ha]; exact True.intro) (.inl rfl) (fun b q hb w => hk b q hb (by simp) w) ⟨o, hq⟩
        ⟨Nat.le_trans (foldPut_len new kvs) hz, hd, _, (kt_putAll kt rel).keeps (fun c ys ec => (by rw [upd_ne (ne_of ec ha (fun z => nomatch z))]; exact ec)), o, es, ep, hq, h2, h3, h4, h5⟩
    exact ⟨.non, _, I2, rfl, q⟩
section
variable {α β : Type} {K : PySem.W.Frag} {ms : List Addr} {ps : List PEn} {H0 H : Hp} {L : Addr} {x kx : V} {e : α → D}
theorem put_zipT {m : List (List L2.Key × α)} {ks : List L2.Key} {y : α} {v : V} {vs : List V} (h2 : (m.map (·.1)).length = vs.length) (h3 : repL ms H (m.map fun q => e q.2) vs) (rv : rep ms H (e y) v) :
    ∃ vs', L2.putK ((m.map (·.1)).zip vs) ks v = ((putD m ks y).map (·.1)).zip vs' ∧ ((putD m ks y).map (·.1)).length = vs'.length ∧ repL ms H ((putD m ks y).map fun q => e q.2) vs' := by
  have hl : m.length = vs.length := by rw [← h2, List.length_map]
  unfold L2.putK
  rw [zip_fst_any hl]
  unfold putD
  by_cases c : (m.any fun q => decide (q.1 = ks)) = true
  · rw [if_pos c, if_pos c, putK_map (y := y) hl]
    exact ⟨_, rfl, by simp [hl], repL_mapT rv h3⟩
  · rw [if_neg c, if_neg c]
    have z : (m.map (·.1)).zip vs ++ [(ks, v)] = ((m ++ [(ks, y)]).map (·.1)).zip (vs ++ [v]) := by
      rw [List.map_append, List.zip_append h2]
      rfl
    rw [z]
    refine ⟨_, rfl, by simp [hl], ?_⟩
    rw [List.map_append]
    exact repL_app h3 (repL_one rv)
theorem put_allT {kf : β → List L2.Key} {vf : β → α} : ∀ {xs : List β} {new : List (List L2.Key × V)} {m : List (List L2.Key × α)} {vs : List V}, Paired (fun y kv => kv.1 = kf y ∧ rep ms H (e (vf y)) kv.2) xs new → (m.map (·.1)).length = vs.length → repL ms H (m.map fun q => e q.2) vs →
    ∃ vs', new.foldl (fun m kv => L2.putK m kv.1 kv.2) ((m.map (·.1)).zip vs) = ((xs.foldl (fun m y => putD m (kf y) (vf y)) m).map (·.1)).zip vs' ∧ ((xs.foldl (fun m y => putD m (kf y) (vf y)) m).map (·.1)).length = vs'.length ∧ repL ms H ((xs.foldl (fun m y => putD m (kf y) (vf y)) m).map fun q => e q.2) vs'
  | _, _, m, vs, .nil, h2, h3 => ⟨vs, rfl, h2, h3⟩
  | _, _, m, vs, .cons (a := y) (b := kv) ⟨k1, k2⟩ t, h2, h3 => by
    obtain ⟨vs', a1, a2, a3⟩ := put_zipT (ks := kv.1) h2 h3 k2
    obtain ⟨vs'', b1, b2, b3⟩ := put_allT t a2 a3
    rw [List.foldl_cons, List.foldl_cons, a1]
    rw [k1] at a1 a2 a3 b1 b2 b3 ⊢
    exact ⟨vs'', b1, b2, b3⟩
theorem pairs_repT {kf : β → List L2.Key} {vf : β → α} : ∀ {xs : List β} {vs : List V}, repL ms H (xs.map fun y => D.tup [D.tup ((kf y).map fun k => D.v (kV k)), e (vf y)]) vs →
    ∃ (ts : List Addr) (new : List (List L2.Key × V)), vs = ts.map V.ref ∧ Paired (fun t kv => ∃ b, H t = some (.tup [V.ref b, kv.2]) ∧ H b = some (.tup (kv.1.map kV))) ts new ∧ Paired (fun y kv => kv.1 = kf y ∧ rep ms H (e (vf y)) kv.2) xs new ∧ new.length = xs.length
  | [], vs, h => by
    have := repL_empty h
    subst this
    exact ⟨[], [], rfl, .nil, .nil, rfl⟩
  | y :: xs, vs, h => by
    obtain ⟨u, us, rfl, h1, h2⟩ := repL_uncons h
    obtain ⟨ts, new, rfl, p1, p2, nl⟩ := pairs_repT h2
    simp only [rep] at h1
    obtain ⟨t, ws, rfl, _, ht, hr⟩ := h1
    obtain ⟨k, ws1, rfl, hk, hr1⟩ := repL_uncons hr
    obtain ⟨v, ws2, rfl, hv, hr2⟩ := repL_uncons hr1
    have := repL_empty hr2
    subst this
    have hk' : rep ms H (.tup ((kf y).map fun k => D.v (kV k))) k := by
      simp only [rep]
      exact hk
    obtain ⟨b, rfl, hb⟩ := key_tup hk' rfl
    exact ⟨t :: ts, (kf y, v) :: new, rfl, .cons ⟨b, ht, hb⟩ p1, .cons ⟨rfl, hv⟩ p2, by rw [List.length_cons, List.length_cons, nl]⟩
theorem mo_updT {m : List (List L2.Key × α)} {kf : β → List L2.Key} {vf : β → α} {xs : List β} {d : D} {v : V} {Q : VK} (mo : MutO ms ps H0 H L (.dcT (m.map (·.1)) (m.map fun q => e q.2))) (h : rep ms H d v) (hd : d = .lst (xs.map fun y => D.tup [D.tup ((kf y).map fun k => D.v (kV k)), e (vf y)])) (hs : m.length + xs.length ≤ 16777216)
    (q : ∀ vs, ((xs.foldl (fun m y => putD m (kf y) (vf y)) m).map (·.1)).length = vs.length → repL ms H ((xs.foldl (fun m y => putD m (kf y) (vf y)) m).map fun q => e q.2) vs → Q .non (upd H L (.dT (((xs.foldl (fun m y => putD m (kf y) (vf y)) m).map (·.1)).zip vs)))) : rUpdateT (.ref L) [v] H Q := by
  subst hd
  obtain ⟨vs, h1, h2, h3⟩ := mo.val
  simp only [rep] at h
  obtain ⟨p, us, rfl, _, hp, hr⟩ := h
  obtain ⟨ts, new, rfl, p1, p2, nl⟩ := pairs_repT hr
  obtain ⟨vs', a1, a2, a3⟩ := put_allT p2 h2 h3
  have hl : m.length = vs.length := by rw [← h2, List.length_map]
  refine ⟨L, p, _, ts, new, rfl, rfl, h1, hp, p1, ?_, ?_⟩
  · rw [List.length_zip, ← h2, Nat.min_self, List.length_map, nl, sizeLine_eq]
    exact hs
  · rw [a1]
    exact q vs' a2 a3
theorem valV_getI : ∀ {m : List (List L2.Key × Int)} {vs : List V}, repL ms H (m.map fun q => D.v (V.int q.2)) vs → ∀ k : List L2.Key, valV ((m.map (·.1)).zip vs) k = (Rx.getD m k).map V.int
  | [], vs, h, k => rfl
  | q :: m, vs, h, k => by
    obtain ⟨u, us, rfl, h1, h2⟩ := repL_uncons h
    obtain rfl := of_v h1
    have ih := valV_getI h2 k
    by_cases c : q.1 = k
    · rw [List.map_cons, List.zip_cons_cons, valV_pos c]
      unfold Rx.getD
      rw [List.find?_cons_of_pos (by simpa using c)]
      rfl
    · rw [List.map_cons, List.zip_cons_cons, valV_neg c, ih]
      unfold Rx.getD
      rw [List.find?_cons_of_neg (by simpa using c)]
theorem mo_isDT {ks : List (List L2.Key)} {ds : List D} (mo : MutO ms ps H0 H L (.dcT ks ds)) : IsD H L := by
  obtain ⟨vs, h1, _⟩ := mo.val
  exact .inr ⟨_, .inl h1⟩
theorem mo_getI {m : List (List L2.Key × Int)} {ks : List L2.Key} {ds : List D} {y : Int} {Q : VK} (mo : MutO ms ps H0 H L (.dcT (m.map (·.1)) (m.map fun q => D.v (V.int q.2)))) (hk : rep ms H (.tup ds) kx) (hd : ds = ks.map fun k => D.v (kV k)) (hg : Rx.getD m ks = some y) (q : Q (.int y) H) :
    ∃ a v, V.ref L = .ref a ∧ DGet H a kx (some v) ∧ Q v H := by
  obtain ⟨vs, hp, hl, hr⟩ := mo.val
  obtain ⟨b, rfl, hb⟩ := key_tup hk hd
  refine ⟨L, _, rfl, ?_, q⟩
  have g := DGet.t (k := ks) hp hb
  rw [valV_getI hr, hg] at g
  exact g
theorem rep_getI {m : List (List L2.Key × Int)} {ks : List L2.Key} {ds : List D} {y : Int} {Q : VK} (h : rep ms H (.dcT (m.map (·.1)) (m.map fun q => D.v (V.int q.2))) x) (hk : rep ms H (.tup ds) kx) (hd : ds = ks.map fun k => D.v (kV k)) (hg : Rx.getD m ks = some y) (q : Q (.int y) H) :
    ∃ a v, x = .ref a ∧ DGet H a kx (some v) ∧ Q v H := by
  simp only [rep] at h
  obtain ⟨p, vs, rfl, _, hp, hl, hr⟩ := h
  obtain ⟨b, rfl, hb⟩ := key_tup hk hd
  refine ⟨p, _, rfl, ?_, q⟩
  have g := DGet.t (k := ks) hp hb
  rw [valV_getI hr, hg] at g
  exact g
theorem mo_tyT {K : PySem.W.Frag} {ks : List (List L2.Key)} {ds : List D} (mo : MutO ms ps H0 H L (.dcT ks ds)) : tyV K "dict" (.ref L) H := by
  obtain ⟨vs, h1, _⟩ := mo.val
  exact .inr (.inr (.inl ⟨rfl, .inr ⟨_, h1⟩⟩))
theorem rep_isDT {ks : List (List L2.Key)} {ds : List D} {P : Addr → Prop} (h : rep ms H (.dcT ks ds) x) (q : ∀ p, x = .ref p → P p) : ∃ a, x = .ref a ∧ IsD H a ∧ P a := by
  simp only [rep] at h
  obtain ⟨p, vs, rfl, _, hp, hl, hr⟩ := h
  exact ⟨p, rfl, .inr ⟨_, .inl hp⟩, q p rfl⟩
theorem mo_dgetO {m : List (List L2.Key × Int)} {ks : List L2.Key} {ds : List D} (mo : MutO ms ps H0 H L (.dcT (m.map (·.1)) (m.map fun q => D.v (V.int q.2)))) (hk : rep ms H (.tup ds) kx) (hd : ds = ks.map fun k => D.v (kV k)) : DGet H L kx ((Rx.getD m ks).map V.int) := by
  obtain ⟨vs, hp, hl, hr⟩ := mo.val
  obtain ⟨b, rfl, hb⟩ := key_tup hk hd
  rw [← valV_getI hr]
  exact DGet.t hp hb
theorem rep_dgetO {m : List (List L2.Key × Int)} {ks : List L2.Key} {ds : List D} {p : Addr} (h : rep ms H (.dcT (m.map (·.1)) (m.map fun q => D.v (V.int q.2))) x) (ex : x = .ref p) (hk : rep ms H (.tup ds) kx) (hd : ds = ks.map fun k => D.v (kV k)) : DGet H p kx ((Rx.getD m ks).map V.int) := by
  simp only [rep] at h
  obtain ⟨p', vs, e, _, hp, hl, hr⟩ := h
  rw [ex] at e
  cases e
  obtain ⟨b, rfl, hb⟩ := key_tup hk hd
  rw [← valV_getI hr]
  exact DGet.t hp hb
theorem getO_int (o : Option Int) (z : Int) : (o.map V.int).getD (V.int z) = V.int (o.getD z) := by
  cases o <;> rfl
end
abbrev tupD (q : List L2.Key × Int) : D := D.tup (q.1.map fun k => D.v (kV k))
theorem upd_twice {H : Hp} {a : Addr} {o o' : HO} : upd (upd H a o) a o' = upd H a o' := by
  funext b
  by_cases c : b = a
  · rw [c, upd_same, upd_same]
  · rw [upd_ne c, upd_ne c, upd_ne c]
theorem upd_undo {H : Hp} {p D : Addr} {u o' l : HO} (hp : H p = some u) (ne : D ≠ p) : upd (upd (upd H p o') D l) p u = upd H D l := by
  funext b
  by_cases c : b = p
  · rw [c, upd_same, upd_ne (fun z => ne z.symm), hp]
  · rw [upd_ne c]
    by_cases d : b = D
    · rw [d, upd_same, upd_same]
    · rw [upd_ne d, upd_ne c, upd_ne d]
theorem lc_keysT {m : List (List L2.Key × Int)} {f : List L2.Key × Int → Bool} {td : L2.TE} {g : L2.TG} {tt : L2.TT} {te : L2.TE} {vs : List Nat} {σ : L2.St} {H : Hp} {Q : VK} {x : V}
    (h : rep ([] : List Addr) H (.dcT (m.map (·.1)) (m.map fun q => D.v (V.int q.2))) x) (hz : m.length ≤ 16777215)
    (hv : ∀ (H' : Hp) (k : VK), k x H' → td σ H' k)
    (hs : ∀ q ∈ m, ∀ (d b : Addr) (o : Obj) (H2 : Hp) (R1 : VK) (R2 : Hp → Prop), x = .ref d → H2 b = some (.tup (q.1.map kV)) → H2 d = some (.frz o (.dT (m.map fun q => (q.1, V.int q.2)))) → (f q = true → R1 (.ref b) H2) → (f q = false → R2 H2) →
      g (.ref b) (wipe σ vs) H2 fun σ2 H3 => wipe σ2 vs = wipe σ vs ∧ tt σ2 H3 fun bb H4 => if bb = true then te σ2 H4 R1 else R2 H4)
    (q : ∀ (L : Addr) (us : List V), H L = none → repL ([] : List Addr) H ((m.filter f).map tupD) us → Q (.ref L) (upd H L (.lst us))) :
    tLockE (tLc (iKeys td) g tt te vs) σ H Q := by
  simp only [rep] at h
  obtain ⟨p, ws, rfl, _, hp, hl, hr0⟩ := h
  have ew : ws = m.map fun q => V.int q.2 := by
    have z := repL_flat (xs := m.map fun q => V.int q.2) (vs := ws) (ms := ([] : List Addr)) (H := H)
    rw [List.map_map] at z
    exact z.mp hr0
  have ez : (m.map (·.1)).zip ws = m.map fun q => (q.1, V.int q.2) := by
    rw [ew, List.zip_map']
  rw [ez] at hp
  generalize hKV : (m.map fun q => (q.1, V.int q.2)) = KV at hp hs
  have lKV : KV.length = m.length := by rw [← hKV, List.length_map]
  refine ⟨p, .dT KV, hp, True.intro, fun od => ?_⟩
  refine hv _ _ ⟨p, od, rfl, .inr ⟨KV, upd_same, ?_⟩⟩
  intro D nD
  have ne : D ≠ p := fun z => by
    rw [z, upd_same] at nD
    cases nD
  have nD0 : H D = none := by rwa [upd_ne ne] at nD
  have frz : ∀ us, (upd (upd H p (.frz od (.dT KV))) D (.lst us)) p = some (.frz od (.dT KV)) := fun us => by
    rw [upd_ne (fun z => ne z.symm), upd_same]
  refine ⟨fun i n Hh => n = m.length - i ∧ i ≤ m.length ∧ ∃ us, Hh = upd (upd H p (.frz od (.dT KV))) D (.lst us) ∧ us.length ≤ i ∧ repL ([] : List Addr) H (((m.take i).filter f).map tupD) us, ⟨_, rfl, Nat.zero_le _, [], rfl, Nat.le_refl _, repL_nil⟩, ?_⟩
  rintro i n Hh ⟨rfl, hi, us, rfl, hul, hr⟩
  by_cases hlt : i < m.length
  · refine .inr ⟨⟨frz us, by rw [lKV]; exact hlt⟩, fun H' => ∃ us', H' = upd (upd H p (.frz od (.dT KV))) D (.lst us') ∧ us'.length ≤ i + 1 ∧ repL ([] : List Addr) H (((m.take (i + 1)).filter f).map tupD) us', fun H' h' => ⟨_, by omega, rfl, hlt, h'⟩, fun x' H' y => ?_⟩
    obtain ⟨rfl, k, v, b, hk, rfl, hb⟩ := y
    have em : m[i]? = some (m[i]'hlt) := List.getElem?_eq_getElem hlt
    have tk : m.take (i + 1) = m.take i ++ [m[i]'hlt] := List.take_succ_eq_append_getElem hlt
    have mem : m[i]'hlt ∈ m := List.getElem_mem hlt
    generalize m[i]'hlt = q0 at em tk mem
    have ek : k = q0.1 := by
      rw [← hKV, List.getElem?_map, em] at hk
      cases hk
      rfl
    subst ek
    have nbD : b ≠ D := fun z => by
      rw [z, upd_same] at hb
      cases hb
    have hb1 := hb
    rw [upd_ne nbD] at hb1
    have nbp : b ≠ p := fun z => by
      rw [z, upd_same] at hb1
      cases hb1
    rw [upd_ne nbp] at hb1
    refine hs q0 mem p b od _ _ _ rfl hb (frz us) (fun hf => ?_) fun hf => ?_
    · refine ⟨us, upd_same, by rw [sizeLine_eq]; omega, us ++ [.ref b], upd_twice, by rw [List.length_append, List.length_singleton]; omega, ?_⟩
      rw [tk, List.filter_append, List.map_append, List.filter_cons_of_pos hf]
      refine repL_app hr (repL_one ?_)
      simp only [rep]
      refine ⟨b, _, rfl, List.not_mem_nil, hb1, ?_⟩
      have z := repL_flat (xs := q0.1.map kV) (vs := q0.1.map kV) (ms := ([] : List Addr)) (H := H)
      rw [List.map_map] at z
      exact z.mpr rfl
    · refine ⟨us, rfl, by omega, ?_⟩
      rw [tk, List.filter_append, List.filter_cons_of_neg (by rw [hf]; decide), List.filter_nil, List.append_nil]
      exact hr
  · have ei : i = m.length := by omega
    refine .inl ⟨⟨frz us, by rw [lKV]; omega⟩, frz us, ?_⟩
    rw [upd_undo hp ne]
    rw [ei, List.take_length] at hr
    exact q D us nD0 hr
theorem rep_nil0 {ms : List Addr} {H : Hp} {d : D} {u : V} (h : rep ms H d u) : rep ([] : List Addr) H d u := rep_sub (fun _ z => absurd z List.not_mem_nil) h
theorem wd_nil0 {ms : List Addr} {H : Hp} (h : Wd ms [] [] H H) : Wd ([] : List Addr) [] [] H H where
  kp := h.kp
  grow := h.grow
  tr := fun m hm => absurd hm List.not_mem_nil
  pot := h.pot
  pm := fun a ha => by simp [ad] at ha
  cel := fun c hc => absurd hc List.not_mem_nil
theorem rep_tup_up {ms : List Addr} {H : Hp} {xs : List V} {p : Addr} (n : p ∉ ms) (h : rep ([] : List Addr) H (D.tup (xs.map D.v)) (.ref p)) : rep ms H (D.tup (xs.map D.v)) (.ref p) := by
  simp only [rep] at h ⊢
  obtain ⟨p', vs, e, _, hp, hr⟩ := h
  cases e
  exact ⟨p, vs, rfl, n, hp, repL_flat.mpr (repL_flat.mp hr)⟩
end Rx
namespace Wm
open PySem PySem.Spec PyProof.Rows L2

abbrev L (z : Str) : List Nat := z.cps.toList
theorem len_L (z : Str) : z.length = (L z).length := by
  show z.cps.size = z.cps.toList.length
  simp
theorem L_app (a b : Str) : L (a ++ b) = L a ++ L b := by
  show (a.cps ++ b.cps).toList = _
  simp [L]
theorem L_empty : L ("" : Str) = [] := by decide +kernel
theorem L_h : L ("h" : Str) = [104] := by decide +kernel
theorem L_a : L ("a" : Str) = [97] := by decide +kernel
theorem h_mk : ("h" : Str) = ⟨#[104]⟩ := by decide +kernel
theorem a_mk : ("a" : Str) = ⟨#[97]⟩ := by decide +kernel
theorem eqI {a b : Int} : decide (V.int a = V.int b) = decide (a = b) := by
  by_cases h : a = b
  · subst h
    simp
  · rw [decide_eq_false (fun z => h (V.int.inj z)), decide_eq_false h]

theorem join_L (ys : List Str) : L (Txt.join ("" : Str) ys) = (ys.map L).flatten := by
  rw [TL.join_eq]
  show TL.tl (Str.join _ _) = _
  rw [TL.tl_join]
  show TL.joinL (L ("" : Str)) _ = _
  rw [L_empty]
  show _ = (ys.map TL.tl).flatten
  generalize ys.map TL.tl = ls
  induction ls with
  | nil => rfl
  | cons p ls ih =>
    cases ls with
    | nil => simp [TL.joinL]
    | cons q r =>
      show p ++ ([] ++ TL.joinL [] (q :: r)) = _
      rw [ih]
      simp

def cyc (m : List Nat) (k : Nat) : List Nat := (List.range k).map fun j => m.getD (j % m.length) 0
def row (h m t : List Nat) (n : Nat) : List Nat := h ++ cyc m (n - h.length - t.length) ++ t
section
variable {h m t : List Nat} {n : Nat}
end

section
open Rx
variable {α β S : Type}
theorem mapC_ok {body : α → (β → Prop) → Prop} {k : List β → Prop} (g : α → β) : ∀ {xs : List α} {acc : List β}, (∀ x ∈ xs, ∀ k' : β → Prop, k' (g x) → body x k') → k (acc ++ xs.map g) → mapC body xs acc k
  | [], acc, _, q => by
    rw [List.map_nil, List.append_nil] at q
    exact q
  | x :: xs, acc, h, q => h x List.mem_cons_self _ (mapC_ok g (fun y hy => h y (List.mem_cons_of_mem _ hy)) (by rw [List.append_assoc]; exact q))
theorem mapC_any {body : α → (β → Prop) → Prop} {k : List β → Prop} (P : β → Prop) : ∀ {xs : List α} {acc : List β}, (∀ x ∈ xs, ∀ k' : β → Prop, (∀ y, P y → k' y) → body x k') → (∀ ys : List β, ys.length = xs.length → (∀ y ∈ ys, P y) → k (acc ++ ys)) → mapC body xs acc k
  | [], acc, _, q => by
    have := q [] rfl (fun _ h => absurd h List.not_mem_nil)
    rw [List.append_nil] at this
    exact this
  | x :: xs, acc, h, q => h x List.mem_cons_self _ fun y hy => mapC_any P (fun z hz => h z (List.mem_cons_of_mem _ hz)) fun ys hl hp => by
    rw [List.append_assoc]
    exact q (y :: ys) (congrArg Nat.succ hl) fun z hz => by
      rcases List.mem_cons.mp hz with e | hz
      · rw [e]
        exact hy
      · exact hp z hz
theorem filC_ok {body : α → (Option β → Prop) → Prop} {k : List β → Prop} (g : α → Option β) : ∀ {xs : List α} {acc : List β}, (∀ x ∈ xs, ∀ k' : Option β → Prop, k' (g x) → body x k') → k (acc ++ xs.filterMap g) → filC body xs acc k
  | [], acc, _, q => by
    rw [List.filterMap_nil, List.append_nil] at q
    exact q
  | x :: xs, acc, h, q => h x List.mem_cons_self _ (by
    show match g x with | some y => filC body xs (acc ++ [y]) k | none => filC body xs acc k
    cases e : g x with
    | none => exact filC_ok g (fun y hy => h y (List.mem_cons_of_mem _ hy)) (by rw [List.filterMap_cons_none e] at q; exact q)
    | some y => exact filC_ok g (fun y hy => h y (List.mem_cons_of_mem _ hy)) (by rw [List.filterMap_cons_some e] at q; rw [List.append_assoc]; exact q))
theorem forC_ok {body : α → S → (S → Prop) → Prop} {k : S → Prop} (I : S → Prop) : ∀ {xs : List α} {s0 : S}, (∀ x ∈ xs, ∀ (s : S) (k' : S → Prop), I s → (∀ s', I s' → k' s') → body x s k') → I s0 → (∀ s, I s → k s) → forC body xs s0 k
  | [], s0, _, i, q => q s0 i
  | x :: xs, s0, h, i, q => h x List.mem_cons_self s0 _ i fun s' i' => forC_ok I (fun y hy => h y (List.mem_cons_of_mem _ hy)) i' q
theorem rangeI_mem {lo hi x : Int} (h : x ∈ rangeI lo hi) : lo ≤ x ∧ x < hi := by
  unfold rangeI at h
  obtain ⟨i, hi', e⟩ := List.mem_map.mp h
  have := List.mem_range.mp hi'
  omega
end
end Wm

namespace Lw
open PySem PySem.Spec PyProof.Rows L2 Rx
abbrev St := L2.St
theorem sc_draw : FnScope ["_law_pot_here", "_law_many_here", "_law_digit"] ["_law_pot_here", "_law_many_here"] (defScope s_draw) := ⟨rfl, rfl, rfl, by decide +kernel, rfl, by decide +kernel, by decide +kernel⟩
theorem sc_pick : FnScope ["_law_pot_here", "_law_some"] ["_law_pot_here", "_law_some"] (defScope s_pick) := ⟨rfl, rfl, rfl, by decide +kernel, rfl, by decide +kernel, by decide +kernel⟩
theorem sc_many : FnScope ["_law_pot_here"] ["_law_pot_here"] (defScope s_many) := ⟨rfl, rfl, rfl, by decide +kernel, rfl, by decide +kernel, by decide +kernel⟩
theorem sc_circle : FnScope ["_law_many_here", "_law_ring", "_law_found", "_law_at", "_law_meets", "_law_k"] ["_law_many_here"] (defScope s_circle) := ⟨rfl, rfl, rfl, by decide +kernel, rfl, by decide +kernel, by decide +kernel⟩
theorem sc_mixed : FnScope ["_law_pot_here", "_law_some", "_law_rest", "_law_found", "_law_turn"] ["_law_pot_here", "_law_some"] (defScope s_mixed) := ⟨rfl, rfl, rfl, by decide +kernel, rfl, by decide +kernel, by decide +kernel⟩
theorem sc_day : FnScope ["_law_pot_here", "_law_many_here", "_law_lot", "_law_k"] ["_law_pot_here", "_law_many_here"] (defScope s_day) := ⟨rfl, rfl, rfl, by decide +kernel, rfl, by decide +kernel, by decide +kernel⟩
theorem sc_pairs_days : FnScope ["_law_pot_here", "_law_many_here", "_law_days_here", "_law_lot", "_law_way", "_law_at", "_law_home", "_law_away", "_law_lead", "_law_mate", "_law_meets", "_law_turn"] ["_law_pot_here", "_law_many_here"] (defScope s_pairs_days) := ⟨rfl, rfl, rfl, by decide +kernel, rfl, by decide +kernel, by decide +kernel⟩
theorem sc_passed : FnScope ["_law_pot_here", "_law_days_here", "_law_found", "_law_meets", "_law_near"] ["_law_pot_here", "_law_days_here"] (defScope s_passed) := ⟨rfl, rfl, rfl, by decide +kernel, rfl, by decide +kernel, by decide +kernel⟩
theorem sc_is_list : FnScope ["value"] ["value"] (defScope s_is_list) := ⟨rfl, rfl, rfl, by decide +kernel, rfl, by decide +kernel, by decide +kernel⟩
theorem sc_is_integer : FnScope ["value"] ["value"] (defScope s_is_integer) := ⟨rfl, rfl, rfl, by decide +kernel, rfl, by decide +kernel, by decide +kernel⟩
theorem sc_is_meeting : FnScope ["value"] ["value"] (defScope s_is_meeting) := ⟨rfl, rfl, rfl, by decide +kernel, rfl, by decide +kernel, by decide +kernel⟩
theorem sc_is_round : FnScope ["value", "meeting", "team"] ["value"] (defScope s_is_round) := ⟨rfl, rfl, rfl, by decide +kernel, rfl, by decide +kernel, by decide +kernel⟩
theorem sc_check_rounds : FnScope ["rounds", "position", "meetings"] ["rounds"] (defScope s_check_rounds) := ⟨rfl, rfl, rfl, by decide +kernel, rfl, by decide +kernel, by decide +kernel⟩
theorem sc_Table_init : FnScope ["self", "rounds", "meetings", "home", "away"] ["self", "rounds"] (defScope s_Table_init) := ⟨rfl, rfl, rfl, by decide +kernel, rfl, by decide +kernel, by decide +kernel⟩
theorem sc_counts : FnScope ["_law_days_here", "_law_many_here", "_law_found", "_law_who", "_law_meets", "_law_home", "_law_away", "_law_pair", "_law_mate"] ["_law_days_here", "_law_many_here"] (defScope s_counts) := ⟨rfl, rfl, rfl, by decide +kernel, rfl, by decide +kernel, by decide +kernel⟩
theorem sc_due : FnScope ["_law_days_here", "_law_many_here", "_law_counts_here", "_law_odd", "_law_pair"] ["_law_days_here", "_law_many_here"] (defScope s_due) := ⟨rfl, rfl, rfl, by decide +kernel, rfl, by decide +kernel, by decide +kernel⟩
theorem sc_Table_rounds : FnScope ["self", "meetings"] ["self"] (defScope s_Table_rounds) := ⟨rfl, rfl, rfl, by decide +kernel, rfl, by decide +kernel, by decide +kernel⟩
theorem sc_Table_size : FnScope ["self"] ["self"] (defScope s_Table_size) := ⟨rfl, rfl, rfl, by decide +kernel, rfl, by decide +kernel, by decide +kernel⟩
theorem sc_first_odd_pair : FnScope ["table", "counts", "meetings", "home", "away", "pair", "one", "other", "many"] ["table"] (defScope s_first_odd_pair) := ⟨rfl, rfl, rfl, by decide +kernel, rfl, by decide +kernel, by decide +kernel⟩
theorem sc_is_single : FnScope ["table"] ["table"] (defScope s_is_single) := ⟨rfl, rfl, rfl, by decide +kernel, rfl, by decide +kernel, by decide +kernel⟩
theorem sc_any_way : FnScope ["_law_pot_here", "_law_days_here", "_law_found", "_law_meets", "_law_home", "_law_away"] ["_law_pot_here", "_law_days_here"] (defScope s_any_way) := ⟨rfl, rfl, rfl, by decide +kernel, rfl, by decide +kernel, by decide +kernel⟩
theorem sc_is_count : FnScope ["value"] ["value"] (defScope s_is_count) := ⟨rfl, rfl, rfl, by decide +kernel, rfl, by decide +kernel, by decide +kernel⟩
theorem sc_check_team : FnScope ["team", "teams"] ["team", "teams"] (defScope s_check_team) := ⟨rfl, rfl, rfl, by decide +kernel, rfl, by decide +kernel, by decide +kernel⟩
theorem sc_check_pair : FnScope ["one", "other", "teams"] ["one", "other", "teams"] (defScope s_check_pair) := ⟨rfl, rfl, rfl, by decide +kernel, rfl, by decide +kernel, by decide +kernel⟩
theorem sc_Table_met_in : FnScope ["self", "one", "other", "day", "meetings"] ["self", "one", "other"] (defScope s_Table_met_in) := ⟨rfl, rfl, rfl, by decide +kernel, rfl, by decide +kernel, by decide +kernel⟩
theorem sc_Table_len : FnScope ["self"] ["self"] (defScope s_Table_len) := ⟨rfl, rfl, rfl, by decide +kernel, rfl, by decide +kernel, by decide +kernel⟩
theorem sc_check_day : FnScope ["day", "rounds"] ["day", "rounds"] (defScope s_check_day) := ⟨rfl, rfl, rfl, by decide +kernel, rfl, by decide +kernel, by decide +kernel⟩
theorem sc_Table_meetings : FnScope ["self", "day"] ["self", "day"] (defScope s_Table_meetings) := ⟨rfl, rfl, rfl, by decide +kernel, rfl, by decide +kernel, by decide +kernel⟩
theorem sc_sorted : FnScope ["_law_days_here", "_law_meets", "_law_home", "_law_away"] ["_law_days_here"] (defScope s_sorted) := ⟨rfl, rfl, rfl, by decide +kernel, rfl, by decide +kernel, by decide +kernel⟩
theorem sc_Table_repr : FnScope ["self"] ["self"] (defScope s_Table_repr) := ⟨rfl, rfl, rfl, by decide +kernel, rfl, by decide +kernel, by decide +kernel⟩
theorem sc_mark_in : FnScope ["meetings", "team", "meeting"] ["meetings", "team"] (defScope s_mark_in) := ⟨rfl, rfl, rfl, by decide +kernel, rfl, by decide +kernel, by decide +kernel⟩
theorem sc_Table_row_of : FnScope ["self", "team", "meetings"] ["self", "team"] (defScope s_Table_row_of) := ⟨rfl, rfl, rfl, by decide +kernel, rfl, by decide +kernel, by decide +kernel⟩
theorem sc_row : FnScope ["_law_days_here", "_law_who", "_law_meets", "_law_home", "_law_away"] ["_law_days_here", "_law_who"] (defScope s_row) := ⟨rfl, rfl, rfl, by decide +kernel, rfl, by decide +kernel, by decide +kernel⟩
theorem sc_is : FnScope ["_law_made", "_law_days_here", "_law_many_here", "_law_told", "_law_at", "_law_who"] ["_law_made", "_law_days_here", "_law_many_here"] (defScope s_is) := ⟨rfl, rfl, rfl, by decide +kernel, rfl, by decide +kernel, by decide +kernel⟩
theorem sc_days_right : FnScope ["_law_pot_here", "_law_days_here", "_law_many_here", "_law_made", "_law_due_here", "_law_near", "_law_far", "_law_total", "_law_who", "_law_mate"] ["_law_pot_here", "_law_days_here", "_law_many_here"] (defScope s_days_right) := ⟨rfl, rfl, rfl, by decide +kernel, rfl, by decide +kernel, by decide +kernel⟩
theorem sc_days : FnScope ["_law_pot_here", "_law_many_here", "_law_most", "_law_found", "_law_turn", "_law_way", "_law_near", "_law_home", "_law_away"] ["_law_pot_here", "_law_many_here", "_law_most"] (defScope s_days) := ⟨rfl, rfl, rfl, by decide +kernel, rfl, by decide +kernel, by decide +kernel⟩
theorem sc_right : FnScope ["_law_pot_here", "_law_many_here", "_law_turn"] ["_law_pot_here"] (defScope s_right) := ⟨rfl, rfl, rfl, by decide +kernel, rfl, by decide +kernel, by decide +kernel⟩
theorem sc_pot : FnScope ["_law_script", "_law_k", "_law_cell"] ["_law_script", "_law_k"] (defScope s_pot) := ⟨rfl, rfl, rfl, by decide +kernel, rfl, by decide +kernel, by decide +kernel⟩
theorem sc_law : FnScope ["_law_script", "_law_k"] ["_law_script"] (defScope s_law) := ⟨rfl, rfl, rfl, by decide +kernel, rfl, by decide +kernel, by decide +kernel⟩
structure Ad where
  a_draw : Addr
  d_draw : FuncData
  a_pick : Addr
  d_pick : FuncData
  a_many : Addr
  d_many : FuncData
  a_circle : Addr
  d_circle : FuncData
  a_mixed : Addr
  d_mixed : FuncData
  a_day : Addr
  d_day : FuncData
  a_pairs_days : Addr
  d_pairs_days : FuncData
  a_passed : Addr
  d_passed : FuncData
  a_is_list : Addr
  d_is_list : FuncData
  a_is_integer : Addr
  d_is_integer : FuncData
  a_is_meeting : Addr
  d_is_meeting : FuncData
  a_is_round : Addr
  d_is_round : FuncData
  a_check_rounds : Addr
  d_check_rounds : FuncData
  a_Table_init : Addr
  d_Table_init : FuncData
  a_counts : Addr
  d_counts : FuncData
  a_due : Addr
  d_due : FuncData
  a_Table_rounds : Addr
  d_Table_rounds : FuncData
  a_Table_size : Addr
  d_Table_size : FuncData
  a_first_odd_pair : Addr
  d_first_odd_pair : FuncData
  a_is_single : Addr
  d_is_single : FuncData
  a_any_way : Addr
  d_any_way : FuncData
  a_is_count : Addr
  d_is_count : FuncData
  a_check_team : Addr
  d_check_team : FuncData
  a_check_pair : Addr
  d_check_pair : FuncData
  a_Table_met_in : Addr
  d_Table_met_in : FuncData
  a_Table_len : Addr
  d_Table_len : FuncData
  a_check_day : Addr
  d_check_day : FuncData
  a_Table_meetings : Addr
  d_Table_meetings : FuncData
  a_sorted : Addr
  d_sorted : FuncData
  a_Table_repr : Addr
  d_Table_repr : FuncData
  a_mark_in : Addr
  d_mark_in : FuncData
  a_Table_row_of : Addr
  d_Table_row_of : FuncData
  a_row : Addr
  d_row : FuncData
  a_is : Addr
  d_is : FuncData
  a_days_right : Addr
  d_days_right : FuncData
  a_days : Addr
  d_days : FuncData
  a_right : Addr
  d_right : FuncData
  a_pot : Addr
  d_pot : FuncData
  a_law : Addr
  d_law : FuncData
  c_Table : Addr
  pa_Table_size : Addr
abbrev Ad.tbs (A : Ad) : List PEn := []
structure Txt (w : World) (K : PySem.W.Frag) (mg : Str → Option Value) (A : Ad) : Prop where
  F_draw : Fun K "_law_draw" "_law_draw" s_draw A.a_draw A.d_draw
  b_draw : Binds K A.d_draw ["_law_pot_here", "_law_many_here"] []
  g_draw : mg "_law_draw" = some (.ref A.a_draw)
  F_pick : Fun K "_law_pick" "_law_pick" s_pick A.a_pick A.d_pick
  b_pick : Binds K A.d_pick ["_law_pot_here", "_law_some"] []
  g_pick : mg "_law_pick" = some (.ref A.a_pick)
  F_many : Fun K "_law_many" "_law_many" s_many A.a_many A.d_many
  b_many : Binds K A.d_many ["_law_pot_here"] []
  g_many : mg "_law_many" = some (.ref A.a_many)
  F_circle : Fun K "_law_circle" "_law_circle" s_circle A.a_circle A.d_circle
  b_circle : Binds K A.d_circle ["_law_many_here"] []
  g_circle : mg "_law_circle" = some (.ref A.a_circle)
  F_mixed : Fun K "_law_mixed" "_law_mixed" s_mixed A.a_mixed A.d_mixed
  b_mixed : Binds K A.d_mixed ["_law_pot_here", "_law_some"] []
  g_mixed : mg "_law_mixed" = some (.ref A.a_mixed)
  F_day : Fun K "_law_day" "_law_day" s_day A.a_day A.d_day
  b_day : Binds K A.d_day ["_law_pot_here", "_law_many_here"] []
  g_day : mg "_law_day" = some (.ref A.a_day)
  F_pairs_days : Fun K "_law_pairs_days" "_law_pairs_days" s_pairs_days A.a_pairs_days A.d_pairs_days
  b_pairs_days : Binds K A.d_pairs_days ["_law_pot_here", "_law_many_here"] []
  g_pairs_days : mg "_law_pairs_days" = some (.ref A.a_pairs_days)
  F_passed : Fun K "_law_passed" "_law_passed" s_passed A.a_passed A.d_passed
  b_passed : Binds K A.d_passed ["_law_pot_here", "_law_days_here"] []
  g_passed : mg "_law_passed" = some (.ref A.a_passed)
  F_is_list : Fun K "is_list" "is_list" s_is_list A.a_is_list A.d_is_list
  b_is_list : Binds K A.d_is_list ["value"] []
  g_is_list : mg "is_list" = some (.ref A.a_is_list)
  F_is_integer : Fun K "is_integer" "is_integer" s_is_integer A.a_is_integer A.d_is_integer
  b_is_integer : Binds K A.d_is_integer ["value"] []
  g_is_integer : mg "is_integer" = some (.ref A.a_is_integer)
  F_is_meeting : Fun K "_is_meeting" "_is_meeting" s_is_meeting A.a_is_meeting A.d_is_meeting
  b_is_meeting : Binds K A.d_is_meeting ["value"] []
  g_is_meeting : mg "_is_meeting" = some (.ref A.a_is_meeting)
  F_is_round : Fun K "is_round" "is_round" s_is_round A.a_is_round A.d_is_round
  b_is_round : Binds K A.d_is_round ["value"] []
  g_is_round : mg "is_round" = some (.ref A.a_is_round)
  F_check_rounds : Fun K "_check_rounds" "_check_rounds" s_check_rounds A.a_check_rounds A.d_check_rounds
  b_check_rounds : Binds K A.d_check_rounds ["rounds"] []
  g_check_rounds : mg "_check_rounds" = some (.ref A.a_check_rounds)
  F_Table_init : Fun K "__init__" "Table.__init__" s_Table_init A.a_Table_init A.d_Table_init
  b_Table_init : Binds K A.d_Table_init ["self", "rounds"] []
  F_counts : Fun K "_law_counts" "_law_counts" s_counts A.a_counts A.d_counts
  b_counts : Binds K A.d_counts ["_law_days_here", "_law_many_here"] []
  g_counts : mg "_law_counts" = some (.ref A.a_counts)
  F_due : Fun K "_law_due" "_law_due" s_due A.a_due A.d_due
  b_due : Binds K A.d_due ["_law_days_here", "_law_many_here"] []
  g_due : mg "_law_due" = some (.ref A.a_due)
  F_Table_rounds : Fun K "rounds" "Table.rounds" s_Table_rounds A.a_Table_rounds A.d_Table_rounds
  b_Table_rounds : Binds K A.d_Table_rounds ["self"] []
  m_Table_rounds : Meth K A.c_Table "rounds" A.a_Table_rounds
  F_Table_size : Fun K "size" "Table.size" s_Table_size A.a_Table_size A.d_Table_size
  b_Table_size : Binds K A.d_Table_size ["self"] []
  p_Table_size : PropOf K A.c_Table "size" A.pa_Table_size A.a_Table_size
  F_first_odd_pair : Fun K "first_odd_pair" "first_odd_pair" s_first_odd_pair A.a_first_odd_pair A.d_first_odd_pair
  b_first_odd_pair : Binds K A.d_first_odd_pair ["table"] []
  g_first_odd_pair : mg "first_odd_pair" = some (.ref A.a_first_odd_pair)
  F_is_single : Fun K "is_single" "is_single" s_is_single A.a_is_single A.d_is_single
  b_is_single : Binds K A.d_is_single ["table"] []
  g_is_single : mg "is_single" = some (.ref A.a_is_single)
  F_any_way : Fun K "_law_any_way" "_law_any_way" s_any_way A.a_any_way A.d_any_way
  b_any_way : Binds K A.d_any_way ["_law_pot_here", "_law_days_here"] []
  g_any_way : mg "_law_any_way" = some (.ref A.a_any_way)
  F_is_count : Fun K "is_count" "is_count" s_is_count A.a_is_count A.d_is_count
  b_is_count : Binds K A.d_is_count ["value"] []
  g_is_count : mg "is_count" = some (.ref A.a_is_count)
  F_check_team : Fun K "check_team" "check_team" s_check_team A.a_check_team A.d_check_team
  b_check_team : Binds K A.d_check_team ["team", "teams"] []
  g_check_team : mg "check_team" = some (.ref A.a_check_team)
  F_check_pair : Fun K "check_pair" "check_pair" s_check_pair A.a_check_pair A.d_check_pair
  b_check_pair : Binds K A.d_check_pair ["one", "other", "teams"] []
  g_check_pair : mg "check_pair" = some (.ref A.a_check_pair)
  F_Table_met_in : Fun K "met_in" "Table.met_in" s_Table_met_in A.a_Table_met_in A.d_Table_met_in
  b_Table_met_in : Binds K A.d_Table_met_in ["self", "one", "other"] []
  m_Table_met_in : Meth K A.c_Table "met_in" A.a_Table_met_in
  F_Table_len : Fun K "__len__" "Table.__len__" s_Table_len A.a_Table_len A.d_Table_len
  b_Table_len : Binds K A.d_Table_len ["self"] []
  m_Table_len : Meth K A.c_Table "__len__" A.a_Table_len
  F_check_day : Fun K "check_day" "check_day" s_check_day A.a_check_day A.d_check_day
  b_check_day : Binds K A.d_check_day ["day", "rounds"] []
  g_check_day : mg "check_day" = some (.ref A.a_check_day)
  F_Table_meetings : Fun K "meetings" "Table.meetings" s_Table_meetings A.a_Table_meetings A.d_Table_meetings
  b_Table_meetings : Binds K A.d_Table_meetings ["self", "day"] []
  m_Table_meetings : Meth K A.c_Table "meetings" A.a_Table_meetings
  F_sorted : Fun K "_law_sorted" "_law_sorted" s_sorted A.a_sorted A.d_sorted
  b_sorted : Binds K A.d_sorted ["_law_days_here"] []
  g_sorted : mg "_law_sorted" = some (.ref A.a_sorted)
  F_Table_repr : Fun K "__repr__" "Table.__repr__" s_Table_repr A.a_Table_repr A.d_Table_repr
  b_Table_repr : Binds K A.d_Table_repr ["self"] []
  m_Table_repr : Meth K A.c_Table "__repr__" A.a_Table_repr
  F_mark_in : Fun K "_mark_in" "_mark_in" s_mark_in A.a_mark_in A.d_mark_in
  b_mark_in : Binds K A.d_mark_in ["meetings", "team"] []
  g_mark_in : mg "_mark_in" = some (.ref A.a_mark_in)
  F_Table_row_of : Fun K "row_of" "Table.row_of" s_Table_row_of A.a_Table_row_of A.d_Table_row_of
  b_Table_row_of : Binds K A.d_Table_row_of ["self", "team"] []
  m_Table_row_of : Meth K A.c_Table "row_of" A.a_Table_row_of
  F_row : Fun K "_law_row" "_law_row" s_row A.a_row A.d_row
  b_row : Binds K A.d_row ["_law_days_here", "_law_who"] []
  g_row : mg "_law_row" = some (.ref A.a_row)
  F_is : Fun K "_law_is" "_law_is" s_is A.a_is A.d_is
  b_is : Binds K A.d_is ["_law_made", "_law_days_here", "_law_many_here"] []
  g_is : mg "_law_is" = some (.ref A.a_is)
  F_days_right : Fun K "_law_days_right" "_law_days_right" s_days_right A.a_days_right A.d_days_right
  b_days_right : Binds K A.d_days_right ["_law_pot_here", "_law_days_here", "_law_many_here"] []
  g_days_right : mg "_law_days_right" = some (.ref A.a_days_right)
  F_days : Fun K "_law_days" "_law_days" s_days A.a_days A.d_days
  b_days : Binds K A.d_days ["_law_pot_here", "_law_many_here", "_law_most"] []
  g_days : mg "_law_days" = some (.ref A.a_days)
  F_right : Fun K "_law_right" "_law_right" s_right A.a_right A.d_right
  b_right : Binds K A.d_right ["_law_pot_here"] []
  g_right : mg "_law_right" = some (.ref A.a_right)
  F_pot : Fun K "_law_pot" "_law_pot" s_pot A.a_pot A.d_pot
  b_pot : Binds K A.d_pot ["_law_script", "_law_k"] []
  g_pot : mg "_law_pot" = some (.ref A.a_pot)
  F_law : Fun K "law" "law" s_law A.a_law A.d_law
  b_law : Binds K A.d_law ["_law_script"] []
  g_law : mg "law" = some (.ref A.a_law)
  cl_Table : Cls K A.c_Table
  g_Table : mg "Table" = some (.ref A.c_Table)
  mk_Table : Mk K A.c_Table A.a_Table_init
  na_Table__rounds : NoAttr K A.c_Table "_rounds"
  ow_Table_len : OwnText K A.c_Table "__len__" A.a_Table_len
  ow_Table_repr : OwnText K A.c_Table "__repr__" A.a_Table_repr
  z_abs : mg "abs" = none
  z_all : mg "all" = none
  z_any : mg "any" = none
  z_bool : mg "bool" = none
  z_dict : mg "dict" = none
  z_divmod : mg "divmod" = none
  z_enumerate : mg "enumerate" = none
  z_int : mg "int" = none
  z_isinstance : mg "isinstance" = none
  z_len : mg "len" = none
  z_list : mg "list" = none
  z_max : mg "max" = none
  z_min : mg "min" = none
  z_range : mg "range" = none
  z_repr : mg "repr" = none
  z_set : mg "set" = none
  z_sorted : mg "sorted" = none
  z_sum : mg "sum" = none
  z_tuple : mg "tuple" = none
  z_zip : mg "zip" = none
  c_FEWEST_MEETINGS : ∃ u, mg "FEWEST_MEETINGS" = some u ∧ RelV (.int 2) u
  c_MOST_MEETINGS : ∃ u, mg "MOST_MEETINGS" = some u ∧ RelV (.int 12) u
  c_MOST_ROUNDS : ∃ u, mg "MOST_ROUNDS" = some u ∧ RelV (.int 60) u
  k_first_odd_pair_table : KBn K A.d_first_odd_pair ["table"] 0 ["table"] (fun us ws => us ++ [ws.getD 0 .none]) (fun us ws => us ++ [ws.getD 0 .non])
  k_is_single_table : KBn K A.d_is_single ["table"] 0 ["table"] (fun us ws => us ++ [ws.getD 0 .none]) (fun us ws => us ++ [ws.getD 0 .non])
abbrev ns_Table : List Str := ["_rounds"]
theorem nd_Table : ns_Table.Nodup := by decide +kernel
abbrev eTable (A : Ad) (x : (List (List (Int × Int)))) : D := .ins A.c_Table ns_Table [(D.lst (x.map (fun y_ : (List (Int × Int)) => (D.lst (y_.map (fun y_ : (Int × Int) => (D.tup [(D.v (V.int y_.1)), (D.v (V.int y_.2))])))))))]
/-! ### draws: any number below the size -/
def M_draw (x_size : Int) (KM : Int → Prop) : Prop := (0 < x_size ∧ x_size < 1073741824) ∧ ∀ d : Int, 0 ≤ d → d < x_size → KM d
def sp_draw (A : Ad) : Sp := fun vs H Q _ => ∃ (ms : List Addr) (ap : Addr) (x_size : Int) (KM : Int → Prop), vs = [.ref ap, V.int x_size] ∧ Wd ms [(ap, none)] [] H H ∧ M_draw x_size KM ∧ ∀ (r : Int) (u : V) (H1 : Hp), KM r → Ret [(ap, none)] H H1 → rep ms H1 (D.v (V.int r)) u → Q u H1
theorem ret_pot1 {H : Hp} {ap : Addr} {o : HO} {i j : Int} (ha : H ap = some o) (hj : j.natAbs < 4294967296) : Ret [(ap, none)] H (upd H ap (.lst [.int i, .int j])) := by
  refine ⟨fun a u n h => ?_, fun a h => ?_, fun a h => ?_⟩
  · rw [upd_ne (fun z => n (by rw [z]; exact List.mem_singleton.mpr rfl))]
    exact h
  · rw [List.mem_singleton.mp h]
    exact (⟨i, j, upd_same, hj⟩ : PotH _ _)
  · by_cases e : a = ap
    · rw [e, upd_same]
      exact fun z => nomatch z
    · rw [upd_ne e]
      exact h
theorem ret_pot2 {H : Hp} {ap p : Addr} {o u : HO} {i j : Int} (ha : H ap = some o) (np : H p = none) (hj : j.natAbs < 4294967296) : Ret [(ap, none)] H (upd (upd H p u) ap (.lst [.int i, .int j])) := by
  have e := Rx.Ext.new (o := u) np
  have h2 := ret_pot1 (i := i) (j := j) (e.keep ha) hj
  exact ⟨fun a w n h => h2.kp a w n (e.keep h), h2.pot, fun a h => h2.grow a (e.grow a h)⟩
theorem ok_draw {P : Program} {w : World} {K : PySem.W.Frag} {mg : Str → Option Value} {base : Heap} {A : Ad} (T : Txt w K mg A) : FnOk P w K mg base CX0 1 A.a_draw A.d_draw ["_law_pot_here", "_law_many_here"] (sp_draw A) := by
  refine T.F_draw.ok sc_draw (fun vs H Q E h => ?_) (fun cdv A_ outer s_ H_0 vs Q E hr h => ?_)
  · obtain ⟨ms, ap, x_size, KM, rfl, _⟩ := h
    rfl
  · obtain ⟨ms, ap, n, KM, rfl, hW, ⟨⟨n0, n1⟩, hM⟩, hQ⟩ := h
    obtain ⟨i, j, hp, hj⟩ : PotH _ ap := hW.pot (ap, none) (List.mem_singleton.mpr rfl)
    refine ⟨_, pss_cons (ps_if (pt_cmpR op_gt (pe_ix ix_list (pv 0) pe_int (fun _ _ => rfl)) pe_int (nomark _))
        (pss_cons (ps_asg (pe_callB call_divmod (by rfl) T.z_divmod (by decide +kernel) (pa_cons (pe_ix ix_list (pv 0) pe_int (fun _ _ => rfl)) (pa_cons (pv 1) pa_nil)))
            (pg_tup rfl (pgs_cons (pg_sub (pv 0) pe_int set_list) (pgs_cons (pg_name (i := 2) sc_draw.nd rfl (.inl rfl)) pgs_nil)))) (pss_one (ps_ret (pv 2)))) pss_nil)
      (pss_cons (ps_asg (pe_op op_mod (pe_callTy call_int1 (by rfl) T.z_int (by decide +kernel) (pa_cons (pe_op op_add (pe_op op_mul (pe_ix ix_list (pv 0) pe_int (fun _ _ => rfl)) pe_int) pe_int) pa_nil)) pe_int) (pg_sub (pv 0) pe_int set_list))
      (pss_one (ps_ret (pe_op op_mod (pe_callTy call_int1 (by rfl) T.z_int (by decide +kernel) (pa_cons (pe_op op_fdiv (pe_op op_mod (pe_callTy call_int1 (by rfl) T.z_int (by decide +kernel)
          (pa_cons (pe_op op_mul (pe_ix ix_list (pv 0) pe_int (fun _ _ => rfl)) (pe_ix ix_list (pv 0) pe_int (fun _ _ => rfl))) pa_nil)) pe_int) pe_int) pa_nil)) (pv 1))))), ?_⟩
    refine ⟨_, rfl, ap, _, 0, .int i, rfl, rfl, .inl (.inl hp), rfl, _, _, rfl, rfl, _, rfl, ?_⟩
    refine ite2 (fun c => ?_) (fun c => ?_)
    · refine ⟨_, rfl, ap, _, 0, .int i, rfl, rfl, .inl (.inl hp), rfl, _, rfl, _, _, rfl, ⟨n0, n1⟩, fun p np => ?_⟩
      have npa : ap ≠ p := ne_of_none hp np
      refine ⟨p, _, rfl, .inl (.inl upd_same), rfl, _, _, rfl, _, rfl, ap, _, 0, 0, rfl, rfl, (by rw [upd_ne npa]; exact hp), rfl, _, _, rfl, rfl, _, rfl, ?_⟩
      exact hQ (i % n) _ _ (hM _ (Int.emod_nonneg _ (by omega)) (Int.emod_lt_of_pos _ n0)) (ret_pot2 hp np hj) rep_v
    · refine ⟨_, rfl, ap, _, 1, .int j, rfl, rfl, .inl (.inl hp), rfl, _, _, rfl, rfl, .inr ⟨by decide, by decide⟩, _, _, rfl, rfl, .inl ⟨_, rfl, _, _, rfl, rfl, (by show (0 : Int) < 2147483563; decide), ?_⟩⟩
      refine ⟨_, rfl, ap, _, 1, 1, rfl, rfl, hp, rfl, ?_⟩
      refine ⟨_, rfl, ap, _, 1, _, rfl, rfl, .inl (.inl upd_same), rfl, _, rfl, ap, _, 1, _, rfl, rfl, .inl (.inl upd_same), rfl, _, _, rfl, rfl, .inl ⟨?_, ?_⟩, .inl ⟨_, rfl, _, _, rfl, rfl, (by show (0 : Int) < 2147483477; decide), _, _, rfl, rfl, ⟨by decide, by decide⟩, .inl ⟨_, rfl, _, rfl, _, _, rfl, rfl, n0, ?_⟩⟩⟩
      · omega
      · omega
      · refine hQ _ _ _ (hM _ (Int.emod_nonneg _ (by omega)) (Int.emod_lt_of_pos _ n0)) (ret_pot1 (i := i) hp ?_) rep_v
        omega

def M_pick (x_some : (List Int)) (KM : Int → Prop) : Prop :=
  (M_draw (x_some.length : Int) fun r1 => (0 ≤ r1 ∧ ∃ g7 : Int.toNat r1 < x_some.length, ∀ x9, x9 = x_some[Int.toNat r1]'g7 → (KM x9)))
def sp_pick (A : Ad) : Sp := fun vs H Q _ => ∃ (ms : List Addr) (ap : Addr) (v_some : V) (x_some : (List Int)) (KM : Int → Prop), vs = [.ref ap, v_some] ∧ Wd ms [(ap, none)] [] H H ∧ rep ms H (D.lst (x_some.map (fun y_ : Int => (D.v (V.int y_))))) v_some ∧ M_pick x_some KM ∧ ∀ (r : Int) (u : V) (H1 : Hp), KM r → Ret [(ap, none)] H H1 → rep ms H1 (D.v (V.int r)) u → Q u H1
set_option maxHeartbeats 16000000 in
theorem ok_pick {P : Program} {w : World} {K : PySem.W.Frag} {mg : Str → Option Value} {base : Heap} {A : Ad} (T : Txt w K mg A) : FnOk P w K mg base CX0 2 A.a_pick A.d_pick ["_law_pot_here", "_law_some"] (sp_pick A) := by
  refine T.F_pick.ok sc_pick (fun vs H Q E h => ?_) (fun cdv A_ outer s_ H_0 vs Q E hr h => ?_)
  · obtain ⟨ms, ap, v_some, x_some, KM, rfl, _⟩ := h
    rfl
  · obtain ⟨ms, ap, v_some, x_some, KM, rfl, hW, h_some, hM, hQ⟩ := h
    unfold M_pick at hM
    refine ⟨_, (pss_one (ps_ret (pe_ix (ix_listK (K := K) rfl) (pv 1) (pe_call (ok_draw T) (hr.mono (by decide)) (by rfl) T.g_draw T.F_draw.kp T.b_draw .nil pass0 (pa_cons (pv 0) (pa_cons (pe_callB (call_lenK (K := K) rfl) (by rfl) T.z_len PySem.boot_len (pa_cons (pv 1) pa_nil)) pa_nil))) (fun _ _ => rfl)))), ?_⟩
    refine ⟨_, rfl, ?_⟩
    refine ⟨_, rfl, ?_⟩
    refine ⟨_, rfl, ?_⟩
    apply rep_lenL (e := (fun y_ : Int => (D.v (V.int y_)))) (xs := x_some) h_some
    refine ⟨ms, ap, (x_some.length : Int), _, rfl, hW.enterP, hM, fun r1 u4 H5 hM e3 h2 => ?_⟩
    replace h_some := rep_ret hW e3 h_some
    replace hW := hW.retP e3
    obtain rfl := of_v h2
    obtain ⟨g6, g7, hM⟩ := hM
    apply rep_ixL (e := (fun y_ : Int => (D.v (V.int y_)))) (xs := x_some) h_some g6 g7
    intro u10 h8
    obtain ⟨x9, x9e⟩ : ∃ x_, x_ = x_some[Int.toNat r1]'g7 := ⟨_, rfl⟩
    rw [← x9e] at h8
    replace hM := hM x9 x9e
    obtain rfl := of_v h8
    exact hQ x9 _ _ hM hW.out rep_v
def M_many (KM : Int → Prop) : Prop :=
  (M_draw (11 : Int) fun r1 => (M_pick ([(4 : Int), (4 : Int), (6 : Int), (6 : Int), (8 : Int), (10 : Int), (24 : Int), ((4 : Int) + ((2 : Int) * r1))] : List Int) fun r12 => (KM r12)))
def sp_many (A : Ad) : Sp := fun vs H Q _ => ∃ (ms : List Addr) (ap : Addr) (KM : Int → Prop), vs = [.ref ap] ∧ Wd ms [(ap, none)] [] H H ∧ M_many  KM ∧ ∀ (r : Int) (u : V) (H1 : Hp), KM r → Ret [(ap, none)] H H1 → rep ms H1 (D.v (V.int r)) u → Q u H1
set_option maxHeartbeats 16000000 in
theorem ok_many {P : Program} {w : World} {K : PySem.W.Frag} {mg : Str → Option Value} {base : Heap} {A : Ad} (T : Txt w K mg A) : FnOk P w K mg base CX0 3 A.a_many A.d_many ["_law_pot_here"] (sp_many A) := by
  refine T.F_many.ok sc_many (fun vs H Q E h => ?_) (fun cdv A_ outer s_ H_0 vs Q E hr h => ?_)
  · obtain ⟨ms, ap, KM, rfl, _⟩ := h
    rfl
  · obtain ⟨ms, ap, KM, rfl, hW, hM, hQ⟩ := h
    unfold M_many at hM
    refine ⟨_, (pss_one (ps_ret (pe_call (ok_pick T) (hr.mono (by decide)) (by rfl) T.g_pick T.F_pick.kp T.b_pick .nil pass0 (pa_cons (pv 0) (pa_cons (pe_lst (pa_cons pe_int (pa_cons pe_int (pa_cons pe_int (pa_cons pe_int (pa_cons pe_int (pa_cons pe_int (pa_cons pe_int (pa_cons (pe_op op_add pe_int (pe_op op_mul pe_int (pe_call (ok_draw T) (hr.mono (by decide)) (by rfl) T.g_draw T.F_draw.kp T.b_draw .nil pass0 (pa_cons (pv 0) (pa_cons pe_int pa_nil))))) pa_nil))))))))) pa_nil))))), ?_⟩
    refine ⟨_, rfl, ?_⟩
    refine ⟨_, rfl, ?_⟩
    refine ⟨ms, ap, (11 : Int), _, rfl, hW.enterP, hM, fun r1 u4 H5 hM e3 h2 => ?_⟩
    replace hW := hW.retP e3
    obtain rfl := of_v h2
    refine ⟨_, _, rfl, rfl, .inl ⟨by decide, by decide⟩, ?_⟩
    refine ⟨_, _, rfl, rfl, ?_⟩
    refine ⟨(by show 8 ≤ sizeLine; decide), ?_⟩
    intro p6 n10
    have e7 := Rx.Ext.new (H := H5) (o := (HO.lst [V.int (4 : Int), V.int (4 : Int), V.int (6 : Int), V.int (6 : Int), V.int (8 : Int), V.int (10 : Int), V.int (24 : Int), V.int ((4 : Int) + ((2 : Int) * r1))])) n10
    have hp8 : upd H5 p6 (HO.lst [V.int (4 : Int), V.int (4 : Int), V.int (6 : Int), V.int (6 : Int), V.int (8 : Int), V.int (10 : Int), V.int (24 : Int), V.int ((4 : Int) + ((2 : Int) * r1))]) p6 = some (HO.lst [V.int (4 : Int), V.int (4 : Int), V.int (6 : Int), V.int (6 : Int), V.int (8 : Int), V.int (10 : Int), V.int (24 : Int), V.int ((4 : Int) + ((2 : Int) * r1))]) := upd_same
    generalize upd H5 p6 (HO.lst [V.int (4 : Int), V.int (4 : Int), V.int (6 : Int), V.int (6 : Int), V.int (8 : Int), V.int (10 : Int), V.int (24 : Int), V.int ((4 : Int) + ((2 : Int) * r1))]) = H11 at e7 hp8 ⊢
    have h9 : rep ms H11 (D.lst (([(4 : Int), (4 : Int), (6 : Int), (6 : Int), (8 : Int), (10 : Int), (24 : Int), ((4 : Int) + ((2 : Int) * r1))] : List Int).map (fun y_ : Int => (D.v (V.int y_))))) (.ref p6) := rep_lst_mk hW n10 e7 hp8 (repL_cons rep_v (repL_cons rep_v (repL_cons rep_v (repL_cons rep_v (repL_cons rep_v (repL_cons rep_v (repL_cons rep_v (repL_cons rep_v repL_nil))))))))
    replace hW := hW.ret0 e7
    refine ⟨ms, ap, _, ([(4 : Int), (4 : Int), (6 : Int), (6 : Int), (8 : Int), (10 : Int), (24 : Int), ((4 : Int) + ((2 : Int) * r1))] : List Int), _, rfl, hW.enterP, h9, hM, fun r12 u15 H16 hM e14 h13 => ?_⟩
    replace h9 := rep_ret hW e14 h9
    replace hW := hW.retP e14
    obtain rfl := of_v h13
    exact hQ r12 _ _ hM hW.out rep_v
def M_circle (x_many_here : Int) (KM : (List (List (Int × Int))) → Prop) : Prop :=
  (forC (fun (x11 : Int) (s13 : (List (List (Int × Int)))) (k14 : ((List (List (Int × Int)))) → Prop) => ((rangeI (1 : Int) (x_many_here / (2 : Int))).length < 100000 ∧ mapC (fun (x46 : Int) (k39 : (Int × Int) → Prop) => (0 < (x_many_here - (1 : Int)) ∧ (0 < (x_many_here - (1 : Int)) ∧ (k39 (((x11 + x46) % (x_many_here - (1 : Int))), ((x11 - x46) % (x_many_here - (1 : Int)))))))) (rangeI (1 : Int) (x_many_here / (2 : Int))) [] fun ys68 => (([((x_many_here - (1 : Int)), x11)] : List (Int × Int)).length + ys68.length ≤ sizeLine ∧ (s13.length < 16777216 ∧ (k14 ((s13 ++ [(([((x_many_here - (1 : Int)), x11)] : List (Int × Int)) ++ ys68)]))))))) (rangeI (0 : Int) (x_many_here - (1 : Int))) (([] : List (List (Int × Int)))) fun s84 => (KM s84))
def sp_circle (A : Ad) : Sp := fun vs H Q _ => ∃ (ms : List Addr) (x_many_here : Int) (KM : (List (List (Int × Int))) → Prop), vs = [V.int x_many_here] ∧ Wd ms [] [] H H ∧ M_circle x_many_here KM ∧ ∀ (r : (List (List (Int × Int)))) (u : V) (H1 : Hp), KM r → Ret [] H H1 → rep ms H1 (D.lst (r.map (fun y_ : (List (Int × Int)) => (D.lst (y_.map (fun y_ : (Int × Int) => (D.tup [(D.v (V.int y_.1)), (D.v (V.int y_.2))]))))))) u → Q u H1
set_option maxHeartbeats 16000000 in
theorem ok_circle {P : Program} {w : World} {K : PySem.W.Frag} {mg : Str → Option Value} {base : Heap} {A : Ad} (T : Txt w K mg A) : FnOk P w K mg base CX0 1 A.a_circle A.d_circle ["_law_many_here"] (sp_circle A) := by
  refine T.F_circle.ok sc_circle (fun vs H Q E h => ?_) (fun cdv A_ outer s_ H_0 vs Q E hr h => ?_)
  · obtain ⟨ms, x_many_here, KM, rfl, _⟩ := h
    rfl
  · obtain ⟨ms, x_many_here, KM, rfl, hW, hM, hQ⟩ := h
    unfold M_circle at hM
    refine ⟨_, (pss_cons (ps_asg (pe_tup (pa_cons (pe_op op_sub (pv 0) pe_int) (pa_cons (pe_lst pa_nil) pa_nil))) (pg_tup rfl (pgs_cons (pg_name (i := 1) sc_circle.nd rfl (by first | exact Or.inl rfl | exact Or.inr rfl)) (pgs_cons (pg_name (i := 2) sc_circle.nd rfl (by first | exact Or.inl rfl | exact Or.inr rfl)) pgs_nil)))) (pss_cons (ps_for PassesOwn.never rfl (pi_rangeW1 (by rfl) T.z_range (pa_cons (pv 1) pa_nil)) (pg_name (i := 3) sc_circle.nd rfl (by first | exact Or.inl rfl | exact Or.inr rfl)) (pss_cons (ps_set (i := 4) sc_circle.nd rfl (by first | exact Or.inl rfl | exact Or.inr rfl) (pe_op op_cat (pe_lst (pa_cons (pe_tup (pa_cons (pv 1) (pa_cons (pv 3) pa_nil))) pa_nil)) (pe_lc (own := [("_law_k", 5)]) (g := gName 5) rfl sc_circle.nd (pi_rangeW2 (by rfl) T.z_range (pa_cons pe_int (pa_cons (pe_op op_fdivW (pv 0) pe_int) pa_nil))) (blkOk_by (N := ["_law_many_here", "_law_ring", "_law_found", "_law_at", "_law_meets", "_law_k"]) (sc := defScope s_circle) (by decide +kernel)) (fun _ _ _ _ _ => pg_name (i := 5) sc_circle.nd rfl (by first | exact Or.inl rfl | exact Or.inr rfl)) (fun _ _ _ _ _ => pts_nil) (fun _ _ _ _ _ => (pe_tup (pa_cons (pe_op op_mod (pe_op op_add (pv 3) (pv 5)) (pv 1)) (pa_cons (pe_op op_mod (pe_op op_sub (pv 3) (pv 5)) (pv 1)) pa_nil))))))) (pss_one (ps_expr (pe_bmK (K := K) rfl PySem.F.plainAttrs_list PySem.F.slot_list_append PySem.F.type_list_append mt_append (pv 2) (pa_cons (pv 4) pa_nil)))))) (pss_one (ps_ret (pv 2))))), ?_⟩
    refine ⟨_, rfl, ?_⟩
    refine ⟨_, _, rfl, rfl, ?_⟩
    refine ⟨(by show 0 ≤ sizeLine; decide), ?_⟩
    intro L1 nl2
    have nm3 := nm_new hW nl2
    have mu4 := mo_newL (ds := ([] : List (List (Int × Int))).map (fun y_ : (List (Int × Int)) => (D.lst (y_.map (fun y_ : (Int × Int) => (D.tup [(D.v (V.int y_.1)), (D.v (V.int y_.2))])))))) (vs := []) hW nl2 repL_nil
    replace hW := wd_cell (o := .lst []) hW nl2
    generalize upd H_0 L1 (.lst []) = H5 at *
    replace mu4 : MutO (L1 :: ms) [] H_0 H5 L1 (D.lst (([] : List (List (Int × Int))).map (fun y_ : (List (Int × Int)) => (D.lst (y_.map (fun y_ : (Int × Int) => (D.tup [(D.v (V.int y_.1)), (D.v (V.int y_.2))]))))))) := mu4
    refine ⟨(by show 2 ≤ sizeLine; decide), ?_⟩
    intro p6 n9
    have e7 := Rx.Ext.new (H := H5) (o := (HO.tup [V.int (x_many_here - (1 : Int)), (V.ref L1)])) n9
    have hp8 : upd H5 p6 (HO.tup [V.int (x_many_here - (1 : Int)), (V.ref L1)]) p6 = some (HO.tup [V.int (x_many_here - (1 : Int)), (V.ref L1)]) := upd_same
    generalize upd H5 p6 (HO.tup [V.int (x_many_here - (1 : Int)), (V.ref L1)]) = H10 at e7 hp8 ⊢
    replace mu4 := mo_ext e7 mu4
    replace hW := hW.ret0 e7
    refine ⟨_, _, rfl, .inl (.inl hp8), rfl, ?_⟩
    refine ⟨_, _, rfl, ?_⟩
    refine ⟨_, _, rfl, ?_⟩
    refine ⟨rfl, ?_⟩
    refine ⟨_, rfl, ?_⟩
    refine ⟨_, rfl, ?_⟩
    refine for_rangeG (S := (List (List (Int × Int)))) (lo := (0 : Int)) (hi := (x_many_here - (1 : Int))) (N := Int.toNat (x_many_here - (1 : Int))) (fun (s : (List (List (Int × Int)))) σ_ h_ => ∃ (w_0 : Option V), ∃ (w_1 : Option V), σ_ = [some (V.int x_many_here), some (V.int (x_many_here - (1 : Int))), some (V.ref L1), w_0, w_1, none] ∧ Wd (L1 :: ms) [] [] H_0 h_ ∧ Keep (L1 :: ms) H10 h_ ∧ MutO (L1 :: ms) [] H_0 h_ L1 (D.lst (s.map (fun y_ : (List (Int × Int)) => (D.lst (y_.map (fun y_ : (Int × Int) => (D.tup [(D.v (V.int y_.1)), (D.v (V.int y_.2))])))))))) (([] : List (List (Int × Int)))) (by simp) hM ⟨_, _, rfl, hW, Keep.refl, mu4⟩ ?_ ?_
    · skip
      clear mu4
      rintro x11 s13 k14 _ H22 ⟨w19, w20, rfl, hW, hk15, mu21⟩ hM Nx17 hN18
      refine ⟨_, rfl, ?_⟩
      refine ⟨_, rfl, ?_⟩
      refine ⟨(by show 2 ≤ sizeLine; decide), ?_⟩
      intro p23 n27
      have e24 := Rx.Ext.new (H := H22) (o := (HO.tup [V.int (x_many_here - (1 : Int)), V.int x11])) n27
      have hp25 : upd H22 p23 (HO.tup [V.int (x_many_here - (1 : Int)), V.int x11]) p23 = some (HO.tup [V.int (x_many_here - (1 : Int)), V.int x11]) := upd_same
      generalize upd H22 p23 (HO.tup [V.int (x_many_here - (1 : Int)), V.int x11]) = H28 at e24 hp25 ⊢
      have h26 : rep (L1 :: ms) H28 (D.tup [(D.v (V.int (x_many_here - (1 : Int)))), (D.v (V.int x11))]) (.ref p23) := rep_tup_mk hW n27 e24 hp25 (repL_cons rep_v (repL_cons rep_v repL_nil))
      replace hk15 := keep_ext e24 hk15
      replace mu21 := mo_ext e24 mu21
      replace hW := hW.ret0 e24
      refine ⟨(by show 1 ≤ sizeLine; decide), ?_⟩
      intro p29 n33
      have e30 := Rx.Ext.new (H := H28) (o := (HO.lst [(V.ref p23)])) n33
      have hp31 : upd H28 p29 (HO.lst [(V.ref p23)]) p29 = some (HO.lst [(V.ref p23)]) := upd_same
      generalize upd H28 p29 (HO.lst [(V.ref p23)]) = H34 at e30 hp31 ⊢
      have h32 : rep (L1 :: ms) H34 (D.lst (([((x_many_here - (1 : Int)), x11)] : List (Int × Int)).map (fun y_ : (Int × Int) => (D.tup [(D.v (V.int y_.1)), (D.v (V.int y_.2))])))) (.ref p29) := rep_lst_mk hW n33 e30 hp31 (repL_cons h26 repL_nil)
      replace hk15 := keep_ext e30 hk15
      replace h26 := rep_ext e30 h26
      replace mu21 := mo_ext e30 mu21
      replace hW := hW.ret0 e30
      refine ⟨_, rfl, ?_⟩
      refine ⟨_, _, rfl, rfl, ⟨by decide, by decide⟩, ?_⟩
      refine ⟨_, _, rfl, ?_⟩
      refine fun L35 nl36 => ?_
      have nm50 := nm_new hW nl36
      have kn51 := keep_none (w := hW) nl36 hk15
      have ne52 := mo_ne nl36 mu21
      refine lc_rangeG (L := L35) (fun n_ ys_ h_ => Wd (L35 :: (L1 :: ms)) [] [] H_0 h_ ∧ Keep (L35 :: (L1 :: ms)) H34 h_ ∧ MutO (L35 :: (L1 :: ms)) [] H_0 h_ L35 (D.lst (ys_.map (fun y_ : (Int × Int) => (D.tup [(D.v (V.int y_.1)), (D.v (V.int y_.2))])))) ∧ ys_.length ≤ n_ ∧ MutO (L35 :: (L1 :: ms)) [] H_0 h_ L1 (D.lst (s13.map (fun y_ : (List (Int × Int)) => (D.lst (y_.map (fun y_ : (Int × Int) => (D.tup [(D.v (V.int y_.1)), (D.v (V.int y_.2))])))))))) (lo := (1 : Int)) (hi := (x_many_here / (2 : Int))) (N := Int.toNat ((x_many_here / (2 : Int)) - (1 : Int))) (by simp) hM ⟨wd_cell hW nl36, keep_cell nl36 Keep.refl, mo_newL (ds := []) hW nl36 repL_nil, Nat.le_refl _, mo_cell nl36 mu21⟩ ?_ ?_
      · skip
        clear mu21
        rintro x46  n37 ys38 k39 H53 hn ⟨hW, hk40, mu41, ln42, mu54⟩ hM Nx45 hN43
        replace hk15 := Keep.trans (Keep.new hk15) hk40
        replace h26 := rep_keep hk40 (rep_new nl36 h26)
        replace h32 := rep_keep hk40 (rep_new nl36 h32)
        refine ⟨rfl, ?_⟩
        refine tyes_of ?_
        refine ⟨_, rfl, ?_⟩
        refine ⟨_, rfl, ?_⟩
        refine ⟨_, _, rfl, rfl, ?_⟩
        refine ⟨_, rfl, ?_⟩
        obtain ⟨g55, hM⟩ := hM
        refine ⟨_, _, rfl, rfl, g55, ?_⟩
        refine ⟨_, rfl, ?_⟩
        refine ⟨_, rfl, ?_⟩
        refine ⟨_, _, rfl, rfl, ?_⟩
        refine ⟨_, rfl, ?_⟩
        obtain ⟨g56, hM⟩ := hM
        refine ⟨_, _, rfl, rfl, g56, ?_⟩
        refine ⟨(by show 2 ≤ sizeLine; decide), ?_⟩
        intro p57 n61
        have e58 := Rx.Ext.new (H := H53) (o := (HO.tup [V.int ((x11 + x46) % (x_many_here - (1 : Int))), V.int ((x11 - x46) % (x_many_here - (1 : Int)))])) n61
        have hp59 : upd H53 p57 (HO.tup [V.int ((x11 + x46) % (x_many_here - (1 : Int))), V.int ((x11 - x46) % (x_many_here - (1 : Int)))]) p57 = some (HO.tup [V.int ((x11 + x46) % (x_many_here - (1 : Int))), V.int ((x11 - x46) % (x_many_here - (1 : Int)))]) := upd_same
        generalize upd H53 p57 (HO.tup [V.int ((x11 + x46) % (x_many_here - (1 : Int))), V.int ((x11 - x46) % (x_many_here - (1 : Int)))]) = H62 at e58 hp59 ⊢
        have h60 : rep (L35 :: (L1 :: ms)) H62 (D.tup [(D.v (V.int ((x11 + x46) % (x_many_here - (1 : Int))))), (D.v (V.int ((x11 - x46) % (x_many_here - (1 : Int)))))]) (.ref p57) := rep_tup_mk hW n61 e58 hp59 (repL_cons rep_v (repL_cons rep_v repL_nil))
        replace hk15 := keep_ext e58 hk15
        replace h26 := rep_ext e58 h26
        replace h32 := rep_ext e58 h32
        replace hk40 := keep_ext e58 hk40
        replace mu54 := mo_ext e58 mu54
        replace mu41 := mo_ext e58 mu41
        replace hW := hW.ret0 e58
        refine mo_end mu41 hn (by rw [List.length_map]; exact ln42) fun vs63 hr64 => ?_
        have mk66 := mo_setL mu41 (repL_snoc (e := (fun y_ : (Int × Int) => (D.tup [(D.v (V.int y_.1)), (D.v (V.int y_.2))]))) (xs := ys38) (y := (((x11 + x46) % (x_many_here - (1 : Int))), ((x11 - x46) % (x_many_here - (1 : Int))))) hr64 h60)
        replace mu54 := mo_put (o := .lst (vs63 ++ [(V.ref p57)])) mu41.im ne52 mu54
        replace hk15 := keep_put (o := .lst (vs63 ++ [(V.ref p57)])) mu41.im hk15
        replace h26 := rep_put (o := .lst (vs63 ++ [(V.ref p57)])) mu41.im h26
        replace h32 := rep_put (o := .lst (vs63 ++ [(V.ref p57)])) mu41.im h32
        replace hk40 := keep_put (o := .lst (vs63 ++ [(V.ref p57)])) mu41.im hk40
        replace h60 := rep_put (o := .lst (vs63 ++ [(V.ref p57)])) mu41.im h60
        replace hW := wd_put (o := .lst (vs63 ++ [(V.ref p57)])) hW mu41
        replace mu41 := mk66
        generalize upd H62 L35 (.lst (vs63 ++ [(V.ref p57)])) = H67 at *
        replace mu41 : MutO (L35 :: (L1 :: ms)) [] H_0 H67 L35 (D.lst ((ys38 ++ [(((x11 + x46) % (x_many_here - (1 : Int))), ((x11 - x46) % (x_many_here - (1 : Int))))]).map (fun y_ : (Int × Int) => (D.tup [(D.v (V.int y_.1)), (D.v (V.int y_.2))])))) := mu41
        clear mk66
        exact hN43 (((x11 + x46) % (x_many_here - (1 : Int))), ((x11 - x46) % (x_many_here - (1 : Int)))) _ hM ⟨hW, hk40, mu41, by rw [List.length_append]; exact Nat.add_le_add_right ln42 1, mu54⟩
      · skip
        clear mu21
        rintro n37 ys68 H69 hM ⟨hW, hk40, mu41, ln42, mu70⟩
        replace hk15 := Keep.trans (Keep.new hk15) hk40
        replace h26 := rep_keep hk40 (rep_new nl36 h26)
        replace h32 := rep_keep hk40 (rep_new nl36 h32)
        clear hk40 ln42
        have h71 := mo_rep_dr dr_here nm50 mu41
        replace hW := wd_dr dr_here mu41.hp hW
        replace hk15 := keep_dr dr_here kn51 hk15
        replace h26 := rep_dr dr_here h26
        replace h32 := rep_dr dr_here h32
        replace mu70 := mo_dr dr_here ne52 mu70
        clear mu41
        obtain ⟨g72, hM⟩ := hM
        apply rep_cat (xs := ([((x_many_here - (1 : Int)), x11)] : List (Int × Int))) (ys := ys68) (e := (fun y_ : (Int × Int) => (D.tup [(D.v (V.int y_.1)), (D.v (V.int y_.2))]))) hW h32 h71 g72
        intro p73 H76 e75 h74
        replace hk15 := keep_ext e75 hk15
        replace h26 := rep_ext e75 h26
        replace h32 := rep_ext e75 h32
        replace h71 := rep_ext e75 h71
        replace mu70 := mo_ext e75 mu70
        replace hW := hW.ret0 e75
        refine ⟨_, rfl, ?_⟩
        refine ⟨mo_tyL mu70, ?_⟩
        refine ⟨_, rfl, ?_⟩
        obtain ⟨g77, hM⟩ := hM
        apply mo_appU mu70 (by rw [List.length_map]; exact g77)
        intro vs78 hr80
        have mk82 := mo_setL mu70 (repL_snoc (e := (fun y_ : (List (Int × Int)) => (D.lst (y_.map (fun y_ : (Int × Int) => (D.tup [(D.v (V.int y_.1)), (D.v (V.int y_.2))])))))) (xs := s13) (y := (([((x_many_here - (1 : Int)), x11)] : List (Int × Int)) ++ ys68)) hr80 h74)
        replace hk15 := keep_put (o := .lst (vs78 ++ [(V.ref p73)])) mu70.im hk15
        replace h26 := rep_put (o := .lst (vs78 ++ [(V.ref p73)])) mu70.im h26
        replace h32 := rep_put (o := .lst (vs78 ++ [(V.ref p73)])) mu70.im h32
        replace h71 := rep_put (o := .lst (vs78 ++ [(V.ref p73)])) mu70.im h71
        replace h74 := rep_put (o := .lst (vs78 ++ [(V.ref p73)])) mu70.im h74
        replace hW := wd_put (o := .lst (vs78 ++ [(V.ref p73)])) hW mu70
        replace mu70 := mk82
        generalize upd H76 L1 (.lst (vs78 ++ [(V.ref p73)])) = H83 at *
        replace mu70 : MutO (L1 :: ms) [] H_0 H83 L1 (D.lst ((s13 ++ [(([((x_many_here - (1 : Int)), x11)] : List (Int × Int)) ++ ys68)]).map (fun y_ : (List (Int × Int)) => (D.lst (y_.map (fun y_ : (Int × Int) => (D.tup [(D.v (V.int y_.1)), (D.v (V.int y_.2))]))))))) := mu70
        clear mk82
        exact hN18 ((s13 ++ [(([((x_many_here - (1 : Int)), x11)] : List (Int × Int)) ++ ys68)])) _ _ hM ⟨_, _, rfl, hW, hk15, mu70⟩
    · skip
      clear mu4
      rintro s84 _ H89 hM ⟨w86, w87, rfl, hW, hk85, mu88⟩
      have h90 := mo_rep_dr dr_here nm3 mu88
      replace hW := wd_dr dr_here mu88.hp hW
      clear mu88
      refine ⟨_, rfl, ?_⟩
      exact hQ s84 _ _ hM hW.out h90
def M_mixed (x_some : (List (List (Int × Int)))) (KM : (List (List (Int × Int))) → Prop) : Prop :=
  (forC (fun (x20 : Int) (s22 : (List (List (Int × Int))) × (List (List (Int × Int)))) (k23 : ((List (List (Int × Int))) × (List (List (Int × Int)))) → Prop) => (M_draw (s22.1.length : Int) fun r32 => ((0 ≤ r32 ∧ r32 < 2 ^ 63) ∧ ∃ y42, s22.1[Int.toNat r32]? = some y42 ∧ (s22.2.length < 16777216 ∧ (k23 ((s22.1.eraseIdx (Int.toNat r32)), (s22.2 ++ [y42]))))))) (rangeI (0 : Int) (x_some.length : Int)) (x_some, ([] : List (List (Int × Int)))) fun s55 => (KM s55.2))
def sp_mixed (A : Ad) : Sp := fun vs H Q _ => ∃ (ms : List Addr) (ap : Addr) (v_some : V) (x_some : (List (List (Int × Int)))) (KM : (List (List (Int × Int))) → Prop), vs = [.ref ap, v_some] ∧ Wd ms [(ap, none)] [] H H ∧ rep ms H (D.lst (x_some.map (fun y_ : (List (Int × Int)) => (D.lst (y_.map (fun y_ : (Int × Int) => (D.tup [(D.v (V.int y_.1)), (D.v (V.int y_.2))]))))))) v_some ∧ M_mixed x_some KM ∧ ∀ (r : (List (List (Int × Int)))) (u : V) (H1 : Hp), KM r → Ret [(ap, none)] H H1 → rep ms H1 (D.lst (r.map (fun y_ : (List (Int × Int)) => (D.lst (y_.map (fun y_ : (Int × Int) => (D.tup [(D.v (V.int y_.1)), (D.v (V.int y_.2))]))))))) u → Q u H1
set_option maxHeartbeats 16000000 in
theorem ok_mixed {P : Program} {w : World} {K : PySem.W.Frag} {mg : Str → Option Value} {base : Heap} {A : Ad} (T : Txt w K mg A) : FnOk P w K mg base CX0 2 A.a_mixed A.d_mixed ["_law_pot_here", "_law_some"] (sp_mixed A) := by
  refine T.F_mixed.ok sc_mixed (fun vs H Q E h => ?_) (fun cdv A_ outer s_ H_0 vs Q E hr h => ?_)
  · obtain ⟨ms, ap, v_some, x_some, KM, rfl, _⟩ := h
    rfl
  · obtain ⟨ms, ap, v_some, x_some, KM, rfl, hW, h_some, hM, hQ⟩ := h
    unfold M_mixed at hM
    refine ⟨_, (pss_cons (ps_par (i := 2) (j := 3) (by rfl) sc_mixed.nd rfl rfl (by decide) rfl rfl (pa_cons (pe_callTy (call_list_ofK (K := K) rfl) (by rfl) T.z_list (by decide +kernel) (pa_cons (pv 1) pa_nil)) (pa_cons (pe_lst pa_nil) pa_nil)) (by rfl)) (pss_cons (ps_for PassesOwn.never rfl (pi_rangeW1 (by rfl) T.z_range (pa_cons (pe_callB (call_lenK (K := K) rfl) (by rfl) T.z_len PySem.boot_len (pa_cons (pv 1) pa_nil)) pa_nil)) (pg_name (i := 4) sc_mixed.nd rfl (by first | exact Or.inl rfl | exact Or.inr rfl)) (pss_one (ps_expr (pe_bmK (K := K) rfl PySem.F.plainAttrs_list PySem.F.slot_list_append PySem.F.type_list_append mt_append (pv 3) (pa_cons (pe_bmK (K := K) rfl PySem.F.plainAttrs_list PySem.F.slot_list_pop PySem.F.type_list_pop mt_popAt (pv 2) (pa_cons (pe_call (ok_draw T) (hr.mono (by decide)) (by rfl) T.g_draw T.F_draw.kp T.b_draw .nil pass0 (pa_cons (pv 0) (pa_cons (pe_callB (call_lenK (K := K) rfl) (by rfl) T.z_len PySem.boot_len (pa_cons (pv 2) pa_nil)) pa_nil))) pa_nil)) pa_nil))))) (pss_one (ps_ret (pv 3))))), ?_⟩
    refine ⟨_, rfl, ?_⟩
    apply rep_listL h_some
    intro ys1 hr2
    intro L9 nl10
    have nm11 := nm_new hW nl10
    have mu12 := mo_newL (ds := x_some.map (fun y_ : (List (Int × Int)) => (D.lst (y_.map (fun y_ : (Int × Int) => (D.tup [(D.v (V.int y_.1)), (D.v (V.int y_.2))])))))) (vs := ys1) hW nl10 hr2
    replace h_some := rep_cell (o := .lst ys1) nl10 h_some
    replace hW := wd_cell (o := .lst ys1) hW nl10
    generalize upd H_0 L9 (.lst ys1) = H13 at *
    replace mu12 : MutO (L9 :: ms) [(ap, none)] H_0 H13 L9 (D.lst (x_some.map (fun y_ : (List (Int × Int)) => (D.lst (y_.map (fun y_ : (Int × Int) => (D.tup [(D.v (V.int y_.1)), (D.v (V.int y_.2))]))))))) := mu12
    refine ⟨(by show 0 ≤ sizeLine; decide), ?_⟩
    intro L14 nl15
    have nm16 := nm_new hW nl15
    have mu17 := mo_newL (ds := ([] : List (List (Int × Int))).map (fun y_ : (List (Int × Int)) => (D.lst (y_.map (fun y_ : (Int × Int) => (D.tup [(D.v (V.int y_.1)), (D.v (V.int y_.2))])))))) (vs := []) hW nl15 repL_nil
    have ne18 := mo_ne nl15 mu12
    replace mu12 := mo_cell (o := .lst []) nl15 mu12
    replace h_some := rep_cell (o := .lst []) nl15 h_some
    replace hW := wd_cell (o := .lst []) hW nl15
    generalize upd H13 L14 (.lst []) = H19 at *
    replace mu17 : MutO (L14 :: (L9 :: ms)) [(ap, none)] H_0 H19 L14 (D.lst (([] : List (List (Int × Int))).map (fun y_ : (List (Int × Int)) => (D.lst (y_.map (fun y_ : (Int × Int) => (D.tup [(D.v (V.int y_.1)), (D.v (V.int y_.2))]))))))) := mu17
    refine ⟨_, _, rfl, ?_⟩
    refine ⟨_, rfl, ?_⟩
    apply rep_lenL (e := (fun y_ : (List (Int × Int)) => (D.lst (y_.map (fun y_ : (Int × Int) => (D.tup [(D.v (V.int y_.1)), (D.v (V.int y_.2))])))))) (xs := x_some) h_some
    refine ⟨_, rfl, ?_⟩
    refine for_rangeG (S := (List (List (Int × Int))) × (List (List (Int × Int)))) (lo := (0 : Int)) (hi := (x_some.length : Int)) (N := Int.toNat (x_some.length : Int)) (fun (s : (List (List (Int × Int))) × (List (List (Int × Int)))) σ_ h_ => ∃ (w_0 : Option V), σ_ = [some (V.ref ap), some v_some, some (V.ref L9), some (V.ref L14), w_0] ∧ Wd (L14 :: (L9 :: ms)) [(ap, none)] [] H_0 h_ ∧ Keep (L14 :: (L9 :: ms)) H19 h_ ∧ MutO (L14 :: (L9 :: ms)) [(ap, none)] H_0 h_ L9 (D.lst (s.1.map (fun y_ : (List (Int × Int)) => (D.lst (y_.map (fun y_ : (Int × Int) => (D.tup [(D.v (V.int y_.1)), (D.v (V.int y_.2))]))))))) ∧ MutO (L14 :: (L9 :: ms)) [(ap, none)] H_0 h_ L14 (D.lst (s.2.map (fun y_ : (List (Int × Int)) => (D.lst (y_.map (fun y_ : (Int × Int) => (D.tup [(D.v (V.int y_.1)), (D.v (V.int y_.2))])))))))) (x_some, ([] : List (List (Int × Int)))) (by simp) hM ⟨_, rfl, hW, Keep.refl, mu12, mu17⟩ ?_ ?_
    · skip
      clear mu12
      clear mu17
      rintro x20 s22 k23 _ H31 ⟨w28, rfl, hW, hk24, mu29, mu30⟩ hM Nx26 hN27
      replace h_some := rep_keep hk24 h_some
      refine ⟨_, rfl, ?_⟩
      refine ⟨mo_tyL mu30, ?_⟩
      refine ⟨_, rfl, ?_⟩
      refine ⟨mo_tyL mu29, ?_⟩
      refine ⟨_, rfl, ?_⟩
      refine ⟨_, rfl, ?_⟩
      apply mo_len (e := (fun y_ : (List (Int × Int)) => (D.lst (y_.map (fun y_ : (Int × Int) => (D.tup [(D.v (V.int y_.1)), (D.v (V.int y_.2))])))))) (xs := s22.1) mu29
      refine ⟨(L14 :: (L9 :: ms)), ap, (s22.1.length : Int), _, rfl, hW.enterP, hM, fun r32 u35 H36 hM e34 h33 => ?_⟩
      replace h_some := rep_ret hW e34 h_some
      replace hk24 := keep_ret hW e34 hk24
      replace mu29 := mo_ret hW e34 mu29
      replace mu30 := mo_ret hW e34 mu30
      replace hW := hW.retP e34
      obtain rfl := of_v h33
      obtain ⟨g37, hM⟩ := hM
      obtain ⟨y42, hy43, hM⟩ := hM
      apply mo_popU (e := (fun y_ : (List (Int × Int)) => (D.lst (y_.map (fun y_ : (Int × Int) => (D.tup [(D.v (V.int y_.1)), (D.v (V.int y_.2))])))))) (xs := s22.1) (y := y42) mu29 g37.1 hy43 g37.2
      intro vs38 u44 hr40 h45
      have mk46 := mo_setL mu29 (repL_erase (e := (fun y_ : (List (Int × Int)) => (D.lst (y_.map (fun y_ : (Int × Int) => (D.tup [(D.v (V.int y_.1)), (D.v (V.int y_.2))])))))) (Int.toNat r32) hr40)
      replace mu30 := mo_put (o := .lst (vs38.eraseIdx (Int.toNat r32))) mu29.im (Ne.symm ne18) mu30
      replace h_some := rep_put (o := .lst (vs38.eraseIdx (Int.toNat r32))) mu29.im h_some
      replace hk24 := keep_put (o := .lst (vs38.eraseIdx (Int.toNat r32))) mu29.im hk24
      replace h45 := rep_put (o := .lst (vs38.eraseIdx (Int.toNat r32))) mu29.im h45
      replace hW := wd_put (o := .lst (vs38.eraseIdx (Int.toNat r32))) hW mu29
      replace mu29 := mk46
      generalize upd H36 L9 (.lst (vs38.eraseIdx (Int.toNat r32))) = H47 at *
      replace mu29 : MutO (L14 :: (L9 :: ms)) [(ap, none)] H_0 H47 L9 (D.lst ((s22.1.eraseIdx (Int.toNat r32)).map (fun y_ : (List (Int × Int)) => (D.lst (y_.map (fun y_ : (Int × Int) => (D.tup [(D.v (V.int y_.1)), (D.v (V.int y_.2))]))))))) := mu29
      clear mk46
      obtain ⟨g48, hM⟩ := hM
      apply mo_appU mu30 (by rw [List.length_map]; exact g48)
      intro vs49 hr51
      have mk53 := mo_setL mu30 (repL_snoc (e := (fun y_ : (List (Int × Int)) => (D.lst (y_.map (fun y_ : (Int × Int) => (D.tup [(D.v (V.int y_.1)), (D.v (V.int y_.2))])))))) (xs := s22.2) (y := y42) hr51 h45)
      replace mu29 := mo_put (o := .lst (vs49 ++ [u44])) mu30.im ne18 mu29
      replace h_some := rep_put (o := .lst (vs49 ++ [u44])) mu30.im h_some
      replace hk24 := keep_put (o := .lst (vs49 ++ [u44])) mu30.im hk24
      replace h45 := rep_put (o := .lst (vs49 ++ [u44])) mu30.im h45
      replace hW := wd_put (o := .lst (vs49 ++ [u44])) hW mu30
      replace mu30 := mk53
      generalize upd H47 L14 (.lst (vs49 ++ [u44])) = H54 at *
      replace mu30 : MutO (L14 :: (L9 :: ms)) [(ap, none)] H_0 H54 L14 (D.lst ((s22.2 ++ [y42]).map (fun y_ : (List (Int × Int)) => (D.lst (y_.map (fun y_ : (Int × Int) => (D.tup [(D.v (V.int y_.1)), (D.v (V.int y_.2))]))))))) := mu30
      clear mk53
      exact hN27 ((s22.1.eraseIdx (Int.toNat r32)), (s22.2 ++ [y42])) _ _ hM ⟨_, rfl, hW, hk24, mu29, mu30⟩
    · skip
      clear mu12
      clear mu17
      rintro s55 _ H60 hM ⟨w57, rfl, hW, hk56, mu58, mu59⟩
      replace h_some := rep_keep hk56 h_some
      have h61 := mo_rep_dr (dr_cons dr_here) (nm_cons ne18 nm11) mu58
      replace hW := wd_dr (dr_cons dr_here) mu58.hp hW
      replace h_some := rep_dr (dr_cons dr_here) h_some
      replace mu59 := mo_dr (dr_cons dr_here) (Ne.symm ne18) mu59
      replace nm16 := nm_dr dr_here nm16
      clear mu58
      have h62 := mo_rep_dr dr_here nm16 mu59
      replace hW := wd_dr dr_here mu59.hp hW
      replace h_some := rep_dr dr_here h_some
      replace h61 := rep_dr dr_here h61
      clear mu59
      refine ⟨_, rfl, ?_⟩
      exact hQ s55.2 _ _ hM hW.out h62
def M_mixed_pli (x_some : (List Int)) (KM : (List Int) → Prop) : Prop :=
  (forC (fun (x20 : Int) (s22 : (List Int) × (List Int)) (k23 : ((List Int) × (List Int)) → Prop) => (M_draw (s22.1.length : Int) fun r32 => ((0 ≤ r32 ∧ r32 < 2 ^ 63) ∧ ∃ y42, s22.1[Int.toNat r32]? = some y42 ∧ (s22.2.length < 16777216 ∧ (k23 ((s22.1.eraseIdx (Int.toNat r32)), (s22.2 ++ [y42]))))))) (rangeI (0 : Int) (x_some.length : Int)) (x_some, ([] : List Int)) fun s55 => (KM s55.2))
def sp_mixed_pli (A : Ad) : Sp := fun vs H Q _ => ∃ (ms : List Addr) (ap : Addr) (v_some : V) (x_some : (List Int)) (KM : (List Int) → Prop), vs = [.ref ap, v_some] ∧ Wd ms [(ap, none)] [] H H ∧ rep ms H (D.lst (x_some.map (fun y_ : Int => (D.v (V.int y_))))) v_some ∧ M_mixed_pli x_some KM ∧ ∀ (r : (List Int)) (u : V) (H1 : Hp), KM r → Ret [(ap, none)] H H1 → rep ms H1 (D.lst (r.map (fun y_ : Int => (D.v (V.int y_))))) u → Q u H1
set_option maxHeartbeats 16000000 in
theorem ok_mixed_pli {P : Program} {w : World} {K : PySem.W.Frag} {mg : Str → Option Value} {base : Heap} {A : Ad} (T : Txt w K mg A) : FnOk P w K mg base CX0 2 A.a_mixed A.d_mixed ["_law_pot_here", "_law_some"] (sp_mixed_pli A) := by
  refine T.F_mixed.ok sc_mixed (fun vs H Q E h => ?_) (fun cdv A_ outer s_ H_0 vs Q E hr h => ?_)
  · obtain ⟨ms, ap, v_some, x_some, KM, rfl, _⟩ := h
    rfl
  · obtain ⟨ms, ap, v_some, x_some, KM, rfl, hW, h_some, hM, hQ⟩ := h
    unfold M_mixed_pli at hM
    refine ⟨_, (pss_cons (ps_par (i := 2) (j := 3) (by rfl) sc_mixed.nd rfl rfl (by decide) rfl rfl (pa_cons (pe_callTy (call_list_ofK (K := K) rfl) (by rfl) T.z_list (by decide +kernel) (pa_cons (pv 1) pa_nil)) (pa_cons (pe_lst pa_nil) pa_nil)) (by rfl)) (pss_cons (ps_for PassesOwn.never rfl (pi_rangeW1 (by rfl) T.z_range (pa_cons (pe_callB (call_lenK (K := K) rfl) (by rfl) T.z_len PySem.boot_len (pa_cons (pv 1) pa_nil)) pa_nil)) (pg_name (i := 4) sc_mixed.nd rfl (by first | exact Or.inl rfl | exact Or.inr rfl)) (pss_one (ps_expr (pe_bmK (K := K) rfl PySem.F.plainAttrs_list PySem.F.slot_list_append PySem.F.type_list_append mt_append (pv 3) (pa_cons (pe_bmK (K := K) rfl PySem.F.plainAttrs_list PySem.F.slot_list_pop PySem.F.type_list_pop mt_popAt (pv 2) (pa_cons (pe_call (ok_draw T) (hr.mono (by decide)) (by rfl) T.g_draw T.F_draw.kp T.b_draw .nil pass0 (pa_cons (pv 0) (pa_cons (pe_callB (call_lenK (K := K) rfl) (by rfl) T.z_len PySem.boot_len (pa_cons (pv 2) pa_nil)) pa_nil))) pa_nil)) pa_nil))))) (pss_one (ps_ret (pv 3))))), ?_⟩
    refine ⟨_, rfl, ?_⟩
    apply rep_listL h_some
    intro ys1 hr2
    intro L9 nl10
    have nm11 := nm_new hW nl10
    have mu12 := mo_newL (ds := x_some.map (fun y_ : Int => (D.v (V.int y_)))) (vs := ys1) hW nl10 hr2
    replace h_some := rep_cell (o := .lst ys1) nl10 h_some
    replace hW := wd_cell (o := .lst ys1) hW nl10
    generalize upd H_0 L9 (.lst ys1) = H13 at *
    replace mu12 : MutO (L9 :: ms) [(ap, none)] H_0 H13 L9 (D.lst (x_some.map (fun y_ : Int => (D.v (V.int y_))))) := mu12
    refine ⟨(by show 0 ≤ sizeLine; decide), ?_⟩
    intro L14 nl15
    have nm16 := nm_new hW nl15
    have mu17 := mo_newL (ds := ([] : List Int).map (fun y_ : Int => (D.v (V.int y_)))) (vs := []) hW nl15 repL_nil
    have ne18 := mo_ne nl15 mu12
    replace mu12 := mo_cell (o := .lst []) nl15 mu12
    replace h_some := rep_cell (o := .lst []) nl15 h_some
    replace hW := wd_cell (o := .lst []) hW nl15
    generalize upd H13 L14 (.lst []) = H19 at *
    replace mu17 : MutO (L14 :: (L9 :: ms)) [(ap, none)] H_0 H19 L14 (D.lst (([] : List Int).map (fun y_ : Int => (D.v (V.int y_))))) := mu17
    refine ⟨_, _, rfl, ?_⟩
    refine ⟨_, rfl, ?_⟩
    apply rep_lenL (e := (fun y_ : Int => (D.v (V.int y_)))) (xs := x_some) h_some
    refine ⟨_, rfl, ?_⟩
    refine for_rangeG (S := (List Int) × (List Int)) (lo := (0 : Int)) (hi := (x_some.length : Int)) (N := Int.toNat (x_some.length : Int)) (fun (s : (List Int) × (List Int)) σ_ h_ => ∃ (w_0 : Option V), σ_ = [some (V.ref ap), some v_some, some (V.ref L9), some (V.ref L14), w_0] ∧ Wd (L14 :: (L9 :: ms)) [(ap, none)] [] H_0 h_ ∧ Keep (L14 :: (L9 :: ms)) H19 h_ ∧ MutO (L14 :: (L9 :: ms)) [(ap, none)] H_0 h_ L9 (D.lst (s.1.map (fun y_ : Int => (D.v (V.int y_))))) ∧ MutO (L14 :: (L9 :: ms)) [(ap, none)] H_0 h_ L14 (D.lst (s.2.map (fun y_ : Int => (D.v (V.int y_)))))) (x_some, ([] : List Int)) (by simp) hM ⟨_, rfl, hW, Keep.refl, mu12, mu17⟩ ?_ ?_
    · skip
      clear mu12
      clear mu17
      rintro x20 s22 k23 _ H31 ⟨w28, rfl, hW, hk24, mu29, mu30⟩ hM Nx26 hN27
      replace h_some := rep_keep hk24 h_some
      refine ⟨_, rfl, ?_⟩
      refine ⟨mo_tyL mu30, ?_⟩
      refine ⟨_, rfl, ?_⟩
      refine ⟨mo_tyL mu29, ?_⟩
      refine ⟨_, rfl, ?_⟩
      refine ⟨_, rfl, ?_⟩
      apply mo_len (e := (fun y_ : Int => (D.v (V.int y_)))) (xs := s22.1) mu29
      refine ⟨(L14 :: (L9 :: ms)), ap, (s22.1.length : Int), _, rfl, hW.enterP, hM, fun r32 u35 H36 hM e34 h33 => ?_⟩
      replace h_some := rep_ret hW e34 h_some
      replace hk24 := keep_ret hW e34 hk24
      replace mu29 := mo_ret hW e34 mu29
      replace mu30 := mo_ret hW e34 mu30
      replace hW := hW.retP e34
      obtain rfl := of_v h33
      obtain ⟨g37, hM⟩ := hM
      obtain ⟨y42, hy43, hM⟩ := hM
      apply mo_popU (e := (fun y_ : Int => (D.v (V.int y_)))) (xs := s22.1) (y := y42) mu29 g37.1 hy43 g37.2
      intro vs38 u44 hr40 h45
      have mk46 := mo_setL mu29 (repL_erase (e := (fun y_ : Int => (D.v (V.int y_)))) (Int.toNat r32) hr40)
      replace mu30 := mo_put (o := .lst (vs38.eraseIdx (Int.toNat r32))) mu29.im (Ne.symm ne18) mu30
      replace h_some := rep_put (o := .lst (vs38.eraseIdx (Int.toNat r32))) mu29.im h_some
      replace hk24 := keep_put (o := .lst (vs38.eraseIdx (Int.toNat r32))) mu29.im hk24
      replace h45 := rep_put (o := .lst (vs38.eraseIdx (Int.toNat r32))) mu29.im h45
      replace hW := wd_put (o := .lst (vs38.eraseIdx (Int.toNat r32))) hW mu29
      replace mu29 := mk46
      generalize upd H36 L9 (.lst (vs38.eraseIdx (Int.toNat r32))) = H47 at *
      replace mu29 : MutO (L14 :: (L9 :: ms)) [(ap, none)] H_0 H47 L9 (D.lst ((s22.1.eraseIdx (Int.toNat r32)).map (fun y_ : Int => (D.v (V.int y_))))) := mu29
      clear mk46
      obtain rfl := of_v h45
      obtain ⟨g48, hM⟩ := hM
      apply mo_appU mu30 (by rw [List.length_map]; exact g48)
      intro vs49 hr51
      have mk53 := mo_setL mu30 (repL_snoc (e := (fun y_ : Int => (D.v (V.int y_)))) (xs := s22.2) (y := y42) hr51 rep_v)
      replace mu29 := mo_put (o := .lst (vs49 ++ [V.int y42])) mu30.im ne18 mu29
      replace h_some := rep_put (o := .lst (vs49 ++ [V.int y42])) mu30.im h_some
      replace hk24 := keep_put (o := .lst (vs49 ++ [V.int y42])) mu30.im hk24
      replace hW := wd_put (o := .lst (vs49 ++ [V.int y42])) hW mu30
      replace mu30 := mk53
      generalize upd H47 L14 (.lst (vs49 ++ [V.int y42])) = H54 at *
      replace mu30 : MutO (L14 :: (L9 :: ms)) [(ap, none)] H_0 H54 L14 (D.lst ((s22.2 ++ [y42]).map (fun y_ : Int => (D.v (V.int y_))))) := mu30
      clear mk53
      exact hN27 ((s22.1.eraseIdx (Int.toNat r32)), (s22.2 ++ [y42])) _ _ hM ⟨_, rfl, hW, hk24, mu29, mu30⟩
    · skip
      clear mu12
      clear mu17
      rintro s55 _ H60 hM ⟨w57, rfl, hW, hk56, mu58, mu59⟩
      replace h_some := rep_keep hk56 h_some
      have h61 := mo_rep_dr (dr_cons dr_here) (nm_cons ne18 nm11) mu58
      replace hW := wd_dr (dr_cons dr_here) mu58.hp hW
      replace h_some := rep_dr (dr_cons dr_here) h_some
      replace mu59 := mo_dr (dr_cons dr_here) (Ne.symm ne18) mu59
      replace nm16 := nm_dr dr_here nm16
      clear mu58
      have h62 := mo_rep_dr dr_here nm16 mu59
      replace hW := wd_dr dr_here mu59.hp hW
      replace h_some := rep_dr dr_here h_some
      replace h61 := rep_dr dr_here h61
      clear mu59
      refine ⟨_, rfl, ?_⟩
      exact hQ s55.2 _ _ hM hW.out h62
def M_mixed_pltii (x_some : (List (Int × Int))) (KM : (List (Int × Int)) → Prop) : Prop :=
  (forC (fun (x20 : Int) (s22 : (List (Int × Int)) × (List (Int × Int))) (k23 : ((List (Int × Int)) × (List (Int × Int))) → Prop) => (M_draw (s22.1.length : Int) fun r32 => ((0 ≤ r32 ∧ r32 < 2 ^ 63) ∧ ∃ y42, s22.1[Int.toNat r32]? = some y42 ∧ (s22.2.length < 16777216 ∧ (k23 ((s22.1.eraseIdx (Int.toNat r32)), (s22.2 ++ [y42]))))))) (rangeI (0 : Int) (x_some.length : Int)) (x_some, ([] : List (Int × Int))) fun s55 => (KM s55.2))
def sp_mixed_pltii (A : Ad) : Sp := fun vs H Q _ => ∃ (ms : List Addr) (ap : Addr) (v_some : V) (x_some : (List (Int × Int))) (KM : (List (Int × Int)) → Prop), vs = [.ref ap, v_some] ∧ Wd ms [(ap, none)] [] H H ∧ rep ms H (D.lst (x_some.map (fun y_ : (Int × Int) => (D.tup [(D.v (V.int y_.1)), (D.v (V.int y_.2))])))) v_some ∧ M_mixed_pltii x_some KM ∧ ∀ (r : (List (Int × Int))) (u : V) (H1 : Hp), KM r → Ret [(ap, none)] H H1 → rep ms H1 (D.lst (r.map (fun y_ : (Int × Int) => (D.tup [(D.v (V.int y_.1)), (D.v (V.int y_.2))])))) u → Q u H1
set_option maxHeartbeats 16000000 in
theorem ok_mixed_pltii {P : Program} {w : World} {K : PySem.W.Frag} {mg : Str → Option Value} {base : Heap} {A : Ad} (T : Txt w K mg A) : FnOk P w K mg base CX0 2 A.a_mixed A.d_mixed ["_law_pot_here", "_law_some"] (sp_mixed_pltii A) := by
  refine T.F_mixed.ok sc_mixed (fun vs H Q E h => ?_) (fun cdv A_ outer s_ H_0 vs Q E hr h => ?_)
  · obtain ⟨ms, ap, v_some, x_some, KM, rfl, _⟩ := h
    rfl
  · obtain ⟨ms, ap, v_some, x_some, KM, rfl, hW, h_some, hM, hQ⟩ := h
    unfold M_mixed_pltii at hM
    refine ⟨_, (pss_cons (ps_par (i := 2) (j := 3) (by rfl) sc_mixed.nd rfl rfl (by decide) rfl rfl (pa_cons (pe_callTy (call_list_ofK (K := K) rfl) (by rfl) T.z_list (by decide +kernel) (pa_cons (pv 1) pa_nil)) (pa_cons (pe_lst pa_nil) pa_nil)) (by rfl)) (pss_cons (ps_for PassesOwn.never rfl (pi_rangeW1 (by rfl) T.z_range (pa_cons (pe_callB (call_lenK (K := K) rfl) (by rfl) T.z_len PySem.boot_len (pa_cons (pv 1) pa_nil)) pa_nil)) (pg_name (i := 4) sc_mixed.nd rfl (by first | exact Or.inl rfl | exact Or.inr rfl)) (pss_one (ps_expr (pe_bmK (K := K) rfl PySem.F.plainAttrs_list PySem.F.slot_list_append PySem.F.type_list_append mt_append (pv 3) (pa_cons (pe_bmK (K := K) rfl PySem.F.plainAttrs_list PySem.F.slot_list_pop PySem.F.type_list_pop mt_popAt (pv 2) (pa_cons (pe_call (ok_draw T) (hr.mono (by decide)) (by rfl) T.g_draw T.F_draw.kp T.b_draw .nil pass0 (pa_cons (pv 0) (pa_cons (pe_callB (call_lenK (K := K) rfl) (by rfl) T.z_len PySem.boot_len (pa_cons (pv 2) pa_nil)) pa_nil))) pa_nil)) pa_nil))))) (pss_one (ps_ret (pv 3))))), ?_⟩
    refine ⟨_, rfl, ?_⟩
    apply rep_listL h_some
    intro ys1 hr2
    intro L9 nl10
    have nm11 := nm_new hW nl10
    have mu12 := mo_newL (ds := x_some.map (fun y_ : (Int × Int) => (D.tup [(D.v (V.int y_.1)), (D.v (V.int y_.2))]))) (vs := ys1) hW nl10 hr2
    replace h_some := rep_cell (o := .lst ys1) nl10 h_some
    replace hW := wd_cell (o := .lst ys1) hW nl10
    generalize upd H_0 L9 (.lst ys1) = H13 at *
    replace mu12 : MutO (L9 :: ms) [(ap, none)] H_0 H13 L9 (D.lst (x_some.map (fun y_ : (Int × Int) => (D.tup [(D.v (V.int y_.1)), (D.v (V.int y_.2))])))) := mu12
    refine ⟨(by show 0 ≤ sizeLine; decide), ?_⟩
    intro L14 nl15
    have nm16 := nm_new hW nl15
    have mu17 := mo_newL (ds := ([] : List (Int × Int)).map (fun y_ : (Int × Int) => (D.tup [(D.v (V.int y_.1)), (D.v (V.int y_.2))]))) (vs := []) hW nl15 repL_nil
    have ne18 := mo_ne nl15 mu12
    replace mu12 := mo_cell (o := .lst []) nl15 mu12
    replace h_some := rep_cell (o := .lst []) nl15 h_some
    replace hW := wd_cell (o := .lst []) hW nl15
    generalize upd H13 L14 (.lst []) = H19 at *
    replace mu17 : MutO (L14 :: (L9 :: ms)) [(ap, none)] H_0 H19 L14 (D.lst (([] : List (Int × Int)).map (fun y_ : (Int × Int) => (D.tup [(D.v (V.int y_.1)), (D.v (V.int y_.2))])))) := mu17
    refine ⟨_, _, rfl, ?_⟩
    refine ⟨_, rfl, ?_⟩
    apply rep_lenL (e := (fun y_ : (Int × Int) => (D.tup [(D.v (V.int y_.1)), (D.v (V.int y_.2))]))) (xs := x_some) h_some
    refine ⟨_, rfl, ?_⟩
    refine for_rangeG (S := (List (Int × Int)) × (List (Int × Int))) (lo := (0 : Int)) (hi := (x_some.length : Int)) (N := Int.toNat (x_some.length : Int)) (fun (s : (List (Int × Int)) × (List (Int × Int))) σ_ h_ => ∃ (w_0 : Option V), σ_ = [some (V.ref ap), some v_some, some (V.ref L9), some (V.ref L14), w_0] ∧ Wd (L14 :: (L9 :: ms)) [(ap, none)] [] H_0 h_ ∧ Keep (L14 :: (L9 :: ms)) H19 h_ ∧ MutO (L14 :: (L9 :: ms)) [(ap, none)] H_0 h_ L9 (D.lst (s.1.map (fun y_ : (Int × Int) => (D.tup [(D.v (V.int y_.1)), (D.v (V.int y_.2))])))) ∧ MutO (L14 :: (L9 :: ms)) [(ap, none)] H_0 h_ L14 (D.lst (s.2.map (fun y_ : (Int × Int) => (D.tup [(D.v (V.int y_.1)), (D.v (V.int y_.2))]))))) (x_some, ([] : List (Int × Int))) (by simp) hM ⟨_, rfl, hW, Keep.refl, mu12, mu17⟩ ?_ ?_
    · skip
      clear mu12
      clear mu17
      rintro x20 s22 k23 _ H31 ⟨w28, rfl, hW, hk24, mu29, mu30⟩ hM Nx26 hN27
      replace h_some := rep_keep hk24 h_some
      refine ⟨_, rfl, ?_⟩
      refine ⟨mo_tyL mu30, ?_⟩
      refine ⟨_, rfl, ?_⟩
      refine ⟨mo_tyL mu29, ?_⟩
      refine ⟨_, rfl, ?_⟩
      refine ⟨_, rfl, ?_⟩
      apply mo_len (e := (fun y_ : (Int × Int) => (D.tup [(D.v (V.int y_.1)), (D.v (V.int y_.2))]))) (xs := s22.1) mu29
      refine ⟨(L14 :: (L9 :: ms)), ap, (s22.1.length : Int), _, rfl, hW.enterP, hM, fun r32 u35 H36 hM e34 h33 => ?_⟩
      replace h_some := rep_ret hW e34 h_some
      replace hk24 := keep_ret hW e34 hk24
      replace mu29 := mo_ret hW e34 mu29
      replace mu30 := mo_ret hW e34 mu30
      replace hW := hW.retP e34
      obtain rfl := of_v h33
      obtain ⟨g37, hM⟩ := hM
      obtain ⟨y42, hy43, hM⟩ := hM
      apply mo_popU (e := (fun y_ : (Int × Int) => (D.tup [(D.v (V.int y_.1)), (D.v (V.int y_.2))]))) (xs := s22.1) (y := y42) mu29 g37.1 hy43 g37.2
      intro vs38 u44 hr40 h45
      have mk46 := mo_setL mu29 (repL_erase (e := (fun y_ : (Int × Int) => (D.tup [(D.v (V.int y_.1)), (D.v (V.int y_.2))]))) (Int.toNat r32) hr40)
      replace mu30 := mo_put (o := .lst (vs38.eraseIdx (Int.toNat r32))) mu29.im (Ne.symm ne18) mu30
      replace h_some := rep_put (o := .lst (vs38.eraseIdx (Int.toNat r32))) mu29.im h_some
      replace hk24 := keep_put (o := .lst (vs38.eraseIdx (Int.toNat r32))) mu29.im hk24
      replace h45 := rep_put (o := .lst (vs38.eraseIdx (Int.toNat r32))) mu29.im h45
      replace hW := wd_put (o := .lst (vs38.eraseIdx (Int.toNat r32))) hW mu29
      replace mu29 := mk46
      generalize upd H36 L9 (.lst (vs38.eraseIdx (Int.toNat r32))) = H47 at *
      replace mu29 : MutO (L14 :: (L9 :: ms)) [(ap, none)] H_0 H47 L9 (D.lst ((s22.1.eraseIdx (Int.toNat r32)).map (fun y_ : (Int × Int) => (D.tup [(D.v (V.int y_.1)), (D.v (V.int y_.2))])))) := mu29
      clear mk46
      obtain ⟨g48, hM⟩ := hM
      apply mo_appU mu30 (by rw [List.length_map]; exact g48)
      intro vs49 hr51
      have mk53 := mo_setL mu30 (repL_snoc (e := (fun y_ : (Int × Int) => (D.tup [(D.v (V.int y_.1)), (D.v (V.int y_.2))]))) (xs := s22.2) (y := y42) hr51 h45)
      replace mu29 := mo_put (o := .lst (vs49 ++ [u44])) mu30.im ne18 mu29
      replace h_some := rep_put (o := .lst (vs49 ++ [u44])) mu30.im h_some
      replace hk24 := keep_put (o := .lst (vs49 ++ [u44])) mu30.im hk24
      replace h45 := rep_put (o := .lst (vs49 ++ [u44])) mu30.im h45
      replace hW := wd_put (o := .lst (vs49 ++ [u44])) hW mu30
      replace mu30 := mk53
      generalize upd H47 L14 (.lst (vs49 ++ [u44])) = H54 at *
      replace mu30 : MutO (L14 :: (L9 :: ms)) [(ap, none)] H_0 H54 L14 (D.lst ((s22.2 ++ [y42]).map (fun y_ : (Int × Int) => (D.tup [(D.v (V.int y_.1)), (D.v (V.int y_.2))])))) := mu30
      clear mk53
      exact hN27 ((s22.1.eraseIdx (Int.toNat r32)), (s22.2 ++ [y42])) _ _ hM ⟨_, rfl, hW, hk24, mu29, mu30⟩
    · skip
      clear mu12
      clear mu17
      rintro s55 _ H60 hM ⟨w57, rfl, hW, hk56, mu58, mu59⟩
      replace h_some := rep_keep hk56 h_some
      have h61 := mo_rep_dr (dr_cons dr_here) (nm_cons ne18 nm11) mu58
      replace hW := wd_dr (dr_cons dr_here) mu58.hp hW
      replace h_some := rep_dr (dr_cons dr_here) h_some
      replace mu59 := mo_dr (dr_cons dr_here) (Ne.symm ne18) mu59
      replace nm16 := nm_dr dr_here nm16
      clear mu58
      have h62 := mo_rep_dr dr_here nm16 mu59
      replace hW := wd_dr dr_here mu59.hp hW
      replace h_some := rep_dr dr_here h_some
      replace h61 := rep_dr dr_here h61
      clear mu59
      refine ⟨_, rfl, ?_⟩
      exact hQ s55.2 _ _ hM hW.out h62
def M_day (x_many_here : Int) (KM : (List (Int × Int)) → Prop) : Prop :=
  (RgOk (0 : Int) x_many_here ∧ (M_mixed_pli (rangeI (0 : Int) x_many_here) fun r8 => ((rangeI (0 : Int) (x_many_here / (2 : Int))).length < 100000 ∧ mapC (fun (x24 : Int) (k17 : (Int × Int) → Prop) => (0 ≤ ((2 : Int) * x24) ∧ ∃ g31 : Int.toNat ((2 : Int) * x24) < r8.length, ∀ x33, x33 = r8[Int.toNat ((2 : Int) * x24)]'g31 → (0 ≤ (((2 : Int) * x24) + (1 : Int)) ∧ ∃ g36 : Int.toNat (((2 : Int) * x24) + (1 : Int)) < r8.length, ∀ x38, x38 = r8[Int.toNat (((2 : Int) * x24) + (1 : Int))]'g36 → (k17 (x33, x38))))) (rangeI (0 : Int) (x_many_here / (2 : Int))) [] fun ys51 => (KM ys51))))
def sp_day (A : Ad) : Sp := fun vs H Q _ => ∃ (ms : List Addr) (ap : Addr) (x_many_here : Int) (KM : (List (Int × Int)) → Prop), vs = [.ref ap, V.int x_many_here] ∧ Wd ms [(ap, none)] [] H H ∧ M_day x_many_here KM ∧ ∀ (r : (List (Int × Int))) (u : V) (H1 : Hp), KM r → Ret [(ap, none)] H H1 → rep ms H1 (D.lst (r.map (fun y_ : (Int × Int) => (D.tup [(D.v (V.int y_.1)), (D.v (V.int y_.2))])))) u → Q u H1
set_option maxHeartbeats 16000000 in
theorem ok_day {P : Program} {w : World} {K : PySem.W.Frag} {mg : Str → Option Value} {base : Heap} {A : Ad} (T : Txt w K mg A) : FnOk P w K mg base CX0 3 A.a_day A.d_day ["_law_pot_here", "_law_many_here"] (sp_day A) := by
  refine T.F_day.ok sc_day (fun vs H Q E h => ?_) (fun cdv A_ outer s_ H_0 vs Q E hr h => ?_)
  · obtain ⟨ms, ap, x_many_here, KM, rfl, _⟩ := h
    rfl
  · obtain ⟨ms, ap, x_many_here, KM, rfl, hW, hM, hQ⟩ := h
    unfold M_day at hM
    refine ⟨_, (pss_cons (ps_set (i := 2) sc_day.nd rfl (by first | exact Or.inl rfl | exact Or.inr rfl) (pe_call (ok_mixed_pli T) (hr.mono (by decide)) (by rfl) T.g_mixed T.F_mixed.kp T.b_mixed .nil pass0 (pa_cons (pv 0) (pa_cons (pe_listRg rfl (by rfl) T.z_list (prg_1 (by rfl) T.z_range (pv 1))) pa_nil)))) (pss_one (ps_ret (pe_lc (own := [("_law_k", 3)]) (g := gName 3) rfl sc_day.nd (pi_rangeW1 (by rfl) T.z_range (pa_cons (pe_op op_fdivW (pv 1) pe_int) pa_nil)) (blkOk_by (N := ["_law_pot_here", "_law_many_here", "_law_lot", "_law_k"]) (sc := defScope s_day) (by decide +kernel)) (fun _ _ _ _ _ => pg_name (i := 3) sc_day.nd rfl (by first | exact Or.inl rfl | exact Or.inr rfl)) (fun _ _ _ _ _ => pts_nil) (fun _ _ _ _ _ => (pe_tup (pa_cons (pe_ix (ix_listK (K := K) rfl) (pv 2) (pe_op op_mul pe_int (pv 3)) (fun _ _ => rfl)) (pa_cons (pe_ix (ix_listK (K := K) rfl) (pv 2) (pe_op op_add (pe_op op_mul pe_int (pv 3)) pe_int) (fun _ _ => rfl)) pa_nil)))))))), ?_⟩
    refine ⟨_, rfl, ?_⟩
    refine ⟨_, rfl, ?_⟩
    obtain ⟨g1, hM⟩ := hM
    refine ⟨_, rfl, g1, ?_⟩
    intro p2 n6
    have e3 := Rx.Ext.new (H := H_0) (o := (HO.lst (rgV (0 : Int) x_many_here))) n6
    have hp4 : upd H_0 p2 (HO.lst (rgV (0 : Int) x_many_here)) p2 = some (HO.lst (rgV (0 : Int) x_many_here)) := upd_same
    generalize upd H_0 p2 (HO.lst (rgV (0 : Int) x_many_here)) = H7 at e3 hp4 ⊢
    have h5 : rep ms H7 (D.lst ((rangeI (0 : Int) x_many_here).map (fun y_ : Int => (D.v (V.int y_))))) (.ref p2) := rep_rg_mk hW n6 e3 hp4
    replace hW := hW.ret0 e3
    refine ⟨ms, ap, _, (rangeI (0 : Int) x_many_here), _, rfl, hW.enterP, h5, hM, fun r8 u11 H12 hM e10 h9 => ?_⟩
    replace h5 := rep_ret hW e10 h5
    replace hW := hW.retP e10
    refine ⟨_, rfl, ?_⟩
    refine ⟨_, _, rfl, rfl, ⟨by decide, by decide⟩, ?_⟩
    refine ⟨_, rfl, ?_⟩
    refine fun L13 nl14 => ?_
    have nm28 := nm_new hW nl14
    refine lc_rangeG (L := L13) (fun n_ ys_ h_ => Wd (L13 :: ms) [(ap, none)] [] H_0 h_ ∧ Keep (L13 :: ms) H12 h_ ∧ MutO (L13 :: ms) [(ap, none)] H_0 h_ L13 (D.lst (ys_.map (fun y_ : (Int × Int) => (D.tup [(D.v (V.int y_.1)), (D.v (V.int y_.2))])))) ∧ ys_.length ≤ n_) (lo := (0 : Int)) (hi := (x_many_here / (2 : Int))) (N := Int.toNat (x_many_here / (2 : Int))) (by simp) hM ⟨wd_cell hW nl14, keep_cell nl14 Keep.refl, mo_newL (ds := []) hW nl14 repL_nil, Nat.le_refl _⟩ ?_ ?_
    · skip
      rintro x24  n15 ys16 k17 H29 hn ⟨hW, hk18, mu19, ln20⟩ hM Nx23 hN21
      replace h5 := rep_keep hk18 (rep_new nl14 h5)
      replace h9 := rep_keep hk18 (rep_new nl14 h9)
      refine ⟨rfl, ?_⟩
      refine tyes_of ?_
      refine ⟨_, rfl, ?_⟩
      refine ⟨_, rfl, ?_⟩
      refine ⟨_, _, rfl, rfl, .inl ⟨by decide, by decide⟩, ?_⟩
      obtain ⟨g30, g31, hM⟩ := hM
      apply rep_ixL (e := (fun y_ : Int => (D.v (V.int y_)))) (xs := r8) h9 g30 g31
      intro u34 h32
      obtain ⟨x33, x33e⟩ : ∃ x_, x_ = r8[Int.toNat ((2 : Int) * x24)]'g31 := ⟨_, rfl⟩
      rw [← x33e] at h32
      replace hM := hM x33 x33e
      obtain rfl := of_v h32
      refine ⟨_, rfl, ?_⟩
      refine ⟨_, rfl, ?_⟩
      refine ⟨_, _, rfl, rfl, .inl ⟨by decide, by decide⟩, ?_⟩
      refine ⟨_, _, rfl, rfl, ?_⟩
      obtain ⟨g35, g36, hM⟩ := hM
      apply rep_ixL (e := (fun y_ : Int => (D.v (V.int y_)))) (xs := r8) h9 g35 g36
      intro u39 h37
      obtain ⟨x38, x38e⟩ : ∃ x_, x_ = r8[Int.toNat (((2 : Int) * x24) + (1 : Int))]'g36 := ⟨_, rfl⟩
      rw [← x38e] at h37
      replace hM := hM x38 x38e
      obtain rfl := of_v h37
      refine ⟨(by show 2 ≤ sizeLine; decide), ?_⟩
      intro p40 n44
      have e41 := Rx.Ext.new (H := H29) (o := (HO.tup [V.int x33, V.int x38])) n44
      have hp42 : upd H29 p40 (HO.tup [V.int x33, V.int x38]) p40 = some (HO.tup [V.int x33, V.int x38]) := upd_same
      generalize upd H29 p40 (HO.tup [V.int x33, V.int x38]) = H45 at e41 hp42 ⊢
      have h43 : rep (L13 :: ms) H45 (D.tup [(D.v (V.int x33)), (D.v (V.int x38))]) (.ref p40) := rep_tup_mk hW n44 e41 hp42 (repL_cons rep_v (repL_cons rep_v repL_nil))
      replace h5 := rep_ext e41 h5
      replace h9 := rep_ext e41 h9
      replace hk18 := keep_ext e41 hk18
      replace mu19 := mo_ext e41 mu19
      replace hW := hW.ret0 e41
      refine mo_end mu19 hn (by rw [List.length_map]; exact ln20) fun vs46 hr47 => ?_
      have mk49 := mo_setL mu19 (repL_snoc (e := (fun y_ : (Int × Int) => (D.tup [(D.v (V.int y_.1)), (D.v (V.int y_.2))]))) (xs := ys16) (y := (x33, x38)) hr47 h43)
      replace h5 := rep_put (o := .lst (vs46 ++ [(V.ref p40)])) mu19.im h5
      replace h9 := rep_put (o := .lst (vs46 ++ [(V.ref p40)])) mu19.im h9
      replace hk18 := keep_put (o := .lst (vs46 ++ [(V.ref p40)])) mu19.im hk18
      replace h43 := rep_put (o := .lst (vs46 ++ [(V.ref p40)])) mu19.im h43
      replace hW := wd_put (o := .lst (vs46 ++ [(V.ref p40)])) hW mu19
      replace mu19 := mk49
      generalize upd H45 L13 (.lst (vs46 ++ [(V.ref p40)])) = H50 at *
      replace mu19 : MutO (L13 :: ms) [(ap, none)] H_0 H50 L13 (D.lst ((ys16 ++ [(x33, x38)]).map (fun y_ : (Int × Int) => (D.tup [(D.v (V.int y_.1)), (D.v (V.int y_.2))])))) := mu19
      clear mk49
      exact hN21 (x33, x38) _ hM ⟨hW, hk18, mu19, by rw [List.length_append]; exact Nat.add_le_add_right ln20 1⟩
    · skip
      rintro n15 ys51 H52 hM ⟨hW, hk18, mu19, ln20⟩
      replace h5 := rep_keep hk18 (rep_new nl14 h5)
      replace h9 := rep_keep hk18 (rep_new nl14 h9)
      clear hk18 ln20
      have h53 := mo_rep_dr dr_here nm28 mu19
      replace hW := wd_dr dr_here mu19.hp hW
      replace h5 := rep_dr dr_here h5
      replace h9 := rep_dr dr_here h9
      clear mu19
      exact hQ ys51 _ _ hM hW.out h53
def M_pairs_days (x_many_here : Int) (KM : (List (List (Int × Int))) → Prop) : Prop :=
  (M_circle x_many_here fun r1 => (M_mixed r1 fun r6 => (RgOk (0 : Int) x_many_here ∧ (M_mixed_pli (rangeI (0 : Int) x_many_here) fun r18 => (r6.length < 100000 ∧ mapC (fun (x39 : (List (Int × Int))) (k32 : (List (Int × Int)) → Prop) => (M_mixed_pltii x39 fun r45 => (r45.length < 100000 ∧ mapC (fun (x66 : (Int × Int)) (k59 : (Int × Int) → Prop) => (0 ≤ x66.1 ∧ ∃ g86 : Int.toNat x66.1 < r18.length, ∀ x88, x88 = r18[Int.toNat x66.1]'g86 → (0 ≤ x66.2 ∧ ∃ g91 : Int.toNat x66.2 < r18.length, ∀ x93, x93 = r18[Int.toNat x66.2]'g91 → (k59 (x88, x93))))) r45 [] fun ys106 => (k32 ys106)))) r6 [] fun ys115 => (M_draw (6 : Int) fun r117 => (M_draw (ys115.length : Int) fun r122 => (if (decide (V.int r117 = V.int (1 : Int))) = true then ((cutM ys115 none (some r122)).length + (cutM ys115 (some (r122 + (1 : Int))) none).length ≤ sizeLine ∧ (KM ((cutM ys115 none (some r122)) ++ (cutM ys115 (some (r122 + (1 : Int))) none)))) else (if (decide (V.int r117 = V.int (2 : Int))) = true then (∃ y149, atI ys115 r122 = some y149 ∧ (y149.length < 100000 ∧ mapC (fun (x169 : (Int × Int)) (k162 : (Int × Int) → Prop) => (k162 (x169.2, x169.1))) y149 [] fun ys198 => (ys115.length + ([ys198] : List (List (Int × Int))).length ≤ sizeLine ∧ (KM (ys115 ++ ([ys198] : List (List (Int × Int)))))))) else (if (decide (V.int r117 = V.int (3 : Int))) = true then (∃ y214, atI ys115 (r122 - (1 : Int)) = some y214 ∧ (y214.length < 100000 ∧ mapC (fun (x234 : (Int × Int)) (k227 : (Int × Int) → Prop) => (k227 (x234.2, x234.1))) y214 [] fun ys263 => (0 ≤ r122 ∧ Int.toNat r122 < ys115.length ∧ (KM (ys115.set (Int.toNat r122) ys263))))) else (if (decide (V.int r117 = V.int (4 : Int))) = true then (∃ y274, atI ys115 r122 = some y274 ∧ (0 ≤ (0 : Int) ∧ ∃ g279 : Int.toNat (0 : Int) < y274.length, ∀ x281, x281 = y274[Int.toNat (0 : Int)]'g279 → (∃ y283, atI ys115 r122 = some y283 ∧ (0 ≤ (1 : Int) ∧ ∃ g288 : Int.toNat (1 : Int) < y283.length, ∀ x290, x290 = y283[Int.toNat (1 : Int)]'g288 → (∃ y346, atI ys115 r122 = some y346 ∧ (([(x281.1, x290.2), (x290.1, x281.2)] : List (Int × Int)).length + (cutM y346 (some (2 : Int)) none).length ≤ sizeLine ∧ (0 ≤ r122 ∧ Int.toNat r122 < ys115.length ∧ (KM (ys115.set (Int.toNat r122) (([(x281.1, x290.2), (x290.1, x281.2)] : List (Int × Int)) ++ (cutM y346 (some (2 : Int)) none))))))))))) else (if (decide (V.int r117 = V.int (5 : Int))) = true then (M_draw (4 : Int) fun r370 => ((rangeI (0 : Int) r370).length < 100000 ∧ mapC (fun (x386 : Int) (k379 : (List (Int × Int)) → Prop) => (M_day x_many_here fun r394 => (k379 r394))) (rangeI (0 : Int) r370) [] fun ys404 => (ys115.length + ys404.length ≤ sizeLine ∧ (KM (ys115 ++ ys404))))) else (KM ys115)))))))))))))
def sp_pairs_days (A : Ad) : Sp := fun vs H Q _ => ∃ (ms : List Addr) (ap : Addr) (x_many_here : Int) (KM : (List (List (Int × Int))) → Prop), vs = [.ref ap, V.int x_many_here] ∧ Wd ms [(ap, none)] [] H H ∧ M_pairs_days x_many_here KM ∧ ∀ (r : (List (List (Int × Int)))) (u : V) (H1 : Hp), KM r → Ret [(ap, none)] H H1 → rep ms H1 (D.lst (r.map (fun y_ : (List (Int × Int)) => (D.lst (y_.map (fun y_ : (Int × Int) => (D.tup [(D.v (V.int y_.1)), (D.v (V.int y_.2))]))))))) u → Q u H1
set_option maxHeartbeats 16000000 in
theorem ok_pairs_days {P : Program} {w : World} {K : PySem.W.Frag} {mg : Str → Option Value} {base : Heap} {A : Ad} (T : Txt w K mg A) : FnOk P w K mg base CX0 4 A.a_pairs_days A.d_pairs_days ["_law_pot_here", "_law_many_here"] (sp_pairs_days A) := by
  refine T.F_pairs_days.ok sc_pairs_days (fun vs H Q E h => ?_) (fun cdv A_ outer s_ H_0 vs Q E hr h => ?_)
  · obtain ⟨ms, ap, x_many_here, KM, rfl, _⟩ := h
    rfl
  · obtain ⟨ms, ap, x_many_here, KM, rfl, hW, hM, hQ⟩ := h
    unfold M_pairs_days at hM
    refine ⟨_, (pss_cons (ps_set (i := 2) sc_pairs_days.nd rfl (by first | exact Or.inl rfl | exact Or.inr rfl) (pe_call (ok_mixed T) (hr.mono (by decide)) (by rfl) T.g_mixed T.F_mixed.kp T.b_mixed .nil pass0 (pa_cons (pv 0) (pa_cons (pe_call (ok_circle T) (hr.mono (by decide)) (by rfl) T.g_circle T.F_circle.kp T.b_circle .nil pass0 (pa_cons (pv 1) pa_nil)) pa_nil)))) (pss_cons (ps_set (i := 3) sc_pairs_days.nd rfl (by first | exact Or.inl rfl | exact Or.inr rfl) (pe_call (ok_mixed_pli T) (hr.mono (by decide)) (by rfl) T.g_mixed T.F_mixed.kp T.b_mixed .nil pass0 (pa_cons (pv 0) (pa_cons (pe_listRg rfl (by rfl) T.z_list (prg_1 (by rfl) T.z_range (pv 1))) pa_nil)))) (pss_cons (ps_setLc (i := 2) (own := [("_law_meets", 10)]) (g := gName 10) rfl sc_pairs_days.nd rfl rfl (sw_true rfl rfl rfl (by decide +kernel)) (pi_list (pv 2)) (blkOk_by (N := ["_law_pot_here", "_law_many_here", "_law_days_here", "_law_lot", "_law_way", "_law_at", "_law_home", "_law_away", "_law_lead", "_law_mate", "_law_meets", "_law_turn"]) (sc := defScope s_pairs_days) (by decide +kernel)) (fun _ _ _ _ _ => pg_name (i := 10) sc_pairs_days.nd rfl (by first | exact Or.inl rfl | exact Or.inr rfl)) (fun _ _ _ _ _ => pts_nil) (fun _ _ _ _ _ => (pe_lc (own := [("_law_home", 6), ("_law_away", 7)]) (g := (gTup K 2 (gCons (gName 6) (gCons (gName 7) gNil)))) rfl sc_pairs_days.nd (pi_listK (K := K) rfl (pe_call (ok_mixed_pltii T) (hr.mono (by decide)) (by rfl) T.g_mixed T.F_mixed.kp T.b_mixed .nil pass0 (pa_cons (pv 0) (pa_cons (pv 10) pa_nil)))) (blkOk_rel (N := ["_law_pot_here", "_law_many_here", "_law_days_here", "_law_lot", "_law_way", "_law_at", "_law_home", "_law_away", "_law_lead", "_law_mate", "_law_meets", "_law_turn"]) rfl (by kernel_rfl)) (fun _ _ _ _ _ => (pg_tup rfl (pgs_cons (pg_name (i := 6) sc_pairs_days.nd rfl (by first | exact Or.inl rfl | exact Or.inr rfl)) (pgs_cons (pg_name (i := 7) sc_pairs_days.nd rfl (by first | exact Or.inl rfl | exact Or.inr rfl)) pgs_nil)))) (fun _ _ _ _ _ => pts_nil) (fun _ _ _ _ _ => (pe_tup (pa_cons (pe_ix (ix_listK (K := K) rfl) (pv 3) (pv 6) (fun _ _ => rfl)) (pa_cons (pe_ix (ix_listK (K := K) rfl) (pv 3) (pv 7) (fun _ _ => rfl)) pa_nil))))))) (pss_cons (ps_par (i := 4) (j := 5) (by rfl) sc_pairs_days.nd rfl rfl (by decide) rfl rfl (pa_cons (pe_call (ok_draw T) (hr.mono (by decide)) (by rfl) T.g_draw T.F_draw.kp T.b_draw .nil pass0 (pa_cons (pv 0) (pa_cons pe_int pa_nil))) (pa_cons (pe_call (ok_draw T) (hr.mono (by decide)) (by rfl) T.g_draw T.F_draw.kp T.b_draw .nil pass0 (pa_cons (pv 0) (pa_cons (pe_callB (call_lenK (K := K) rfl) (by rfl) T.z_len PySem.boot_len (pa_cons (pv 2) pa_nil)) pa_nil))) pa_nil)) (by rfl)) (pss_cons (ps_if (pt_cmpR op_eq (pv 4) pe_int (nomark _)) (pss_one (ps_set (i := 2) sc_pairs_days.nd rfl (by first | exact Or.inl rfl | exact Or.inr rfl) (pe_op op_cat (pe_slice (sl_listK (K := K) rfl) (pv 2) po_none (po_some (pv 5))) (pe_slice (sl_listK (K := K) rfl) (pv 2) (po_some (pe_op op_add (pv 5) pe_int)) po_none)))) (pss_one (ps_if (pt_cmpR op_eq (pv 4) pe_int (nomark _)) (pss_one (ps_set (i := 2) sc_pairs_days.nd rfl (by first | exact Or.inl rfl | exact Or.inr rfl) (pe_op op_cat (pv 2) (pe_lst (pa_cons (pe_lc (own := [("_law_home", 6), ("_law_away", 7)]) (g := (gTup K 2 (gCons (gName 6) (gCons (gName 7) gNil)))) rfl sc_pairs_days.nd (pi_list (pe_ix (ix_listK (K := K) rfl) (pv 2) (pv 5) (fun _ _ => rfl))) (blkOk_by (N := ["_law_pot_here", "_law_many_here", "_law_days_here", "_law_lot", "_law_way", "_law_at", "_law_home", "_law_away", "_law_lead", "_law_mate", "_law_meets", "_law_turn"]) (sc := defScope s_pairs_days) (by decide +kernel)) (fun _ _ _ _ _ => (pg_tup rfl (pgs_cons (pg_name (i := 6) sc_pairs_days.nd rfl (by first | exact Or.inl rfl | exact Or.inr rfl)) (pgs_cons (pg_name (i := 7) sc_pairs_days.nd rfl (by first | exact Or.inl rfl | exact Or.inr rfl)) pgs_nil)))) (fun _ _ _ _ _ => pts_nil) (fun _ _ _ _ _ => (pe_tup (pa_cons (pv 7) (pa_cons (pv 6) pa_nil))))) pa_nil))))) (pss_one (ps_if (pt_cmpR op_eq (pv 4) pe_int (nomark _)) (pss_one (ps_asg (pe_lc (own := [("_law_home", 6), ("_law_away", 7)]) (g := (gTup K 2 (gCons (gName 6) (gCons (gName 7) gNil)))) rfl sc_pairs_days.nd (pi_list (pe_ix (ix_listK (K := K) rfl) (pv 2) (pe_op op_sub (pv 5) pe_int) (fun _ _ => rfl))) (blkOk_by (N := ["_law_pot_here", "_law_many_here", "_law_days_here", "_law_lot", "_law_way", "_law_at", "_law_home", "_law_away", "_law_lead", "_law_mate", "_law_meets", "_law_turn"]) (sc := defScope s_pairs_days) (by decide +kernel)) (fun _ _ _ _ _ => (pg_tup rfl (pgs_cons (pg_name (i := 6) sc_pairs_days.nd rfl (by first | exact Or.inl rfl | exact Or.inr rfl)) (pgs_cons (pg_name (i := 7) sc_pairs_days.nd rfl (by first | exact Or.inl rfl | exact Or.inr rfl)) pgs_nil)))) (fun _ _ _ _ _ => pts_nil) (fun _ _ _ _ _ => (pe_tup (pa_cons (pv 7) (pa_cons (pv 6) pa_nil))))) (pg_sub (pv 2) (pv 5) set_list))) (pss_one (ps_if (pt_cmpR op_eq (pv 4) pe_int (nomark _)) (pss_cons (ps_asg (pe_tup (pa_cons (pe_ix (ix_listK (K := K) rfl) (pe_ix (ix_listK (K := K) rfl) (pv 2) (pv 5) (fun _ _ => rfl)) pe_int (fun _ _ => rfl)) (pa_cons (pe_ix (ix_listK (K := K) rfl) (pe_ix (ix_listK (K := K) rfl) (pv 2) (pv 5) (fun _ _ => rfl)) pe_int (fun _ _ => rfl)) pa_nil))) (pg_tup rfl (pgs_cons (pg_tup rfl (pgs_cons (pg_name (i := 6) sc_pairs_days.nd rfl (by first | exact Or.inl rfl | exact Or.inr rfl)) (pgs_cons (pg_name (i := 7) sc_pairs_days.nd rfl (by first | exact Or.inl rfl | exact Or.inr rfl)) pgs_nil))) (pgs_cons (pg_tup rfl (pgs_cons (pg_name (i := 8) sc_pairs_days.nd rfl (by first | exact Or.inl rfl | exact Or.inr rfl)) (pgs_cons (pg_name (i := 9) sc_pairs_days.nd rfl (by first | exact Or.inl rfl | exact Or.inr rfl)) pgs_nil))) pgs_nil)))) (pss_one (ps_asg (pe_op op_cat (pe_lst (pa_cons (pe_tup (pa_cons (pv 6) (pa_cons (pv 9) pa_nil))) (pa_cons (pe_tup (pa_cons (pv 8) (pa_cons (pv 7) pa_nil))) pa_nil))) (pe_slice (sl_listK (K := K) rfl) (pe_ix (ix_listK (K := K) rfl) (pv 2) (pv 5) (fun _ _ => rfl)) (po_some pe_int) po_none)) (pg_sub (pv 2) (pv 5) set_list)))) (pss_one (ps_if (pt_cmpR op_eq (pv 4) pe_int (nomark _)) (pss_one (ps_set (i := 2) sc_pairs_days.nd rfl (by first | exact Or.inl rfl | exact Or.inr rfl) (pe_op op_cat (pv 2) (pe_lc (own := [("_law_turn", 11)]) (g := gName 11) rfl sc_pairs_days.nd (pi_rangeW1 (by rfl) T.z_range (pa_cons (pe_call (ok_draw T) (hr.mono (by decide)) (by rfl) T.g_draw T.F_draw.kp T.b_draw .nil pass0 (pa_cons (pv 0) (pa_cons pe_int pa_nil))) pa_nil)) (blkOk_by (N := ["_law_pot_here", "_law_many_here", "_law_days_here", "_law_lot", "_law_way", "_law_at", "_law_home", "_law_away", "_law_lead", "_law_mate", "_law_meets", "_law_turn"]) (sc := defScope s_pairs_days) (by decide +kernel)) (fun _ _ _ _ _ => pg_name (i := 11) sc_pairs_days.nd rfl (by first | exact Or.inl rfl | exact Or.inr rfl)) (fun _ _ _ _ _ => pts_nil) (fun _ _ _ _ _ => (pe_call (ok_day T) (hr.mono (by decide)) (by rfl) T.g_day T.F_day.kp T.b_day .nil pass0 (pa_cons (pv 0) (pa_cons (pv 1) pa_nil)))))))) pss_nil))))))))) (pss_one (ps_ret (pv 2)))))))), ?_⟩
    refine ⟨_, rfl, ?_⟩
    refine ⟨_, rfl, ?_⟩
    refine ⟨ms, x_many_here, _, rfl, hW.enter0, hM, fun r1 u4 H5 hM e3 h2 => ?_⟩
    replace hW := hW.ret0 e3
    refine ⟨ms, ap, _, r1, _, rfl, hW.enterP, h2, hM, fun r6 u9 H10 hM e8 h7 => ?_⟩
    replace h2 := rep_ret hW e8 h2
    replace hW := hW.retP e8
    refine ⟨_, rfl, ?_⟩
    refine ⟨_, rfl, ?_⟩
    obtain ⟨g11, hM⟩ := hM
    refine ⟨_, rfl, g11, ?_⟩
    intro p12 n16
    have e13 := Rx.Ext.new (H := H10) (o := (HO.lst (rgV (0 : Int) x_many_here))) n16
    have hp14 : upd H10 p12 (HO.lst (rgV (0 : Int) x_many_here)) p12 = some (HO.lst (rgV (0 : Int) x_many_here)) := upd_same
    generalize upd H10 p12 (HO.lst (rgV (0 : Int) x_many_here)) = H17 at e13 hp14 ⊢
    have h15 : rep ms H17 (D.lst ((rangeI (0 : Int) x_many_here).map (fun y_ : Int => (D.v (V.int y_))))) (.ref p12) := rep_rg_mk hW n16 e13 hp14
    replace h2 := rep_ext e13 h2
    replace h7 := rep_ext e13 h7
    replace hW := hW.ret0 e13
    refine ⟨ms, ap, _, (rangeI (0 : Int) x_many_here), _, rfl, hW.enterP, h15, hM, fun r18 u21 H22 hM e20 h19 => ?_⟩
    replace h2 := rep_ret hW e20 h2
    replace h7 := rep_ret hW e20 h7
    replace h15 := rep_ret hW e20 h15
    replace hW := hW.retP e20
    refine ⟨_, rfl, ?_⟩
    apply rep_iter h7
    intro a23 xs24 _ an25 hp26 hl27
    refine fun L28 nl29 => ?_
    have nm43 := nm_new hW nl29
    refine lc_listG (L := L28) (fun n_ ys_ h_ => Wd (L28 :: ms) [(ap, none)] [] H_0 h_ ∧ Keep (L28 :: ms) H22 h_ ∧ MutO (L28 :: ms) [(ap, none)] H_0 h_ L28 (D.lst (ys_.map (fun y_ : (List (Int × Int)) => (D.lst (y_.map (fun y_ : (Int × Int) => (D.tup [(D.v (V.int y_.1)), (D.v (V.int y_.2))]))))))) ∧ ys_.length ≤ n_) (items := r6) (e := (fun y_ : (List (Int × Int)) => (D.lst (y_.map (fun y_ : (Int × Int) => (D.tup [(D.v (V.int y_.1)), (D.v (V.int y_.2))])))))) an25 hp26 hl27 nl29 (fun _ _ _ q_ => q_.2.1) hM ⟨wd_cell hW nl29, keep_cell nl29 Keep.refl, mo_newL (ds := []) hW nl29 repL_nil, Nat.le_refl _⟩ ?_ ?_
    · skip
      rintro x39 u40 n30 ys31 k32 H44 hn ⟨hW, hk33, mu34, ln35⟩ h41 hM Nx38 hN36
      replace h2 := rep_keep hk33 (rep_new nl29 h2)
      replace h7 := rep_keep hk33 (rep_new nl29 h7)
      replace h15 := rep_keep hk33 (rep_new nl29 h15)
      replace h19 := rep_keep hk33 (rep_new nl29 h19)
      refine ⟨rfl, ?_⟩
      refine tyes_of ?_
      refine ⟨_, rfl, ?_⟩
      refine ⟨_, rfl, ?_⟩
      refine ⟨(L28 :: ms), ap, _, x39, _, rfl, hW.enterP, h41, hM, fun r45 u48 H49 hM e47 h46 => ?_⟩
      replace h2 := rep_ret hW e47 h2
      replace h7 := rep_ret hW e47 h7
      replace h15 := rep_ret hW e47 h15
      replace h19 := rep_ret hW e47 h19
      replace hk33 := keep_ret hW e47 hk33
      replace h41 := rep_ret hW e47 h41
      replace mu34 := mo_ret hW e47 mu34
      replace hW := hW.retP e47
      apply rep_iter h46
      intro a50 xs51 _ an52 hp53 hl54
      refine fun L55 nl56 => ?_
      have nm70 := nm_new hW nl56
      have kn71 := keep_none (w := hW) nl56 hk33
      have ne72 := mo_ne nl56 mu34
      refine lc_listG (L := L55) (fun n_ ys_ h_ => Wd (L55 :: (L28 :: ms)) [(ap, none)] [] H_0 h_ ∧ Keep (L55 :: (L28 :: ms)) H49 h_ ∧ MutO (L55 :: (L28 :: ms)) [(ap, none)] H_0 h_ L55 (D.lst (ys_.map (fun y_ : (Int × Int) => (D.tup [(D.v (V.int y_.1)), (D.v (V.int y_.2))])))) ∧ ys_.length ≤ n_ ∧ MutO (L55 :: (L28 :: ms)) [(ap, none)] H_0 h_ L28 (D.lst (ys31.map (fun y_ : (List (Int × Int)) => (D.lst (y_.map (fun y_ : (Int × Int) => (D.tup [(D.v (V.int y_.1)), (D.v (V.int y_.2))])))))))) (items := r45) (e := (fun y_ : (Int × Int) => (D.tup [(D.v (V.int y_.1)), (D.v (V.int y_.2))]))) an52 hp53 hl54 nl56 (fun _ _ _ q_ => q_.2.1) hM ⟨wd_cell hW nl56, keep_cell nl56 Keep.refl, mo_newL (ds := []) hW nl56 repL_nil, Nat.le_refl _, mo_cell nl56 mu34⟩ ?_ ?_
      · skip
        clear mu34
        rintro x66 u67 n57 ys58 k59 H73 hn ⟨hW, hk60, mu61, ln62, mu74⟩ h68 hM Nx65 hN63
        replace h2 := rep_keep hk60 (rep_new nl56 h2)
        replace h7 := rep_keep hk60 (rep_new nl56 h7)
        replace h15 := rep_keep hk60 (rep_new nl56 h15)
        replace h19 := rep_keep hk60 (rep_new nl56 h19)
        replace hk33 := Keep.trans (Keep.new hk33) hk60
        replace h41 := rep_keep hk60 (rep_new nl56 h41)
        replace h46 := rep_keep hk60 (rep_new nl56 h46)
        apply rep_gtup h68 rfl
        intro vs75 hv76
        obtain ⟨u77, us78, rfl, h79, hv80⟩ := repL_uncons hv76
        obtain rfl := of_v h79
        obtain ⟨u81, us82, rfl, h83, hv84⟩ := repL_uncons hv80
        obtain rfl := of_v h83
        obtain rfl := repL_empty hv84
        refine ⟨_, _, rfl, ?_⟩
        refine ⟨_, _, rfl, ?_⟩
        refine ⟨rfl, ?_⟩
        refine ⟨rfl, ?_⟩
        refine tyes_of ?_
        refine ⟨_, rfl, ?_⟩
        refine ⟨_, rfl, ?_⟩
        obtain ⟨g85, g86, hM⟩ := hM
        apply rep_ixL (e := (fun y_ : Int => (D.v (V.int y_)))) (xs := r18) h19 g85 g86
        intro u89 h87
        obtain ⟨x88, x88e⟩ : ∃ x_, x_ = r18[Int.toNat x66.1]'g86 := ⟨_, rfl⟩
        rw [← x88e] at h87
        replace hM := hM x88 x88e
        obtain rfl := of_v h87
        refine ⟨_, rfl, ?_⟩
        refine ⟨_, rfl, ?_⟩
        obtain ⟨g90, g91, hM⟩ := hM
        apply rep_ixL (e := (fun y_ : Int => (D.v (V.int y_)))) (xs := r18) h19 g90 g91
        intro u94 h92
        obtain ⟨x93, x93e⟩ : ∃ x_, x_ = r18[Int.toNat x66.2]'g91 := ⟨_, rfl⟩
        rw [← x93e] at h92
        replace hM := hM x93 x93e
        obtain rfl := of_v h92
        refine ⟨(by show 2 ≤ sizeLine; decide), ?_⟩
        intro p95 n99
        have e96 := Rx.Ext.new (H := H73) (o := (HO.tup [V.int x88, V.int x93])) n99
        have hp97 : upd H73 p95 (HO.tup [V.int x88, V.int x93]) p95 = some (HO.tup [V.int x88, V.int x93]) := upd_same
        generalize upd H73 p95 (HO.tup [V.int x88, V.int x93]) = H100 at e96 hp97 ⊢
        have h98 : rep (L55 :: (L28 :: ms)) H100 (D.tup [(D.v (V.int x88)), (D.v (V.int x93))]) (.ref p95) := rep_tup_mk hW n99 e96 hp97 (repL_cons rep_v (repL_cons rep_v repL_nil))
        replace h2 := rep_ext e96 h2
        replace h7 := rep_ext e96 h7
        replace h15 := rep_ext e96 h15
        replace h19 := rep_ext e96 h19
        replace hk33 := keep_ext e96 hk33
        replace h41 := rep_ext e96 h41
        replace h46 := rep_ext e96 h46
        replace hk60 := keep_ext e96 hk60
        replace h68 := rep_ext e96 h68
        replace mu74 := mo_ext e96 mu74
        replace mu61 := mo_ext e96 mu61
        replace hW := hW.ret0 e96
        refine mo_end mu61 hn (by rw [List.length_map]; exact ln62) fun vs101 hr102 => ?_
        have mk104 := mo_setL mu61 (repL_snoc (e := (fun y_ : (Int × Int) => (D.tup [(D.v (V.int y_.1)), (D.v (V.int y_.2))]))) (xs := ys58) (y := (x88, x93)) hr102 h98)
        replace mu74 := mo_put (o := .lst (vs101 ++ [(V.ref p95)])) mu61.im ne72 mu74
        replace h2 := rep_put (o := .lst (vs101 ++ [(V.ref p95)])) mu61.im h2
        replace h7 := rep_put (o := .lst (vs101 ++ [(V.ref p95)])) mu61.im h7
        replace h15 := rep_put (o := .lst (vs101 ++ [(V.ref p95)])) mu61.im h15
        replace h19 := rep_put (o := .lst (vs101 ++ [(V.ref p95)])) mu61.im h19
        replace hk33 := keep_put (o := .lst (vs101 ++ [(V.ref p95)])) mu61.im hk33
        replace h41 := rep_put (o := .lst (vs101 ++ [(V.ref p95)])) mu61.im h41
        replace h46 := rep_put (o := .lst (vs101 ++ [(V.ref p95)])) mu61.im h46
        replace hk60 := keep_put (o := .lst (vs101 ++ [(V.ref p95)])) mu61.im hk60
        replace h68 := rep_put (o := .lst (vs101 ++ [(V.ref p95)])) mu61.im h68
        replace h98 := rep_put (o := .lst (vs101 ++ [(V.ref p95)])) mu61.im h98
        replace hW := wd_put (o := .lst (vs101 ++ [(V.ref p95)])) hW mu61
        replace mu61 := mk104
        generalize upd H100 L55 (.lst (vs101 ++ [(V.ref p95)])) = H105 at *
        replace mu61 : MutO (L55 :: (L28 :: ms)) [(ap, none)] H_0 H105 L55 (D.lst ((ys58 ++ [(x88, x93)]).map (fun y_ : (Int × Int) => (D.tup [(D.v (V.int y_.1)), (D.v (V.int y_.2))])))) := mu61
        clear mk104
        exact hN63 (x88, x93) _ hM ⟨hW, hk60, mu61, by rw [List.length_append]; exact Nat.add_le_add_right ln62 1, mu74⟩
      · skip
        clear mu34
        rintro n57 ys106 H107 hM ⟨hW, hk60, mu61, ln62, mu108⟩
        replace h2 := rep_keep hk60 (rep_new nl56 h2)
        replace h7 := rep_keep hk60 (rep_new nl56 h7)
        replace h15 := rep_keep hk60 (rep_new nl56 h15)
        replace h19 := rep_keep hk60 (rep_new nl56 h19)
        replace hk33 := Keep.trans (Keep.new hk33) hk60
        replace h41 := rep_keep hk60 (rep_new nl56 h41)
        replace h46 := rep_keep hk60 (rep_new nl56 h46)
        clear hk60 ln62
        have h109 := mo_rep_dr dr_here nm70 mu61
        replace hW := wd_dr dr_here mu61.hp hW
        replace h2 := rep_dr dr_here h2
        replace h7 := rep_dr dr_here h7
        replace h15 := rep_dr dr_here h15
        replace h19 := rep_dr dr_here h19
        replace hk33 := keep_dr dr_here kn71 hk33
        replace h41 := rep_dr dr_here h41
        replace h46 := rep_dr dr_here h46
        replace mu108 := mo_dr dr_here ne72 mu108
        clear mu61
        refine mo_end mu108 hn (by rw [List.length_map]; exact ln35) fun vs110 hr111 => ?_
        have mk113 := mo_setL mu108 (repL_snoc (e := (fun y_ : (List (Int × Int)) => (D.lst (y_.map (fun y_ : (Int × Int) => (D.tup [(D.v (V.int y_.1)), (D.v (V.int y_.2))])))))) (xs := ys31) (y := ys106) hr111 h109)
        replace h2 := rep_put (o := .lst (vs110 ++ [(V.ref L55)])) mu108.im h2
        replace h7 := rep_put (o := .lst (vs110 ++ [(V.ref L55)])) mu108.im h7
        replace h15 := rep_put (o := .lst (vs110 ++ [(V.ref L55)])) mu108.im h15
        replace h19 := rep_put (o := .lst (vs110 ++ [(V.ref L55)])) mu108.im h19
        replace hk33 := keep_put (o := .lst (vs110 ++ [(V.ref L55)])) mu108.im hk33
        replace h41 := rep_put (o := .lst (vs110 ++ [(V.ref L55)])) mu108.im h41
        replace h46 := rep_put (o := .lst (vs110 ++ [(V.ref L55)])) mu108.im h46
        replace h109 := rep_put (o := .lst (vs110 ++ [(V.ref L55)])) mu108.im h109
        replace hW := wd_put (o := .lst (vs110 ++ [(V.ref L55)])) hW mu108
        replace mu108 := mk113
        generalize upd H107 L28 (.lst (vs110 ++ [(V.ref L55)])) = H114 at *
        replace mu108 : MutO (L28 :: ms) [(ap, none)] H_0 H114 L28 (D.lst ((ys31 ++ [ys106]).map (fun y_ : (List (Int × Int)) => (D.lst (y_.map (fun y_ : (Int × Int) => (D.tup [(D.v (V.int y_.1)), (D.v (V.int y_.2))]))))))) := mu108
        clear mk113
        exact hN36 ys106 _ hM ⟨hW, hk33, mu108, by rw [List.length_append]; exact Nat.add_le_add_right ln35 1⟩
    · skip
      rintro n30 ys115 H116 hM ⟨hW, hk33, mu34, ln35⟩
      replace h2 := rep_keep hk33 (rep_new nl29 h2)
      replace h7 := rep_keep hk33 (rep_new nl29 h7)
      replace h15 := rep_keep hk33 (rep_new nl29 h15)
      replace h19 := rep_keep hk33 (rep_new nl29 h19)
      clear hk33 ln35
      refine ⟨_, rfl, ?_⟩
      refine ⟨(L28 :: ms), ap, (6 : Int), _, rfl, hW.enterP, hM, fun r117 u120 H121 hM e119 h118 => ?_⟩
      replace h2 := rep_ret hW e119 h2
      replace h7 := rep_ret hW e119 h7
      replace h15 := rep_ret hW e119 h15
      replace h19 := rep_ret hW e119 h19
      replace mu34 := mo_ret hW e119 mu34
      replace hW := hW.retP e119
      obtain rfl := of_v h118
      refine ⟨_, rfl, ?_⟩
      refine ⟨_, rfl, ?_⟩
      apply mo_len (e := (fun y_ : (List (Int × Int)) => (D.lst (y_.map (fun y_ : (Int × Int) => (D.tup [(D.v (V.int y_.1)), (D.v (V.int y_.2))])))))) (xs := ys115) mu34
      refine ⟨(L28 :: ms), ap, (ys115.length : Int), _, rfl, hW.enterP, hM, fun r122 u125 H126 hM e124 h123 => ?_⟩
      replace h2 := rep_ret hW e124 h2
      replace h7 := rep_ret hW e124 h7
      replace h15 := rep_ret hW e124 h15
      replace h19 := rep_ret hW e124 h19
      replace mu34 := mo_ret hW e124 mu34
      replace hW := hW.retP e124
      obtain rfl := of_v h123
      refine ⟨_, _, rfl, ?_⟩
      refine ⟨_, rfl, ?_⟩
      refine ⟨rfl, ?_⟩
      refine ⟨_, rfl, ?_⟩
      refine ite3 hM (fun hM => ?_) (fun hM => ?_)
      · skip
        refine ⟨_, rfl, ?_⟩
        have h127 := mo_rep_dr dr_here nm43 mu34
        replace hW := wd_dr dr_here mu34.hp hW
        replace h2 := rep_dr dr_here h2
        replace h7 := rep_dr dr_here h7
        replace h15 := rep_dr dr_here h15
        replace h19 := rep_dr dr_here h19
        clear mu34
        refine ⟨_, rfl, ?_⟩
        refine ⟨_, rfl, ?_⟩
        apply rep_lsU h127
        intro vs128 hr129
        intro p130 n134
        have e131 := Rx.Ext.new (H := H126) (o := (HO.lst (cutV vs128 none (some r122)))) n134
        have hp132 : upd H126 p130 (HO.lst (cutV vs128 none (some r122))) p130 = some (HO.lst (cutV vs128 none (some r122))) := upd_same
        generalize upd H126 p130 (HO.lst (cutV vs128 none (some r122))) = H135 at e131 hp132 ⊢
        have h133 : rep ms H135 (D.lst ((cutM ys115 none (some r122)).map (fun y_ : (List (Int × Int)) => (D.lst (y_.map (fun y_ : (Int × Int) => (D.tup [(D.v (V.int y_.1)), (D.v (V.int y_.2))]))))))) (.ref p130) := rep_lst_mk hW n134 e131 hp132 (repL_cut (e := (fun y_ : (List (Int × Int)) => (D.lst (y_.map (fun y_ : (Int × Int) => (D.tup [(D.v (V.int y_.1)), (D.v (V.int y_.2))])))))) (xs := ys115) hr129)
        replace h2 := rep_ext e131 h2
        replace h7 := rep_ext e131 h7
        replace h15 := rep_ext e131 h15
        replace h19 := rep_ext e131 h19
        replace h127 := rep_ext e131 h127
        replace hW := hW.ret0 e131
        refine ⟨_, rfl, ?_⟩
        refine ⟨_, rfl, ?_⟩
        refine ⟨_, _, rfl, rfl, ?_⟩
        refine ⟨_, rfl, ?_⟩
        apply rep_lsU h127
        intro vs136 hr137
        intro p138 n142
        have e139 := Rx.Ext.new (H := H135) (o := (HO.lst (cutV vs136 (some (r122 + (1 : Int))) none))) n142
        have hp140 : upd H135 p138 (HO.lst (cutV vs136 (some (r122 + (1 : Int))) none)) p138 = some (HO.lst (cutV vs136 (some (r122 + (1 : Int))) none)) := upd_same
        generalize upd H135 p138 (HO.lst (cutV vs136 (some (r122 + (1 : Int))) none)) = H143 at e139 hp140 ⊢
        have h141 : rep ms H143 (D.lst ((cutM ys115 (some (r122 + (1 : Int))) none).map (fun y_ : (List (Int × Int)) => (D.lst (y_.map (fun y_ : (Int × Int) => (D.tup [(D.v (V.int y_.1)), (D.v (V.int y_.2))]))))))) (.ref p138) := rep_lst_mk hW n142 e139 hp140 (repL_cut (e := (fun y_ : (List (Int × Int)) => (D.lst (y_.map (fun y_ : (Int × Int) => (D.tup [(D.v (V.int y_.1)), (D.v (V.int y_.2))])))))) (xs := ys115) hr137)
        replace h2 := rep_ext e139 h2
        replace h7 := rep_ext e139 h7
        replace h15 := rep_ext e139 h15
        replace h19 := rep_ext e139 h19
        replace h127 := rep_ext e139 h127
        replace h133 := rep_ext e139 h133
        replace hW := hW.ret0 e139
        obtain ⟨g144, hM⟩ := hM
        apply rep_cat (xs := (cutM ys115 none (some r122))) (ys := (cutM ys115 (some (r122 + (1 : Int))) none)) (e := (fun y_ : (List (Int × Int)) => (D.lst (y_.map (fun y_ : (Int × Int) => (D.tup [(D.v (V.int y_.1)), (D.v (V.int y_.2))])))))) hW h133 h141 g144
        intro p145 H148 e147 h146
        replace h2 := rep_ext e147 h2
        replace h7 := rep_ext e147 h7
        replace h15 := rep_ext e147 h15
        replace h19 := rep_ext e147 h19
        replace h127 := rep_ext e147 h127
        replace h133 := rep_ext e147 h133
        replace h141 := rep_ext e147 h141
        replace hW := hW.ret0 e147
        refine ⟨_, rfl, ?_⟩
        exact hQ ((cutM ys115 none (some r122)) ++ (cutM ys115 (some (r122 + (1 : Int))) none)) _ _ hM hW.out h146
      · skip
        refine ⟨_, rfl, ?_⟩
        refine ⟨rfl, ?_⟩
        refine ⟨_, rfl, ?_⟩
        refine ite3 hM (fun hM => ?_) (fun hM => ?_)
        · skip
          refine ⟨_, rfl, ?_⟩
          refine ⟨_, rfl, ?_⟩
          refine ⟨_, rfl, ?_⟩
          obtain ⟨y149, h150, hM⟩ := hM
          apply mo_ixN (e := (fun y_ : (List (Int × Int)) => (D.lst (y_.map (fun y_ : (Int × Int) => (D.tup [(D.v (V.int y_.1)), (D.v (V.int y_.2))])))))) (xs := ys115) (y := y149) mu34 h150
          intro u152 h151
          apply rep_iter h151
          intro a153 xs154 _ an155 hp156 hl157
          refine fun L158 nl159 => ?_
          have nm173 := nm_new hW nl159
          have ne174 := mo_ne nl159 mu34
          refine lc_listG (L := L158) (fun n_ ys_ h_ => Wd (L158 :: (L28 :: ms)) [(ap, none)] [] H_0 h_ ∧ Keep (L158 :: (L28 :: ms)) H126 h_ ∧ MutO (L158 :: (L28 :: ms)) [(ap, none)] H_0 h_ L158 (D.lst (ys_.map (fun y_ : (Int × Int) => (D.tup [(D.v (V.int y_.1)), (D.v (V.int y_.2))])))) ∧ ys_.length ≤ n_ ∧ MutO (L158 :: (L28 :: ms)) [(ap, none)] H_0 h_ L28 (D.lst (ys115.map (fun y_ : (List (Int × Int)) => (D.lst (y_.map (fun y_ : (Int × Int) => (D.tup [(D.v (V.int y_.1)), (D.v (V.int y_.2))])))))))) (items := y149) (e := (fun y_ : (Int × Int) => (D.tup [(D.v (V.int y_.1)), (D.v (V.int y_.2))]))) an155 hp156 hl157 nl159 (fun _ _ _ q_ => q_.2.1) hM ⟨wd_cell hW nl159, keep_cell nl159 Keep.refl, mo_newL (ds := []) hW nl159 repL_nil, Nat.le_refl _, mo_cell nl159 mu34⟩ ?_ ?_
          · skip
            clear mu34
            rintro x169 u170 n160 ys161 k162 H175 hn ⟨hW, hk163, mu164, ln165, mu176⟩ h171 hM Nx168 hN166
            replace h2 := rep_keep hk163 (rep_new nl159 h2)
            replace h7 := rep_keep hk163 (rep_new nl159 h7)
            replace h15 := rep_keep hk163 (rep_new nl159 h15)
            replace h19 := rep_keep hk163 (rep_new nl159 h19)
            replace h151 := rep_keep hk163 (rep_new nl159 h151)
            apply rep_gtup h171 rfl
            intro vs177 hv178
            obtain ⟨u179, us180, rfl, h181, hv182⟩ := repL_uncons hv178
            obtain rfl := of_v h181
            obtain ⟨u183, us184, rfl, h185, hv186⟩ := repL_uncons hv182
            obtain rfl := of_v h185
            obtain rfl := repL_empty hv186
            refine ⟨_, _, rfl, ?_⟩
            refine ⟨_, _, rfl, ?_⟩
            refine ⟨rfl, ?_⟩
            refine ⟨rfl, ?_⟩
            refine tyes_of ?_
            refine ⟨_, rfl, ?_⟩
            refine ⟨_, rfl, ?_⟩
            refine ⟨(by show 2 ≤ sizeLine; decide), ?_⟩
            intro p187 n191
            have e188 := Rx.Ext.new (H := H175) (o := (HO.tup [V.int x169.2, V.int x169.1])) n191
            have hp189 : upd H175 p187 (HO.tup [V.int x169.2, V.int x169.1]) p187 = some (HO.tup [V.int x169.2, V.int x169.1]) := upd_same
            generalize upd H175 p187 (HO.tup [V.int x169.2, V.int x169.1]) = H192 at e188 hp189 ⊢
            have h190 : rep (L158 :: (L28 :: ms)) H192 (D.tup [(D.v (V.int x169.2)), (D.v (V.int x169.1))]) (.ref p187) := rep_tup_mk hW n191 e188 hp189 (repL_cons rep_v (repL_cons rep_v repL_nil))
            replace h2 := rep_ext e188 h2
            replace h7 := rep_ext e188 h7
            replace h15 := rep_ext e188 h15
            replace h19 := rep_ext e188 h19
            replace h151 := rep_ext e188 h151
            replace hk163 := keep_ext e188 hk163
            replace h171 := rep_ext e188 h171
            replace mu176 := mo_ext e188 mu176
            replace mu164 := mo_ext e188 mu164
            replace hW := hW.ret0 e188
            refine mo_end mu164 hn (by rw [List.length_map]; exact ln165) fun vs193 hr194 => ?_
            have mk196 := mo_setL mu164 (repL_snoc (e := (fun y_ : (Int × Int) => (D.tup [(D.v (V.int y_.1)), (D.v (V.int y_.2))]))) (xs := ys161) (y := (x169.2, x169.1)) hr194 h190)
            replace mu176 := mo_put (o := .lst (vs193 ++ [(V.ref p187)])) mu164.im ne174 mu176
            replace h2 := rep_put (o := .lst (vs193 ++ [(V.ref p187)])) mu164.im h2
            replace h7 := rep_put (o := .lst (vs193 ++ [(V.ref p187)])) mu164.im h7
            replace h15 := rep_put (o := .lst (vs193 ++ [(V.ref p187)])) mu164.im h15
            replace h19 := rep_put (o := .lst (vs193 ++ [(V.ref p187)])) mu164.im h19
            replace h151 := rep_put (o := .lst (vs193 ++ [(V.ref p187)])) mu164.im h151
            replace hk163 := keep_put (o := .lst (vs193 ++ [(V.ref p187)])) mu164.im hk163
            replace h171 := rep_put (o := .lst (vs193 ++ [(V.ref p187)])) mu164.im h171
            replace h190 := rep_put (o := .lst (vs193 ++ [(V.ref p187)])) mu164.im h190
            replace hW := wd_put (o := .lst (vs193 ++ [(V.ref p187)])) hW mu164
            replace mu164 := mk196
            generalize upd H192 L158 (.lst (vs193 ++ [(V.ref p187)])) = H197 at *
            replace mu164 : MutO (L158 :: (L28 :: ms)) [(ap, none)] H_0 H197 L158 (D.lst ((ys161 ++ [(x169.2, x169.1)]).map (fun y_ : (Int × Int) => (D.tup [(D.v (V.int y_.1)), (D.v (V.int y_.2))])))) := mu164
            clear mk196
            exact hN166 (x169.2, x169.1) _ hM ⟨hW, hk163, mu164, by rw [List.length_append]; exact Nat.add_le_add_right ln165 1, mu176⟩
          · skip
            clear mu34
            rintro n160 ys198 H199 hM ⟨hW, hk163, mu164, ln165, mu200⟩
            replace h2 := rep_keep hk163 (rep_new nl159 h2)
            replace h7 := rep_keep hk163 (rep_new nl159 h7)
            replace h15 := rep_keep hk163 (rep_new nl159 h15)
            replace h19 := rep_keep hk163 (rep_new nl159 h19)
            replace h151 := rep_keep hk163 (rep_new nl159 h151)
            clear hk163 ln165
            have h201 := mo_rep_dr dr_here nm173 mu164
            replace hW := wd_dr dr_here mu164.hp hW
            replace h2 := rep_dr dr_here h2
            replace h7 := rep_dr dr_here h7
            replace h15 := rep_dr dr_here h15
            replace h19 := rep_dr dr_here h19
            replace h151 := rep_dr dr_here h151
            replace mu200 := mo_dr dr_here ne174 mu200
            clear mu164
            refine ⟨(by show 1 ≤ sizeLine; decide), ?_⟩
            intro p202 n206
            have e203 := Rx.Ext.new (H := H199) (o := (HO.lst [(V.ref L158)])) n206
            have hp204 : upd H199 p202 (HO.lst [(V.ref L158)]) p202 = some (HO.lst [(V.ref L158)]) := upd_same
            generalize upd H199 p202 (HO.lst [(V.ref L158)]) = H207 at e203 hp204 ⊢
            have h205 : rep (L28 :: ms) H207 (D.lst (([ys198] : List (List (Int × Int))).map (fun y_ : (List (Int × Int)) => (D.lst (y_.map (fun y_ : (Int × Int) => (D.tup [(D.v (V.int y_.1)), (D.v (V.int y_.2))]))))))) (.ref p202) := rep_lst_mk hW n206 e203 hp204 (repL_cons h201 repL_nil)
            replace h2 := rep_ext e203 h2
            replace h7 := rep_ext e203 h7
            replace h15 := rep_ext e203 h15
            replace h19 := rep_ext e203 h19
            replace h151 := rep_ext e203 h151
            replace h201 := rep_ext e203 h201
            replace mu200 := mo_ext e203 mu200
            replace hW := hW.ret0 e203
            have h208 := mo_rep_dr dr_here nm43 mu200
            replace hW := wd_dr dr_here mu200.hp hW
            replace h2 := rep_dr dr_here h2
            replace h7 := rep_dr dr_here h7
            replace h15 := rep_dr dr_here h15
            replace h19 := rep_dr dr_here h19
            replace h151 := rep_dr dr_here h151
            replace h201 := rep_dr dr_here h201
            replace h205 := rep_dr dr_here h205
            clear mu200
            obtain ⟨g209, hM⟩ := hM
            apply rep_cat (xs := ys115) (ys := ([ys198] : List (List (Int × Int)))) (e := (fun y_ : (List (Int × Int)) => (D.lst (y_.map (fun y_ : (Int × Int) => (D.tup [(D.v (V.int y_.1)), (D.v (V.int y_.2))])))))) hW h208 h205 g209
            intro p210 H213 e212 h211
            replace h2 := rep_ext e212 h2
            replace h7 := rep_ext e212 h7
            replace h15 := rep_ext e212 h15
            replace h19 := rep_ext e212 h19
            replace h151 := rep_ext e212 h151
            replace h201 := rep_ext e212 h201
            replace h205 := rep_ext e212 h205
            replace h208 := rep_ext e212 h208
            replace hW := hW.ret0 e212
            refine ⟨_, rfl, ?_⟩
            exact hQ (ys115 ++ ([ys198] : List (List (Int × Int)))) _ _ hM hW.out h211
        · skip
          refine ⟨_, rfl, ?_⟩
          refine ⟨rfl, ?_⟩
          refine ⟨_, rfl, ?_⟩
          refine ite3 hM (fun hM => ?_) (fun hM => ?_)
          · skip
            refine ⟨_, rfl, ?_⟩
            refine ⟨_, rfl, ?_⟩
            refine ⟨_, _, rfl, rfl, ?_⟩
            obtain ⟨y214, h215, hM⟩ := hM
            apply mo_ixN (e := (fun y_ : (List (Int × Int)) => (D.lst (y_.map (fun y_ : (Int × Int) => (D.tup [(D.v (V.int y_.1)), (D.v (V.int y_.2))])))))) (xs := ys115) (y := y214) mu34 h215
            intro u217 h216
            apply rep_iter h216
            intro a218 xs219 _ an220 hp221 hl222
            refine fun L223 nl224 => ?_
            have nm238 := nm_new hW nl224
            have ne239 := mo_ne nl224 mu34
            refine lc_listG (L := L223) (fun n_ ys_ h_ => Wd (L223 :: (L28 :: ms)) [(ap, none)] [] H_0 h_ ∧ Keep (L223 :: (L28 :: ms)) H126 h_ ∧ MutO (L223 :: (L28 :: ms)) [(ap, none)] H_0 h_ L223 (D.lst (ys_.map (fun y_ : (Int × Int) => (D.tup [(D.v (V.int y_.1)), (D.v (V.int y_.2))])))) ∧ ys_.length ≤ n_ ∧ MutO (L223 :: (L28 :: ms)) [(ap, none)] H_0 h_ L28 (D.lst (ys115.map (fun y_ : (List (Int × Int)) => (D.lst (y_.map (fun y_ : (Int × Int) => (D.tup [(D.v (V.int y_.1)), (D.v (V.int y_.2))])))))))) (items := y214) (e := (fun y_ : (Int × Int) => (D.tup [(D.v (V.int y_.1)), (D.v (V.int y_.2))]))) an220 hp221 hl222 nl224 (fun _ _ _ q_ => q_.2.1) hM ⟨wd_cell hW nl224, keep_cell nl224 Keep.refl, mo_newL (ds := []) hW nl224 repL_nil, Nat.le_refl _, mo_cell nl224 mu34⟩ ?_ ?_
            · skip
              clear mu34
              rintro x234 u235 n225 ys226 k227 H240 hn ⟨hW, hk228, mu229, ln230, mu241⟩ h236 hM Nx233 hN231
              replace h2 := rep_keep hk228 (rep_new nl224 h2)
              replace h7 := rep_keep hk228 (rep_new nl224 h7)
              replace h15 := rep_keep hk228 (rep_new nl224 h15)
              replace h19 := rep_keep hk228 (rep_new nl224 h19)
              replace h216 := rep_keep hk228 (rep_new nl224 h216)
              apply rep_gtup h236 rfl
              intro vs242 hv243
              obtain ⟨u244, us245, rfl, h246, hv247⟩ := repL_uncons hv243
              obtain rfl := of_v h246
              obtain ⟨u248, us249, rfl, h250, hv251⟩ := repL_uncons hv247
              obtain rfl := of_v h250
              obtain rfl := repL_empty hv251
              refine ⟨_, _, rfl, ?_⟩
              refine ⟨_, _, rfl, ?_⟩
              refine ⟨rfl, ?_⟩
              refine ⟨rfl, ?_⟩
              refine tyes_of ?_
              refine ⟨_, rfl, ?_⟩
              refine ⟨_, rfl, ?_⟩
              refine ⟨(by show 2 ≤ sizeLine; decide), ?_⟩
              intro p252 n256
              have e253 := Rx.Ext.new (H := H240) (o := (HO.tup [V.int x234.2, V.int x234.1])) n256
              have hp254 : upd H240 p252 (HO.tup [V.int x234.2, V.int x234.1]) p252 = some (HO.tup [V.int x234.2, V.int x234.1]) := upd_same
              generalize upd H240 p252 (HO.tup [V.int x234.2, V.int x234.1]) = H257 at e253 hp254 ⊢
              have h255 : rep (L223 :: (L28 :: ms)) H257 (D.tup [(D.v (V.int x234.2)), (D.v (V.int x234.1))]) (.ref p252) := rep_tup_mk hW n256 e253 hp254 (repL_cons rep_v (repL_cons rep_v repL_nil))
              replace h2 := rep_ext e253 h2
              replace h7 := rep_ext e253 h7
              replace h15 := rep_ext e253 h15
              replace h19 := rep_ext e253 h19
              replace h216 := rep_ext e253 h216
              replace hk228 := keep_ext e253 hk228
              replace h236 := rep_ext e253 h236
              replace mu241 := mo_ext e253 mu241
              replace mu229 := mo_ext e253 mu229
              replace hW := hW.ret0 e253
              refine mo_end mu229 hn (by rw [List.length_map]; exact ln230) fun vs258 hr259 => ?_
              have mk261 := mo_setL mu229 (repL_snoc (e := (fun y_ : (Int × Int) => (D.tup [(D.v (V.int y_.1)), (D.v (V.int y_.2))]))) (xs := ys226) (y := (x234.2, x234.1)) hr259 h255)
              replace mu241 := mo_put (o := .lst (vs258 ++ [(V.ref p252)])) mu229.im ne239 mu241
              replace h2 := rep_put (o := .lst (vs258 ++ [(V.ref p252)])) mu229.im h2
              replace h7 := rep_put (o := .lst (vs258 ++ [(V.ref p252)])) mu229.im h7
              replace h15 := rep_put (o := .lst (vs258 ++ [(V.ref p252)])) mu229.im h15
              replace h19 := rep_put (o := .lst (vs258 ++ [(V.ref p252)])) mu229.im h19
              replace h216 := rep_put (o := .lst (vs258 ++ [(V.ref p252)])) mu229.im h216
              replace hk228 := keep_put (o := .lst (vs258 ++ [(V.ref p252)])) mu229.im hk228
              replace h236 := rep_put (o := .lst (vs258 ++ [(V.ref p252)])) mu229.im h236
              replace h255 := rep_put (o := .lst (vs258 ++ [(V.ref p252)])) mu229.im h255
              replace hW := wd_put (o := .lst (vs258 ++ [(V.ref p252)])) hW mu229
              replace mu229 := mk261
              generalize upd H257 L223 (.lst (vs258 ++ [(V.ref p252)])) = H262 at *
              replace mu229 : MutO (L223 :: (L28 :: ms)) [(ap, none)] H_0 H262 L223 (D.lst ((ys226 ++ [(x234.2, x234.1)]).map (fun y_ : (Int × Int) => (D.tup [(D.v (V.int y_.1)), (D.v (V.int y_.2))])))) := mu229
              clear mk261
              exact hN231 (x234.2, x234.1) _ hM ⟨hW, hk228, mu229, by rw [List.length_append]; exact Nat.add_le_add_right ln230 1, mu241⟩
            · skip
              clear mu34
              rintro n225 ys263 H264 hM ⟨hW, hk228, mu229, ln230, mu265⟩
              replace h2 := rep_keep hk228 (rep_new nl224 h2)
              replace h7 := rep_keep hk228 (rep_new nl224 h7)
              replace h15 := rep_keep hk228 (rep_new nl224 h15)
              replace h19 := rep_keep hk228 (rep_new nl224 h19)
              replace h216 := rep_keep hk228 (rep_new nl224 h216)
              clear hk228 ln230
              have h266 := mo_rep_dr dr_here nm238 mu229
              replace hW := wd_dr dr_here mu229.hp hW
              replace h2 := rep_dr dr_here h2
              replace h7 := rep_dr dr_here h7
              replace h15 := rep_dr dr_here h15
              replace h19 := rep_dr dr_here h19
              replace h216 := rep_dr dr_here h216
              replace mu265 := mo_dr dr_here ne239 mu265
              clear mu229
              refine ⟨_, rfl, ?_⟩
              refine ⟨_, rfl, ?_⟩
              obtain ⟨g267, g268, hM⟩ := hM
              apply mo_setU (e := (fun y_ : (List (Int × Int)) => (D.lst (y_.map (fun y_ : (Int × Int) => (D.tup [(D.v (V.int y_.1)), (D.v (V.int y_.2))])))))) (xs := ys115) mu265 g267 g268
              intro vs269 hr270
              have mk271 := mo_setL mu265 (repL_set (e := (fun y_ : (List (Int × Int)) => (D.lst (y_.map (fun y_ : (Int × Int) => (D.tup [(D.v (V.int y_.1)), (D.v (V.int y_.2))])))))) (y := ys263) (Int.toNat r122) hr270 h266)
              replace h2 := rep_put (o := .lst (vs269.set (Int.toNat r122) ((V.ref L223)))) mu265.im h2
              replace h7 := rep_put (o := .lst (vs269.set (Int.toNat r122) ((V.ref L223)))) mu265.im h7
              replace h15 := rep_put (o := .lst (vs269.set (Int.toNat r122) ((V.ref L223)))) mu265.im h15
              replace h19 := rep_put (o := .lst (vs269.set (Int.toNat r122) ((V.ref L223)))) mu265.im h19
              replace h216 := rep_put (o := .lst (vs269.set (Int.toNat r122) ((V.ref L223)))) mu265.im h216
              replace h266 := rep_put (o := .lst (vs269.set (Int.toNat r122) ((V.ref L223)))) mu265.im h266
              replace hW := wd_put (o := .lst (vs269.set (Int.toNat r122) ((V.ref L223)))) hW mu265
              replace mu265 := mk271
              generalize upd H264 L28 (.lst (vs269.set (Int.toNat r122) ((V.ref L223)))) = H272 at *
              replace mu265 : MutO (L28 :: ms) [(ap, none)] H_0 H272 L28 (D.lst ((ys115.set (Int.toNat r122) ys263).map (fun y_ : (List (Int × Int)) => (D.lst (y_.map (fun y_ : (Int × Int) => (D.tup [(D.v (V.int y_.1)), (D.v (V.int y_.2))]))))))) := mu265
              clear mk271
              have h273 := mo_rep_dr dr_here nm43 mu265
              replace hW := wd_dr dr_here mu265.hp hW
              replace h2 := rep_dr dr_here h2
              replace h7 := rep_dr dr_here h7
              replace h15 := rep_dr dr_here h15
              replace h19 := rep_dr dr_here h19
              replace h216 := rep_dr dr_here h216
              replace h266 := rep_dr dr_here h266
              clear mu265
              refine ⟨_, rfl, ?_⟩
              exact hQ (ys115.set (Int.toNat r122) ys263) _ _ hM hW.out h273
          · skip
            refine ⟨_, rfl, ?_⟩
            refine ⟨rfl, ?_⟩
            refine ⟨_, rfl, ?_⟩
            refine ite3 hM (fun hM => ?_) (fun hM => ?_)
            · skip
              refine ⟨_, rfl, ?_⟩
              refine ⟨_, rfl, ?_⟩
              obtain ⟨y274, h275, hM⟩ := hM
              apply mo_ixN (e := (fun y_ : (List (Int × Int)) => (D.lst (y_.map (fun y_ : (Int × Int) => (D.tup [(D.v (V.int y_.1)), (D.v (V.int y_.2))])))))) (xs := ys115) (y := y274) mu34 h275
              intro u277 h276
              obtain ⟨g278, g279, hM⟩ := hM
              apply rep_ixL (e := (fun y_ : (Int × Int) => (D.tup [(D.v (V.int y_.1)), (D.v (V.int y_.2))]))) (xs := y274) h276 g278 g279
              intro u282 h280
              obtain ⟨x281, x281e⟩ : ∃ x_, x_ = y274[Int.toNat (0 : Int)]'g279 := ⟨_, rfl⟩
              rw [← x281e] at h280
              replace hM := hM x281 x281e
              refine ⟨_, rfl, ?_⟩
              refine ⟨_, rfl, ?_⟩
              obtain ⟨y283, h284, hM⟩ := hM
              apply mo_ixN (e := (fun y_ : (List (Int × Int)) => (D.lst (y_.map (fun y_ : (Int × Int) => (D.tup [(D.v (V.int y_.1)), (D.v (V.int y_.2))])))))) (xs := ys115) (y := y283) mu34 h284
              intro u286 h285
              obtain ⟨g287, g288, hM⟩ := hM
              apply rep_ixL (e := (fun y_ : (Int × Int) => (D.tup [(D.v (V.int y_.1)), (D.v (V.int y_.2))]))) (xs := y283) h285 g287 g288
              intro u291 h289
              obtain ⟨x290, x290e⟩ : ∃ x_, x_ = y283[Int.toNat (1 : Int)]'g288 := ⟨_, rfl⟩
              rw [← x290e] at h289
              replace hM := hM x290 x290e
              refine ⟨(by show 2 ≤ sizeLine; decide), ?_⟩
              intro p292 n296
              have e293 := Rx.Ext.new (H := H126) (o := (HO.tup [u282, u291])) n296
              have hp294 : upd H126 p292 (HO.tup [u282, u291]) p292 = some (HO.tup [u282, u291]) := upd_same
              generalize upd H126 p292 (HO.tup [u282, u291]) = H297 at e293 hp294 ⊢
              have h295 : rep (L28 :: ms) H297 (D.tup [(D.tup [(D.v (V.int x281.1)), (D.v (V.int x281.2))]), (D.tup [(D.v (V.int x290.1)), (D.v (V.int x290.2))])]) (.ref p292) := rep_tup_mk hW n296 e293 hp294 (repL_cons h280 (repL_cons h289 repL_nil))
              replace h2 := rep_ext e293 h2
              replace h7 := rep_ext e293 h7
              replace h15 := rep_ext e293 h15
              replace h19 := rep_ext e293 h19
              replace h276 := rep_ext e293 h276
              replace h280 := rep_ext e293 h280
              replace h285 := rep_ext e293 h285
              replace h289 := rep_ext e293 h289
              replace mu34 := mo_ext e293 mu34
              replace hW := hW.ret0 e293
              apply rep_gtup h295 rfl
              intro vs298 hv299
              obtain ⟨u300, us301, rfl, h302, hv303⟩ := repL_uncons hv299
              obtain ⟨u304, us305, rfl, h306, hv307⟩ := repL_uncons hv303
              obtain rfl := repL_empty hv307
              refine ⟨_, _, rfl, ?_⟩
              apply rep_gtup h302 rfl
              intro vs308 hv309
              obtain ⟨u310, us311, rfl, h312, hv313⟩ := repL_uncons hv309
              obtain rfl := of_v h312
              obtain ⟨u314, us315, rfl, h316, hv317⟩ := repL_uncons hv313
              obtain rfl := of_v h316
              obtain rfl := repL_empty hv317
              refine ⟨_, _, rfl, ?_⟩
              refine ⟨_, _, rfl, ?_⟩
              refine ⟨rfl, ?_⟩
              refine ⟨_, _, rfl, ?_⟩
              apply rep_gtup h306 rfl
              intro vs318 hv319
              obtain ⟨u320, us321, rfl, h322, hv323⟩ := repL_uncons hv319
              obtain rfl := of_v h322
              obtain ⟨u324, us325, rfl, h326, hv327⟩ := repL_uncons hv323
              obtain rfl := of_v h326
              obtain rfl := repL_empty hv327
              refine ⟨_, _, rfl, ?_⟩
              refine ⟨_, _, rfl, ?_⟩
              refine ⟨rfl, ?_⟩
              refine ⟨rfl, ?_⟩
              refine ⟨_, rfl, ?_⟩
              refine ⟨_, rfl, ?_⟩
              refine ⟨(by show 2 ≤ sizeLine; decide), ?_⟩
              intro p328 n332
              have e329 := Rx.Ext.new (H := H297) (o := (HO.tup [V.int x281.1, V.int x290.2])) n332
              have hp330 : upd H297 p328 (HO.tup [V.int x281.1, V.int x290.2]) p328 = some (HO.tup [V.int x281.1, V.int x290.2]) := upd_same
              generalize upd H297 p328 (HO.tup [V.int x281.1, V.int x290.2]) = H333 at e329 hp330 ⊢
              have h331 : rep (L28 :: ms) H333 (D.tup [(D.v (V.int x281.1)), (D.v (V.int x290.2))]) (.ref p328) := rep_tup_mk hW n332 e329 hp330 (repL_cons rep_v (repL_cons rep_v repL_nil))
              replace h2 := rep_ext e329 h2
              replace h7 := rep_ext e329 h7
              replace h15 := rep_ext e329 h15
              replace h19 := rep_ext e329 h19
              replace h276 := rep_ext e329 h276
              replace h280 := rep_ext e329 h280
              replace h285 := rep_ext e329 h285
              replace h289 := rep_ext e329 h289
              replace h295 := rep_ext e329 h295
              replace h302 := rep_ext e329 h302
              replace h306 := rep_ext e329 h306
              replace mu34 := mo_ext e329 mu34
              replace hW := hW.ret0 e329
              refine ⟨_, rfl, ?_⟩
              refine ⟨_, rfl, ?_⟩
              refine ⟨(by show 2 ≤ sizeLine; decide), ?_⟩
              intro p334 n338
              have e335 := Rx.Ext.new (H := H333) (o := (HO.tup [V.int x290.1, V.int x281.2])) n338
              have hp336 : upd H333 p334 (HO.tup [V.int x290.1, V.int x281.2]) p334 = some (HO.tup [V.int x290.1, V.int x281.2]) := upd_same
              generalize upd H333 p334 (HO.tup [V.int x290.1, V.int x281.2]) = H339 at e335 hp336 ⊢
              have h337 : rep (L28 :: ms) H339 (D.tup [(D.v (V.int x290.1)), (D.v (V.int x281.2))]) (.ref p334) := rep_tup_mk hW n338 e335 hp336 (repL_cons rep_v (repL_cons rep_v repL_nil))
              replace h2 := rep_ext e335 h2
              replace h7 := rep_ext e335 h7
              replace h15 := rep_ext e335 h15
              replace h19 := rep_ext e335 h19
              replace h276 := rep_ext e335 h276
              replace h280 := rep_ext e335 h280
              replace h285 := rep_ext e335 h285
              replace h289 := rep_ext e335 h289
              replace h295 := rep_ext e335 h295
              replace h302 := rep_ext e335 h302
              replace h306 := rep_ext e335 h306
              replace h331 := rep_ext e335 h331
              replace mu34 := mo_ext e335 mu34
              replace hW := hW.ret0 e335
              refine ⟨(by show 2 ≤ sizeLine; decide), ?_⟩
              intro p340 n344
              have e341 := Rx.Ext.new (H := H339) (o := (HO.lst [(V.ref p328), (V.ref p334)])) n344
              have hp342 : upd H339 p340 (HO.lst [(V.ref p328), (V.ref p334)]) p340 = some (HO.lst [(V.ref p328), (V.ref p334)]) := upd_same
              generalize upd H339 p340 (HO.lst [(V.ref p328), (V.ref p334)]) = H345 at e341 hp342 ⊢
              have h343 : rep (L28 :: ms) H345 (D.lst (([(x281.1, x290.2), (x290.1, x281.2)] : List (Int × Int)).map (fun y_ : (Int × Int) => (D.tup [(D.v (V.int y_.1)), (D.v (V.int y_.2))])))) (.ref p340) := rep_lst_mk hW n344 e341 hp342 (repL_cons h331 (repL_cons h337 repL_nil))
              replace h2 := rep_ext e341 h2
              replace h7 := rep_ext e341 h7
              replace h15 := rep_ext e341 h15
              replace h19 := rep_ext e341 h19
              replace h276 := rep_ext e341 h276
              replace h280 := rep_ext e341 h280
              replace h285 := rep_ext e341 h285
              replace h289 := rep_ext e341 h289
              replace h295 := rep_ext e341 h295
              replace h302 := rep_ext e341 h302
              replace h306 := rep_ext e341 h306
              replace h331 := rep_ext e341 h331
              replace h337 := rep_ext e341 h337
              replace mu34 := mo_ext e341 mu34
              replace hW := hW.ret0 e341
              refine ⟨_, rfl, ?_⟩
              refine ⟨_, rfl, ?_⟩
              obtain ⟨y346, h347, hM⟩ := hM
              apply mo_ixN (e := (fun y_ : (List (Int × Int)) => (D.lst (y_.map (fun y_ : (Int × Int) => (D.tup [(D.v (V.int y_.1)), (D.v (V.int y_.2))])))))) (xs := ys115) (y := y346) mu34 h347
              intro u349 h348
              refine ⟨_, rfl, ?_⟩
              apply rep_lsU h348
              intro vs350 hr351
              intro p352 n356
              have e353 := Rx.Ext.new (H := H345) (o := (HO.lst (cutV vs350 (some (2 : Int)) none))) n356
              have hp354 : upd H345 p352 (HO.lst (cutV vs350 (some (2 : Int)) none)) p352 = some (HO.lst (cutV vs350 (some (2 : Int)) none)) := upd_same
              generalize upd H345 p352 (HO.lst (cutV vs350 (some (2 : Int)) none)) = H357 at e353 hp354 ⊢
              have h355 : rep (L28 :: ms) H357 (D.lst ((cutM y346 (some (2 : Int)) none).map (fun y_ : (Int × Int) => (D.tup [(D.v (V.int y_.1)), (D.v (V.int y_.2))])))) (.ref p352) := rep_lst_mk hW n356 e353 hp354 (repL_cut (e := (fun y_ : (Int × Int) => (D.tup [(D.v (V.int y_.1)), (D.v (V.int y_.2))]))) (xs := y346) hr351)
              replace h2 := rep_ext e353 h2
              replace h7 := rep_ext e353 h7
              replace h15 := rep_ext e353 h15
              replace h19 := rep_ext e353 h19
              replace h276 := rep_ext e353 h276
              replace h280 := rep_ext e353 h280
              replace h285 := rep_ext e353 h285
              replace h289 := rep_ext e353 h289
              replace h295 := rep_ext e353 h295
              replace h302 := rep_ext e353 h302
              replace h306 := rep_ext e353 h306
              replace h331 := rep_ext e353 h331
              replace h337 := rep_ext e353 h337
              replace h343 := rep_ext e353 h343
              replace h348 := rep_ext e353 h348
              replace mu34 := mo_ext e353 mu34
              replace hW := hW.ret0 e353
              obtain ⟨g358, hM⟩ := hM
              apply rep_cat (xs := ([(x281.1, x290.2), (x290.1, x281.2)] : List (Int × Int))) (ys := (cutM y346 (some (2 : Int)) none)) (e := (fun y_ : (Int × Int) => (D.tup [(D.v (V.int y_.1)), (D.v (V.int y_.2))]))) hW h343 h355 g358
              intro p359 H362 e361 h360
              replace h2 := rep_ext e361 h2
              replace h7 := rep_ext e361 h7
              replace h15 := rep_ext e361 h15
              replace h19 := rep_ext e361 h19
              replace h276 := rep_ext e361 h276
              replace h280 := rep_ext e361 h280
              replace h285 := rep_ext e361 h285
              replace h289 := rep_ext e361 h289
              replace h295 := rep_ext e361 h295
              replace h302 := rep_ext e361 h302
              replace h306 := rep_ext e361 h306
              replace h331 := rep_ext e361 h331
              replace h337 := rep_ext e361 h337
              replace h343 := rep_ext e361 h343
              replace h348 := rep_ext e361 h348
              replace h355 := rep_ext e361 h355
              replace mu34 := mo_ext e361 mu34
              replace hW := hW.ret0 e361
              refine ⟨_, rfl, ?_⟩
              refine ⟨_, rfl, ?_⟩
              obtain ⟨g363, g364, hM⟩ := hM
              apply mo_setU (e := (fun y_ : (List (Int × Int)) => (D.lst (y_.map (fun y_ : (Int × Int) => (D.tup [(D.v (V.int y_.1)), (D.v (V.int y_.2))])))))) (xs := ys115) mu34 g363 g364
              intro vs365 hr366
              have mk367 := mo_setL mu34 (repL_set (e := (fun y_ : (List (Int × Int)) => (D.lst (y_.map (fun y_ : (Int × Int) => (D.tup [(D.v (V.int y_.1)), (D.v (V.int y_.2))])))))) (y := (([(x281.1, x290.2), (x290.1, x281.2)] : List (Int × Int)) ++ (cutM y346 (some (2 : Int)) none))) (Int.toNat r122) hr366 h360)
              replace h2 := rep_put (o := .lst (vs365.set (Int.toNat r122) ((V.ref p359)))) mu34.im h2
              replace h7 := rep_put (o := .lst (vs365.set (Int.toNat r122) ((V.ref p359)))) mu34.im h7
              replace h15 := rep_put (o := .lst (vs365.set (Int.toNat r122) ((V.ref p359)))) mu34.im h15
              replace h19 := rep_put (o := .lst (vs365.set (Int.toNat r122) ((V.ref p359)))) mu34.im h19
              replace h276 := rep_put (o := .lst (vs365.set (Int.toNat r122) ((V.ref p359)))) mu34.im h276
              replace h280 := rep_put (o := .lst (vs365.set (Int.toNat r122) ((V.ref p359)))) mu34.im h280
              replace h285 := rep_put (o := .lst (vs365.set (Int.toNat r122) ((V.ref p359)))) mu34.im h285
              replace h289 := rep_put (o := .lst (vs365.set (Int.toNat r122) ((V.ref p359)))) mu34.im h289
              replace h295 := rep_put (o := .lst (vs365.set (Int.toNat r122) ((V.ref p359)))) mu34.im h295
              replace h302 := rep_put (o := .lst (vs365.set (Int.toNat r122) ((V.ref p359)))) mu34.im h302
              replace h306 := rep_put (o := .lst (vs365.set (Int.toNat r122) ((V.ref p359)))) mu34.im h306
              replace h331 := rep_put (o := .lst (vs365.set (Int.toNat r122) ((V.ref p359)))) mu34.im h331
              replace h337 := rep_put (o := .lst (vs365.set (Int.toNat r122) ((V.ref p359)))) mu34.im h337
              replace h343 := rep_put (o := .lst (vs365.set (Int.toNat r122) ((V.ref p359)))) mu34.im h343
              replace h348 := rep_put (o := .lst (vs365.set (Int.toNat r122) ((V.ref p359)))) mu34.im h348
              replace h355 := rep_put (o := .lst (vs365.set (Int.toNat r122) ((V.ref p359)))) mu34.im h355
              replace h360 := rep_put (o := .lst (vs365.set (Int.toNat r122) ((V.ref p359)))) mu34.im h360
              replace hW := wd_put (o := .lst (vs365.set (Int.toNat r122) ((V.ref p359)))) hW mu34
              replace mu34 := mk367
              generalize upd H362 L28 (.lst (vs365.set (Int.toNat r122) ((V.ref p359)))) = H368 at *
              replace mu34 : MutO (L28 :: ms) [(ap, none)] H_0 H368 L28 (D.lst ((ys115.set (Int.toNat r122) (([(x281.1, x290.2), (x290.1, x281.2)] : List (Int × Int)) ++ (cutM y346 (some (2 : Int)) none))).map (fun y_ : (List (Int × Int)) => (D.lst (y_.map (fun y_ : (Int × Int) => (D.tup [(D.v (V.int y_.1)), (D.v (V.int y_.2))]))))))) := mu34
              clear mk367
              have h369 := mo_rep_dr dr_here nm43 mu34
              replace hW := wd_dr dr_here mu34.hp hW
              replace h2 := rep_dr dr_here h2
              replace h7 := rep_dr dr_here h7
              replace h15 := rep_dr dr_here h15
              replace h19 := rep_dr dr_here h19
              replace h276 := rep_dr dr_here h276
              replace h280 := rep_dr dr_here h280
              replace h285 := rep_dr dr_here h285
              replace h289 := rep_dr dr_here h289
              replace h295 := rep_dr dr_here h295
              replace h302 := rep_dr dr_here h302
              replace h306 := rep_dr dr_here h306
              replace h331 := rep_dr dr_here h331
              replace h337 := rep_dr dr_here h337
              replace h343 := rep_dr dr_here h343
              replace h348 := rep_dr dr_here h348
              replace h355 := rep_dr dr_here h355
              replace h360 := rep_dr dr_here h360
              clear mu34
              refine ⟨_, rfl, ?_⟩
              exact hQ (ys115.set (Int.toNat r122) (([(x281.1, x290.2), (x290.1, x281.2)] : List (Int × Int)) ++ (cutM y346 (some (2 : Int)) none))) _ _ hM hW.out h369
            · skip
              refine ⟨_, rfl, ?_⟩
              refine ⟨rfl, ?_⟩
              refine ⟨_, rfl, ?_⟩
              refine ite3 hM (fun hM => ?_) (fun hM => ?_)
              · skip
                refine ⟨_, rfl, ?_⟩
                refine ⟨_, rfl, ?_⟩
                refine ⟨(L28 :: ms), ap, (4 : Int), _, rfl, hW.enterP, hM, fun r370 u373 H374 hM e372 h371 => ?_⟩
                replace h2 := rep_ret hW e372 h2
                replace h7 := rep_ret hW e372 h7
                replace h15 := rep_ret hW e372 h15
                replace h19 := rep_ret hW e372 h19
                replace mu34 := mo_ret hW e372 mu34
                replace hW := hW.retP e372
                obtain rfl := of_v h371
                refine ⟨_, rfl, ?_⟩
                refine fun L375 nl376 => ?_
                have nm390 := nm_new hW nl376
                have ne391 := mo_ne nl376 mu34
                refine lc_rangeG (L := L375) (fun n_ ys_ h_ => Wd (L375 :: (L28 :: ms)) [(ap, none)] [] H_0 h_ ∧ Keep (L375 :: (L28 :: ms)) H374 h_ ∧ MutO (L375 :: (L28 :: ms)) [(ap, none)] H_0 h_ L375 (D.lst (ys_.map (fun y_ : (List (Int × Int)) => (D.lst (y_.map (fun y_ : (Int × Int) => (D.tup [(D.v (V.int y_.1)), (D.v (V.int y_.2))]))))))) ∧ ys_.length ≤ n_ ∧ MutO (L375 :: (L28 :: ms)) [(ap, none)] H_0 h_ L28 (D.lst (ys115.map (fun y_ : (List (Int × Int)) => (D.lst (y_.map (fun y_ : (Int × Int) => (D.tup [(D.v (V.int y_.1)), (D.v (V.int y_.2))])))))))) (lo := (0 : Int)) (hi := r370) (N := Int.toNat r370) (by simp) hM ⟨wd_cell hW nl376, keep_cell nl376 Keep.refl, mo_newL (ds := []) hW nl376 repL_nil, Nat.le_refl _, mo_cell nl376 mu34⟩ ?_ ?_
                · skip
                  clear mu34
                  rintro x386  n377 ys378 k379 H392 hn ⟨hW, hk380, mu381, ln382, mu393⟩ hM Nx385 hN383
                  replace h2 := rep_keep hk380 (rep_new nl376 h2)
                  replace h7 := rep_keep hk380 (rep_new nl376 h7)
                  replace h15 := rep_keep hk380 (rep_new nl376 h15)
                  replace h19 := rep_keep hk380 (rep_new nl376 h19)
                  refine ⟨rfl, ?_⟩
                  refine tyes_of ?_
                  refine ⟨_, rfl, ?_⟩
                  refine ⟨_, rfl, ?_⟩
                  refine ⟨(L375 :: (L28 :: ms)), ap, x_many_here, _, rfl, hW.enterP, hM, fun r394 u397 H398 hM e396 h395 => ?_⟩
                  replace h2 := rep_ret hW e396 h2
                  replace h7 := rep_ret hW e396 h7
                  replace h15 := rep_ret hW e396 h15
                  replace h19 := rep_ret hW e396 h19
                  replace hk380 := keep_ret hW e396 hk380
                  replace mu393 := mo_ret hW e396 mu393
                  replace mu381 := mo_ret hW e396 mu381
                  replace hW := hW.retP e396
                  refine mo_end mu381 hn (by rw [List.length_map]; exact ln382) fun vs399 hr400 => ?_
                  have mk402 := mo_setL mu381 (repL_snoc (e := (fun y_ : (List (Int × Int)) => (D.lst (y_.map (fun y_ : (Int × Int) => (D.tup [(D.v (V.int y_.1)), (D.v (V.int y_.2))])))))) (xs := ys378) (y := r394) hr400 h395)
                  replace mu393 := mo_put (o := .lst (vs399 ++ [u397])) mu381.im ne391 mu393
                  replace h2 := rep_put (o := .lst (vs399 ++ [u397])) mu381.im h2
                  replace h7 := rep_put (o := .lst (vs399 ++ [u397])) mu381.im h7
                  replace h15 := rep_put (o := .lst (vs399 ++ [u397])) mu381.im h15
                  replace h19 := rep_put (o := .lst (vs399 ++ [u397])) mu381.im h19
                  replace hk380 := keep_put (o := .lst (vs399 ++ [u397])) mu381.im hk380
                  replace h395 := rep_put (o := .lst (vs399 ++ [u397])) mu381.im h395
                  replace hW := wd_put (o := .lst (vs399 ++ [u397])) hW mu381
                  replace mu381 := mk402
                  generalize upd H398 L375 (.lst (vs399 ++ [u397])) = H403 at *
                  replace mu381 : MutO (L375 :: (L28 :: ms)) [(ap, none)] H_0 H403 L375 (D.lst ((ys378 ++ [r394]).map (fun y_ : (List (Int × Int)) => (D.lst (y_.map (fun y_ : (Int × Int) => (D.tup [(D.v (V.int y_.1)), (D.v (V.int y_.2))]))))))) := mu381
                  clear mk402
                  exact hN383 r394 _ hM ⟨hW, hk380, mu381, by rw [List.length_append]; exact Nat.add_le_add_right ln382 1, mu393⟩
                · skip
                  clear mu34
                  rintro n377 ys404 H405 hM ⟨hW, hk380, mu381, ln382, mu406⟩
                  replace h2 := rep_keep hk380 (rep_new nl376 h2)
                  replace h7 := rep_keep hk380 (rep_new nl376 h7)
                  replace h15 := rep_keep hk380 (rep_new nl376 h15)
                  replace h19 := rep_keep hk380 (rep_new nl376 h19)
                  clear hk380 ln382
                  have h407 := mo_rep_dr dr_here nm390 mu381
                  replace hW := wd_dr dr_here mu381.hp hW
                  replace h2 := rep_dr dr_here h2
                  replace h7 := rep_dr dr_here h7
                  replace h15 := rep_dr dr_here h15
                  replace h19 := rep_dr dr_here h19
                  replace mu406 := mo_dr dr_here ne391 mu406
                  clear mu381
                  have h408 := mo_rep_dr dr_here nm43 mu406
                  replace hW := wd_dr dr_here mu406.hp hW
                  replace h2 := rep_dr dr_here h2
                  replace h7 := rep_dr dr_here h7
                  replace h15 := rep_dr dr_here h15
                  replace h19 := rep_dr dr_here h19
                  replace h407 := rep_dr dr_here h407
                  clear mu406
                  obtain ⟨g409, hM⟩ := hM
                  apply rep_cat (xs := ys115) (ys := ys404) (e := (fun y_ : (List (Int × Int)) => (D.lst (y_.map (fun y_ : (Int × Int) => (D.tup [(D.v (V.int y_.1)), (D.v (V.int y_.2))])))))) hW h408 h407 g409
                  intro p410 H413 e412 h411
                  replace h2 := rep_ext e412 h2
                  replace h7 := rep_ext e412 h7
                  replace h15 := rep_ext e412 h15
                  replace h19 := rep_ext e412 h19
                  replace h407 := rep_ext e412 h407
                  replace h408 := rep_ext e412 h408
                  replace hW := hW.ret0 e412
                  refine ⟨_, rfl, ?_⟩
                  exact hQ (ys115 ++ ys404) _ _ hM hW.out h411
              · skip
                have h414 := mo_rep_dr dr_here nm43 mu34
                replace hW := wd_dr dr_here mu34.hp hW
                replace h2 := rep_dr dr_here h2
                replace h7 := rep_dr dr_here h7
                replace h15 := rep_dr dr_here h15
                replace h19 := rep_dr dr_here h19
                clear mu34
                refine ⟨_, rfl, ?_⟩
                exact hQ ys115 _ _ hM hW.out h414
def M_passed (x_days_here : (List (List (Int × Int)))) (KM : (Bool × List (Bool × List (Int × Int))) → Prop) : Prop :=
  (forC (fun (x11 : (List (Int × Int))) (s13 : (List (Bool × List (Int × Int)))) (k14 : ((List (Bool × List (Int × Int)))) → Prop) => (M_mixed_pltii x11 fun r23 => (∃ KB28 : (Bool × List (Int × Int)) → Prop, (M_draw (2 : Int) fun r31 => (if (decide (V.int r31 = V.int (0 : Int))) = true then (KB28 ((true, r23) : (Bool × List (Int × Int)))) else (KB28 ((false, r23) : (Bool × List (Int × Int)))))) ∧ ∀ r44 : (Bool × List (Int × Int)), KB28 r44 → (s13.length < 16777216 ∧ (k14 ((s13 ++ [r44]))))))) x_days_here (([] : List (Bool × List (Int × Int)))) fun s55 => (∃ KB62 : (Bool × List (Bool × List (Int × Int))) → Prop, (M_draw (3 : Int) fun r65 => (if (decide (V.int r65 = V.int (0 : Int))) = true then (KB62 ((true, s55) : (Bool × List (Bool × List (Int × Int))))) else (KB62 ((false, s55) : (Bool × List (Bool × List (Int × Int))))))) ∧ ∀ r78 : (Bool × List (Bool × List (Int × Int))), KB62 r78 → (KM r78)))
def sp_passed (A : Ad) : Sp := fun vs H Q _ => ∃ (ms : List Addr) (ap : Addr) (v_days_here : V) (x_days_here : (List (List (Int × Int)))) (KM : (Bool × List (Bool × List (Int × Int))) → Prop), vs = [.ref ap, v_days_here] ∧ Wd ms [(ap, none)] [] H H ∧ rep ms H (D.lst (x_days_here.map (fun y_ : (List (Int × Int)) => (D.lst (y_.map (fun y_ : (Int × Int) => (D.tup [(D.v (V.int y_.1)), (D.v (V.int y_.2))]))))))) v_days_here ∧ M_passed x_days_here KM ∧ ∀ (r : (Bool × List (Bool × List (Int × Int)))) (u : V) (H1 : Hp), KM r → Ret [(ap, none)] H H1 → rep ms H1 (eSq (fun y_ : (Bool × List (Int × Int)) => (eSq (fun y_ : (Int × Int) => (D.tup [(D.v (V.int y_.1)), (D.v (V.int y_.2))])) y_)) r) u → Q u H1
set_option maxHeartbeats 16000000 in
theorem ok_passed {P : Program} {w : World} {K : PySem.W.Frag} {mg : Str → Option Value} {base : Heap} {A : Ad} (T : Txt w K mg A) : FnOk P w K mg base CX0 3 A.a_passed A.d_passed ["_law_pot_here", "_law_days_here"] (sp_passed A) := by
  refine T.F_passed.ok sc_passed (fun vs H Q E h => ?_) (fun cdv A_ outer s_ H_0 vs Q E hr h => ?_)
  · obtain ⟨ms, ap, v_days_here, x_days_here, KM, rfl, _⟩ := h
    rfl
  · obtain ⟨ms, ap, v_days_here, x_days_here, KM, rfl, hW, h_days_here, hM, hQ⟩ := h
    unfold M_passed at hM
    refine ⟨_, (pss_cons (ps_set (i := 2) sc_passed.nd rfl (by first | exact Or.inl rfl | exact Or.inr rfl) (pe_lst pa_nil)) (pss_cons (ps_for PassesOwn.never rfl (pi_list (pv 1)) (pg_name (i := 3) sc_passed.nd rfl (by first | exact Or.inl rfl | exact Or.inr rfl)) (pss_cons (ps_set (i := 4) sc_passed.nd rfl (by first | exact Or.inl rfl | exact Or.inr rfl) (pe_call (ok_mixed_pltii T) (hr.mono (by decide)) (by rfl) T.g_mixed T.F_mixed.kp T.b_mixed .nil pass0 (pa_cons (pv 0) (pa_cons (pv 3) pa_nil)))) (pss_one (ps_expr (pe_bmK (K := K) rfl PySem.F.plainAttrs_list PySem.F.slot_list_append PySem.F.type_list_append mt_append (pv 2) (pa_cons (pe_up (pe_ifExp (pt_cmpR op_eq (pe_call (ok_draw T) (hr.mono (by decide)) (by rfl) T.g_draw T.F_draw.kp T.b_draw .nil pass0 (pa_cons (pv 0) (pa_cons pe_int pa_nil))) pe_int (nomark _)) (pe_callTy (call_tuple_ofK (K := K) rfl) (by rfl) T.z_tuple (by decide +kernel) (pa_cons (pv 4) pa_nil)) (pv 4))) pa_nil)))))) (pss_one (ps_ret (pe_up (pe_ifExp (pt_cmpR op_eq (pe_call (ok_draw T) (hr.mono (by decide)) (by rfl) T.g_draw T.F_draw.kp T.b_draw .nil pass0 (pa_cons (pv 0) (pa_cons pe_int pa_nil))) pe_int (nomark _)) (pe_callTy (call_tuple_ofK (K := K) rfl) (by rfl) T.z_tuple (by decide +kernel) (pa_cons (pv 2) pa_nil)) (pv 2))))))), ?_⟩
    refine ⟨(by show 0 ≤ sizeLine; decide), ?_⟩
    intro L1 nl2
    have nm3 := nm_new hW nl2
    have mu4 := mo_newL (ds := ([] : List (Bool × List (Int × Int))).map (fun y_ : (Bool × List (Int × Int)) => (eSq (fun y_ : (Int × Int) => (D.tup [(D.v (V.int y_.1)), (D.v (V.int y_.2))])) y_))) (vs := []) hW nl2 repL_nil
    replace h_days_here := rep_cell (o := .lst []) nl2 h_days_here
    replace hW := wd_cell (o := .lst []) hW nl2
    generalize upd H_0 L1 (.lst []) = H5 at *
    replace mu4 : MutO (L1 :: ms) [(ap, none)] H_0 H5 L1 (D.lst (([] : List (Bool × List (Int × Int))).map (fun y_ : (Bool × List (Int × Int)) => (eSq (fun y_ : (Int × Int) => (D.tup [(D.v (V.int y_.1)), (D.v (V.int y_.2))])) y_)))) := mu4
    refine ⟨_, rfl, ?_⟩
    apply rep_iter h_days_here
    intro a6 xs7 _ an8 hp9 hl10
    refine for_listG (S := (List (Bool × List (Int × Int)))) (items := x_days_here) (e := (fun y_ : (List (Int × Int)) => (D.lst (y_.map (fun y_ : (Int × Int) => (D.tup [(D.v (V.int y_.1)), (D.v (V.int y_.2))])))))) (ms := (L1 :: ms)) (fun (s : (List (Bool × List (Int × Int)))) σ_ h_ => ∃ (w_0 : Option V), ∃ (w_1 : Option V), σ_ = [some (V.ref ap), some v_days_here, some (V.ref L1), w_0, w_1] ∧ Wd (L1 :: ms) [(ap, none)] [] H_0 h_ ∧ Keep (L1 :: ms) H5 h_ ∧ MutO (L1 :: ms) [(ap, none)] H_0 h_ L1 (D.lst (s.map (fun y_ : (Bool × List (Int × Int)) => (eSq (fun y_ : (Int × Int) => (D.tup [(D.v (V.int y_.1)), (D.v (V.int y_.2))])) y_))))) (([] : List (Bool × List (Int × Int)))) an8 hp9 hl10 (fun _ _ _ z_ => by obtain ⟨_, _, _, _, q_, _⟩ := z_; exact q_) hM ⟨_, _, rfl, hW, Keep.refl, mu4⟩ ?_ ?_
    · skip
      clear mu4
      rintro x11 u12 s13 k14 _ H22 ⟨w19, w20, rfl, hW, hk15, mu21⟩ h16 hM Nx17 hN18
      replace h_days_here := rep_keep hk15 h_days_here
      refine ⟨_, rfl, ?_⟩
      refine ⟨_, rfl, ?_⟩
      refine ⟨(L1 :: ms), ap, _, x11, _, rfl, hW.enterP, h16, hM, fun r23 u26 H27 hM e25 h24 => ?_⟩
      replace h_days_here := rep_ret hW e25 h_days_here
      replace hk15 := keep_ret hW e25 hk15
      replace h16 := rep_ret hW e25 h16
      replace mu21 := mo_ret hW e25 mu21
      replace hW := hW.retP e25
      refine ⟨_, rfl, ?_⟩
      refine ⟨mo_tyL mu21, ?_⟩
      obtain ⟨KB28, hM, hKKB28⟩ := hM
      refine ⟨fun v H1 => ∃ r : (Bool × List (Int × Int)), KB28 r ∧ Wd (L1 :: ms) [(ap, none)] [] H_0 H1 ∧ Keep (L1 :: ms) H27 H1 ∧ rep (L1 :: ms) H1 (eSq (fun y_ : (Int × Int) => (D.tup [(D.v (V.int y_.1)), (D.v (V.int y_.2))])) r) v ∧ MutO (L1 :: ms) [(ap, none)] H_0 H1 L1 (D.lst (s13.map (fun y_ : (Bool × List (Int × Int)) => (eSq (fun y_ : (Int × Int) => (D.tup [(D.v (V.int y_.1)), (D.v (V.int y_.2))])) y_)))), ?_, ?_⟩
      · skip
        have hj30 := Keep.refl (ms := (L1 :: ms)) (H := H27)
        refine ⟨_, rfl, ?_⟩
        refine ⟨(L1 :: ms), ap, (2 : Int), _, rfl, hW.enterP, hM, fun r31 u34 H35 hM e33 h32 => ?_⟩
        replace h_days_here := rep_ret hW e33 h_days_here
        replace hk15 := keep_ret hW e33 hk15
        replace h16 := rep_ret hW e33 h16
        replace h24 := rep_ret hW e33 h24
        replace hj30 := keep_ret hW e33 hj30
        replace mu21 := mo_ret hW e33 mu21
        replace hW := hW.retP e33
        obtain rfl := of_v h32
        refine ⟨rfl, ?_⟩
        refine ⟨_, rfl, ?_⟩
        refine ite3 hM (fun hM => ?_) (fun hM => ?_)
        · skip
          refine ⟨_, rfl, ?_⟩
          apply rep_tupOf (ds := r23.map (fun y_ : (Int × Int) => (D.tup [(D.v (V.int y_.1)), (D.v (V.int y_.2))]))) h24
          intro ys36 hr37
          intro p38 np39
          have e40 := Rx.Ext.new (H := H35) (o := (HO.tup ys36)) np39
          have hp41 : upd H35 p38 (HO.tup ys36) p38 = some (HO.tup ys36) := upd_same
          generalize upd H35 p38 (HO.tup ys36) = H43 at e40 hp41 ⊢
          have h42 : rep (L1 :: ms) H43 (D.tup (r23.map (fun y_ : (Int × Int) => (D.tup [(D.v (V.int y_.1)), (D.v (V.int y_.2))])))) (.ref p38) := rep_tup_mk hW np39 e40 hp41 hr37
          replace h_days_here := rep_ext e40 h_days_here
          replace hk15 := keep_ext e40 hk15
          replace h16 := rep_ext e40 h16
          replace h24 := rep_ext e40 h24
          replace hj30 := keep_ext e40 hj30
          replace mu21 := mo_ext e40 mu21
          replace hW := hW.ret0 e40
          exact ⟨((true, r23) : (Bool × List (Int × Int))), hM, hW, hj30, (rep_sqT h42), mu21⟩
        · skip
          refine ⟨_, rfl, ?_⟩
          exact ⟨((false, r23) : (Bool × List (Int × Int))), hM, hW, hj30, (rep_sqL h24), mu21⟩
      · skip
        clear mu21
        rintro u46 Hj29 ⟨r44, hr, hW, hj30, h45, mu47⟩
        replace hM := hKKB28 r44 hr
        replace h_days_here := rep_keep hj30 h_days_here
        replace hk15 := Keep.trans hk15 hj30
        replace h16 := rep_keep hj30 h16
        replace h24 := rep_keep hj30 h24
        obtain ⟨g48, hM⟩ := hM
        apply mo_appU mu47 (by rw [List.length_map]; exact g48)
        intro vs49 hr51
        have mk53 := mo_setL mu47 (repL_snoc (e := (fun y_ : (Bool × List (Int × Int)) => (eSq (fun y_ : (Int × Int) => (D.tup [(D.v (V.int y_.1)), (D.v (V.int y_.2))])) y_))) (xs := s13) (y := r44) hr51 h45)
        replace h_days_here := rep_put (o := .lst (vs49 ++ [u46])) mu47.im h_days_here
        replace hk15 := keep_put (o := .lst (vs49 ++ [u46])) mu47.im hk15
        replace h16 := rep_put (o := .lst (vs49 ++ [u46])) mu47.im h16
        replace h24 := rep_put (o := .lst (vs49 ++ [u46])) mu47.im h24
        replace h45 := rep_put (o := .lst (vs49 ++ [u46])) mu47.im h45
        replace hW := wd_put (o := .lst (vs49 ++ [u46])) hW mu47
        replace mu47 := mk53
        generalize upd Hj29 L1 (.lst (vs49 ++ [u46])) = H54 at *
        replace mu47 : MutO (L1 :: ms) [(ap, none)] H_0 H54 L1 (D.lst ((s13 ++ [r44]).map (fun y_ : (Bool × List (Int × Int)) => (eSq (fun y_ : (Int × Int) => (D.tup [(D.v (V.int y_.1)), (D.v (V.int y_.2))])) y_)))) := mu47
        clear mk53
        exact hN18 ((s13 ++ [r44])) _ _ hM ⟨_, _, rfl, hW, hk15, mu47⟩
    · skip
      clear mu4
      rintro s55 _ H60 hM ⟨w57, w58, rfl, hW, hk56, mu59⟩
      replace h_days_here := rep_keep hk56 h_days_here
      have h61 := mo_rep_dr dr_here nm3 mu59
      replace hW := wd_dr dr_here mu59.hp hW
      replace h_days_here := rep_dr dr_here h_days_here
      clear mu59
      obtain ⟨KB62, hM, hKKB62⟩ := hM
      refine ⟨fun v H1 => ∃ r : (Bool × List (Bool × List (Int × Int))), KB62 r ∧ Wd ms [(ap, none)] [] H_0 H1 ∧ Keep ms H60 H1 ∧ rep ms H1 (eSq (fun y_ : (Bool × List (Int × Int)) => (eSq (fun y_ : (Int × Int) => (D.tup [(D.v (V.int y_.1)), (D.v (V.int y_.2))])) y_)) r) v, ?_, ?_⟩
      · skip
        have hj64 := Keep.refl (ms := ms) (H := H60)
        refine ⟨_, rfl, ?_⟩
        refine ⟨ms, ap, (3 : Int), _, rfl, hW.enterP, hM, fun r65 u68 H69 hM e67 h66 => ?_⟩
        replace h_days_here := rep_ret hW e67 h_days_here
        replace h61 := rep_ret hW e67 h61
        replace hj64 := keep_ret hW e67 hj64
        replace hW := hW.retP e67
        obtain rfl := of_v h66
        refine ⟨rfl, ?_⟩
        refine ⟨_, rfl, ?_⟩
        refine ite3 hM (fun hM => ?_) (fun hM => ?_)
        · skip
          refine ⟨_, rfl, ?_⟩
          apply rep_tupOf (ds := s55.map (fun y_ : (Bool × List (Int × Int)) => (eSq (fun y_ : (Int × Int) => (D.tup [(D.v (V.int y_.1)), (D.v (V.int y_.2))])) y_))) h61
          intro ys70 hr71
          intro p72 np73
          have e74 := Rx.Ext.new (H := H69) (o := (HO.tup ys70)) np73
          have hp75 : upd H69 p72 (HO.tup ys70) p72 = some (HO.tup ys70) := upd_same
          generalize upd H69 p72 (HO.tup ys70) = H77 at e74 hp75 ⊢
          have h76 : rep ms H77 (D.tup (s55.map (fun y_ : (Bool × List (Int × Int)) => (eSq (fun y_ : (Int × Int) => (D.tup [(D.v (V.int y_.1)), (D.v (V.int y_.2))])) y_)))) (.ref p72) := rep_tup_mk hW np73 e74 hp75 hr71
          replace h_days_here := rep_ext e74 h_days_here
          replace h61 := rep_ext e74 h61
          replace hj64 := keep_ext e74 hj64
          replace hW := hW.ret0 e74
          exact ⟨((true, s55) : (Bool × List (Bool × List (Int × Int)))), hM, hW, hj64, (rep_sqT h76)⟩
        · skip
          refine ⟨_, rfl, ?_⟩
          exact ⟨((false, s55) : (Bool × List (Bool × List (Int × Int)))), hM, hW, hj64, (rep_sqL h61)⟩
      · skip
        rintro u80 Hj63 ⟨r78, hr, hW, hj64, h79⟩
        replace hM := hKKB62 r78 hr
        replace h_days_here := rep_keep hj64 h_days_here
        replace h61 := rep_keep hj64 h61
        exact hQ r78 _ _ hM hW.out h79
def M_is_list (x_value : (Bool × List (Bool × List (Int × Int)))) (KM : Bool → Prop) : Prop :=
  (KM true)
def sp_is_list (A : Ad) : Sp := fun vs H Q _ => ∃ (ms : List Addr) (v_value : V) (x_value : (Bool × List (Bool × List (Int × Int)))) (KM : Bool → Prop), vs = [v_value] ∧ Wd ms [] [] H H ∧ rep ms H (eSq (fun y_ : (Bool × List (Int × Int)) => (eSq (fun y_ : (Int × Int) => (D.tup [(D.v (V.int y_.1)), (D.v (V.int y_.2))])) y_)) x_value) v_value ∧ M_is_list x_value KM ∧ ∀ (r : Bool) (u : V) (H1 : Hp), KM r → Ret [] H H1 → rep ms H1 (D.v (V.bl r)) u → Q u H1
set_option maxHeartbeats 16000000 in
theorem ok_is_list {P : Program} {w : World} {K : PySem.W.Frag} {mg : Str → Option Value} {base : Heap} {A : Ad} (T : Txt w K mg A) : FnOk P w K mg base CX0 1 A.a_is_list A.d_is_list ["value"] (sp_is_list A) := by
  refine T.F_is_list.ok sc_is_list (fun vs H Q E h => ?_) (fun cdv A_ outer s_ H_0 vs Q E hr h => ?_)
  · obtain ⟨ms, v_value, x_value, KM, rfl, _⟩ := h
    rfl
  · obtain ⟨ms, v_value, x_value, KM, rfl, hW, h_value, hM, hQ⟩ := h
    unfold M_is_list at hM
    refine ⟨_, (pss_one (ps_ret (pe_callB (call_isiTK (K := K) rfl) (by rfl) T.z_isinstance (by decide +kernel) (pa_cons (pv 0) (pa_cons (pe_tup (pa_cons (pe_bltn (v := .ty "list") (by rfl) T.z_list (by decide +kernel) rfl) (pa_cons (pe_bltn (v := .ty "tuple") (by rfl) T.z_tuple (by decide +kernel) rfl) pa_nil))) pa_nil))))), ?_⟩
    refine ⟨_, rfl, ?_⟩
    refine ⟨(by show 2 ≤ sizeLine; decide), ?_⟩
    intro p1 n2
    have e3 := Rx.Ext.new (H := H_0) (o := (HO.tup [V.ty "list", V.ty "tuple"])) n2
    have hp4 : upd H_0 p1 (HO.tup [V.ty "list", V.ty "tuple"]) p1 = some (HO.tup [V.ty "list", V.ty "tuple"]) := upd_same
    generalize upd H_0 p1 (HO.tup [V.ty "list", V.ty "tuple"]) = H5 at e3 hp4 ⊢
    replace h_value := rep_ext e3 h_value
    replace hW := hW.ret0 e3
    apply rep_isiSq (f := (fun y_ : (Bool × List (Int × Int)) => (eSq (fun y_ : (Int × Int) => (D.tup [(D.v (V.int y_.1)), (D.v (V.int y_.2))])) y_))) (m := x_value) h_value hp4
    exact hQ true _ _ hM hW.out rep_v
def M_is_list_qtii (x_value : (Bool × List (Int × Int))) (KM : Bool → Prop) : Prop :=
  (KM true)
def sp_is_list_qtii (A : Ad) : Sp := fun vs H Q _ => ∃ (ms : List Addr) (v_value : V) (x_value : (Bool × List (Int × Int))) (KM : Bool → Prop), vs = [v_value] ∧ Wd ms [] [] H H ∧ rep ms H (eSq (fun y_ : (Int × Int) => (D.tup [(D.v (V.int y_.1)), (D.v (V.int y_.2))])) x_value) v_value ∧ M_is_list_qtii x_value KM ∧ ∀ (r : Bool) (u : V) (H1 : Hp), KM r → Ret [] H H1 → rep ms H1 (D.v (V.bl r)) u → Q u H1
set_option maxHeartbeats 16000000 in
theorem ok_is_list_qtii {P : Program} {w : World} {K : PySem.W.Frag} {mg : Str → Option Value} {base : Heap} {A : Ad} (T : Txt w K mg A) : FnOk P w K mg base CX0 1 A.a_is_list A.d_is_list ["value"] (sp_is_list_qtii A) := by
  refine T.F_is_list.ok sc_is_list (fun vs H Q E h => ?_) (fun cdv A_ outer s_ H_0 vs Q E hr h => ?_)
  · obtain ⟨ms, v_value, x_value, KM, rfl, _⟩ := h
    rfl
  · obtain ⟨ms, v_value, x_value, KM, rfl, hW, h_value, hM, hQ⟩ := h
    unfold M_is_list_qtii at hM
    refine ⟨_, (pss_one (ps_ret (pe_callB (call_isiTK (K := K) rfl) (by rfl) T.z_isinstance (by decide +kernel) (pa_cons (pv 0) (pa_cons (pe_tup (pa_cons (pe_bltn (v := .ty "list") (by rfl) T.z_list (by decide +kernel) rfl) (pa_cons (pe_bltn (v := .ty "tuple") (by rfl) T.z_tuple (by decide +kernel) rfl) pa_nil))) pa_nil))))), ?_⟩
    refine ⟨_, rfl, ?_⟩
    refine ⟨(by show 2 ≤ sizeLine; decide), ?_⟩
    intro p1 n2
    have e3 := Rx.Ext.new (H := H_0) (o := (HO.tup [V.ty "list", V.ty "tuple"])) n2
    have hp4 : upd H_0 p1 (HO.tup [V.ty "list", V.ty "tuple"]) p1 = some (HO.tup [V.ty "list", V.ty "tuple"]) := upd_same
    generalize upd H_0 p1 (HO.tup [V.ty "list", V.ty "tuple"]) = H5 at e3 hp4 ⊢
    replace h_value := rep_ext e3 h_value
    replace hW := hW.ret0 e3
    apply rep_isiSq (f := (fun y_ : (Int × Int) => (D.tup [(D.v (V.int y_.1)), (D.v (V.int y_.2))]))) (m := x_value) h_value hp4
    exact hQ true _ _ hM hW.out rep_v
def M_is_integer (x_value : Int) (KM : Bool → Prop) : Prop :=
  (KM (!false))
def sp_is_integer (A : Ad) : Sp := fun vs H Q _ => ∃ (ms : List Addr) (x_value : Int) (KM : Bool → Prop), vs = [V.int x_value] ∧ Wd ms [] [] H H ∧ M_is_integer x_value KM ∧ ∀ (r : Bool) (u : V) (H1 : Hp), KM r → Ret [] H H1 → rep ms H1 (D.v (V.bl r)) u → Q u H1
set_option maxHeartbeats 16000000 in
theorem ok_is_integer {P : Program} {w : World} {K : PySem.W.Frag} {mg : Str → Option Value} {base : Heap} {A : Ad} (T : Txt w K mg A) : FnOk P w K mg base CX0 1 A.a_is_integer A.d_is_integer ["value"] (sp_is_integer A) := by
  refine T.F_is_integer.ok sc_is_integer (fun vs H Q E h => ?_) (fun cdv A_ outer s_ H_0 vs Q E hr h => ?_)
  · obtain ⟨ms, x_value, KM, rfl, _⟩ := h
    rfl
  · obtain ⟨ms, x_value, KM, rfl, hW, hM, hQ⟩ := h
    unfold M_is_integer at hM
    refine ⟨_, (pss_one (ps_ret (pe_and (pe_callB (call_isiK (K := K) rfl) (by rfl) T.z_isinstance (by decide +kernel) (pa_cons (pv 0) (pa_cons (pe_bltn (v := .ty "int") (by rfl) T.z_int (by decide +kernel) rfl) pa_nil))) (pe_one (pe_not (pe_callB (call_isiK (K := K) rfl) (by rfl) T.z_isinstance (by decide +kernel) (pa_cons (pv 0) (pa_cons (pe_bltn (v := .ty "bool") (by rfl) T.z_bool (by decide +kernel) rfl) pa_nil)))))))), ?_⟩
    refine ⟨_, rfl, ?_⟩
    refine ⟨_, _, _, _, true, rfl, .ty _, .base (.int _), kit_ty (by decide +kernel), ?_⟩
    refine ⟨_, rfl, ?_⟩
    refine iteT ?_
    refine ⟨_, rfl, ?_⟩
    refine ⟨_, _, _, _, false, rfl, .ty _, .base (.int _), kit_ty (by decide +kernel), ?_⟩
    refine ⟨_, rfl, ?_⟩
    exact hQ (!false) _ _ hM hW.out rep_v
def M_is_meeting (x_value : (Int × Int)) (KM : Bool → Prop) : Prop :=
  (if (decide (V.int (2 : Int) = V.int (2 : Int))) = true then (M_is_integer x_value.1 fun r3 => (if r3 = true then (M_is_integer x_value.2 fun r10 => (KM r10)) else (KM false))) else (KM false))
def sp_is_meeting (A : Ad) : Sp := fun vs H Q _ => ∃ (ms : List Addr) (v_value : V) (x_value : (Int × Int)) (KM : Bool → Prop), vs = [v_value] ∧ Wd ms [] [] H H ∧ rep ms H (D.tup [(D.v (V.int x_value.1)), (D.v (V.int x_value.2))]) v_value ∧ M_is_meeting x_value KM ∧ ∀ (r : Bool) (u : V) (H1 : Hp), KM r → Ret [] H H1 → rep ms H1 (D.v (V.bl r)) u → Q u H1
set_option maxHeartbeats 16000000 in
theorem ok_is_meeting {P : Program} {w : World} {K : PySem.W.Frag} {mg : Str → Option Value} {base : Heap} {A : Ad} (T : Txt w K mg A) : FnOk P w K mg base CX0 2 A.a_is_meeting A.d_is_meeting ["value"] (sp_is_meeting A) := by
  refine T.F_is_meeting.ok sc_is_meeting (fun vs H Q E h => ?_) (fun cdv A_ outer s_ H_0 vs Q E hr h => ?_)
  · obtain ⟨ms, v_value, x_value, KM, rfl, _⟩ := h
    rfl
  · obtain ⟨ms, v_value, x_value, KM, rfl, hW, h_value, hM, hQ⟩ := h
    unfold M_is_meeting at hM
    refine ⟨_, (pss_one (ps_ret (pe_and (pe_callB (call_isiK (K := K) rfl) (by rfl) T.z_isinstance (by decide +kernel) (pa_cons (pv 0) (pa_cons (pe_bltn (v := .ty "tuple") (by rfl) T.z_tuple (by decide +kernel) rfl) pa_nil))) (pe_and (pe_cmpR op_eq (pe_callB (call_lenK (K := K) rfl) (by rfl) T.z_len PySem.boot_len (pa_cons (pv 0) pa_nil)) pe_int (nomark _)) (pe_and (pe_call (ok_is_integer T) (hr.mono (by decide)) (by rfl) T.g_is_integer T.F_is_integer.kp T.b_is_integer .nil pass0 (pa_cons (pe_ix (ix_tupK (K := K) rfl) (pv 0) pe_int (fun _ _ => rfl)) pa_nil)) (pe_one (pe_call (ok_is_integer T) (hr.mono (by decide)) (by rfl) T.g_is_integer T.F_is_integer.kp T.b_is_integer .nil pass0 (pa_cons (pe_ix (ix_tupK (K := K) rfl) (pv 0) pe_int (fun _ _ => rfl)) pa_nil)))))))), ?_⟩
    refine ⟨_, rfl, ?_⟩
    apply rep_isi1 (d := (D.tup [(D.v (V.int x_value.1)), (D.v (V.int x_value.2))])) (a := "tuple") (b := "tuple") (r := true) h_value (by rfl) (by rfl) (by decide +kernel)
    refine ⟨_, rfl, ?_⟩
    refine iteT ?_
    refine ⟨_, rfl, ?_⟩
    apply rep_lenT (n := 2) h_value rfl
    refine ⟨rfl, ?_⟩
    refine ⟨_, rfl, ?_⟩
    refine ite3 hM (fun hM => ?_) (fun hM => ?_)
    · skip
      refine ⟨_, rfl, ?_⟩
      apply rep_ixT 0 h_value rfl rfl
      intro u2 h1
      obtain rfl := of_v h1
      refine ⟨ms, x_value.1, _, rfl, hW.enter0, hM, fun r3 u6 H7 hM e5 h4 => ?_⟩
      replace h_value := rep_ext e5 h_value
      replace hW := hW.ret0 e5
      obtain rfl := of_v h4
      refine ⟨_, rfl, ?_⟩
      refine ite3 hM (fun hM => ?_) (fun hM => ?_)
      · skip
        refine ⟨_, rfl, ?_⟩
        apply rep_ixT 1 h_value rfl rfl
        intro u9 h8
        obtain rfl := of_v h8
        refine ⟨ms, x_value.2, _, rfl, hW.enter0, hM, fun r10 u13 H14 hM e12 h11 => ?_⟩
        replace h_value := rep_ext e12 h_value
        replace hW := hW.ret0 e12
        obtain rfl := of_v h11
        exact hQ r10 _ _ hM hW.out rep_v
      · skip
        exact hQ false _ _ hM hW.out rep_v
    · skip
      exact hQ false _ _ hM hW.out rep_v
def M_is_round (x_value : (Bool × List (Int × Int))) (KM : Bool → Prop) : Prop :=
  (M_is_list_qtii x_value fun r1 => (if (!r1) = true then (KM false) else (if (decide ((x_value.2.length : Int) < (2 : Int))) = true then (KM false) else (if (decide ((12 : Int) < (x_value.2.length : Int))) = true then (KM false) else (x_value.2.length < 100000 ∧ mapC (fun (x25 : (Int × Int)) (k18 : Bool → Prop) => (M_is_meeting x25 fun r31 => (k18 r31))) x_value.2 [] fun ys41 => (if (!(List.all ys41 id)) = true then (KM false) else (((List.flatMap (fun y_ : (Int × Int) => ([y_.1, y_.2] : List Int)) x_value.2).length ≤ 16777216) ∧ (∀ ys56 : List Int, ys56.Perm (List.flatMap (fun y_ : (Int × Int) => ([y_.1, y_.2] : List Int)) x_value.2) → ys56.Pairwise (· ≤ ·) → (RgOk (0 : Int) ((2 : Int) * (x_value.2.length : Int)) ∧ (((plainD (D.lst (ys56.map (fun y_ : Int => (D.v (V.int y_))))) = true ∧ plainD (D.lst ((rangeI (0 : Int) ((2 : Int) * (x_value.2.length : Int))).map (fun y_ : Int => (D.v (V.int y_))))) = true ∧ SeqAt.shaped (pyOf (D.lst (ys56.map (fun y_ : Int => (D.v (V.int y_)))))) = true ∧ SeqAt.shaped (pyOf (D.lst ((rangeI (0 : Int) ((2 : Int) * (x_value.2.length : Int))).map (fun y_ : Int => (D.v (V.int y_)))))) = true)) ∧ (KM (PyData.eqv (pyOf (D.lst (ys56.map (fun y_ : Int => (D.v (V.int y_)))))) (pyOf (D.lst ((rangeI (0 : Int) ((2 : Int) * (x_value.2.length : Int))).map (fun y_ : Int => (D.v (V.int y_))))))))))))))))))
def sp_is_round (A : Ad) : Sp := fun vs H Q _ => ∃ (ms : List Addr) (v_value : V) (x_value : (Bool × List (Int × Int))) (KM : Bool → Prop), vs = [v_value] ∧ Wd ms [] [] H H ∧ rep ms H (eSq (fun y_ : (Int × Int) => (D.tup [(D.v (V.int y_.1)), (D.v (V.int y_.2))])) x_value) v_value ∧ M_is_round x_value KM ∧ ∀ (r : Bool) (u : V) (H1 : Hp), KM r → Ret [] H H1 → rep ms H1 (D.v (V.bl r)) u → Q u H1
set_option maxHeartbeats 16000000 in
theorem ok_is_round {P : Program} {w : World} {K : PySem.W.Frag} {mg : Str → Option Value} {base : Heap} {A : Ad} (T : Txt w K mg A) : FnOk P w K mg base CX0 3 A.a_is_round A.d_is_round ["value"] (sp_is_round A) := by
  refine T.F_is_round.ok sc_is_round (fun vs H Q E h => ?_) (fun cdv A_ outer s_ H_0 vs Q E hr h => ?_)
  · obtain ⟨ms, v_value, x_value, KM, rfl, _⟩ := h
    rfl
  · obtain ⟨ms, v_value, x_value, KM, rfl, hW, h_value, hM, hQ⟩ := h
    unfold M_is_round at hM
    refine ⟨_, (pss_cons (ps_if (PW.pt (pw_or (pt_not (pt_val (pe_call (ok_is_list_qtii T) (hr.mono (by decide)) (by rfl) T.g_is_list T.F_is_list.kp T.b_is_list .nil pass0 (pa_cons (pv 0) pa_nil)))) (pw_or (pt_cmpR op_lt (pe_callB (call_lenK (K := K) rfl) (by rfl) T.z_len PySem.boot_len (pa_cons (pv 0) pa_nil)) (C8.pe_gc (by rfl) T.c_FEWEST_MEETINGS) (nomark _)) (pw_or1 (pt_cmpR op_gt (pe_callB (call_lenK (K := K) rfl) (by rfl) T.z_len PySem.boot_len (pa_cons (pv 0) pa_nil)) (C8.pe_gc (by rfl) T.c_MOST_MEETINGS) (nomark _)))))) (pss_one (ps_ret pe_bl)) pss_nil) (pss_cons (ps_if (pt_not (pt_val (pe_callB (cr_allK (K := K) rfl rfl) (by rfl) T.z_all (by decide +kernel) (pa_cons (pe_lc (own := [("meeting", 1)]) (g := gName 1) rfl sc_is_round.nd (pi_seqK (K := K) rfl (pv 0)) (blkOk_by (N := ["value", "meeting", "team"]) (sc := defScope s_is_round) (by decide +kernel)) (fun _ _ _ _ _ => pg_name (i := 1) sc_is_round.nd rfl (by first | exact Or.inl rfl | exact Or.inr rfl)) (fun _ _ _ _ _ => pts_nil) (fun _ _ _ _ _ => (pe_call (ok_is_meeting T) (hr.mono (by decide)) (by rfl) T.g_is_meeting T.F_is_meeting.kp T.b_is_meeting .nil pass0 (pa_cons (pv 1) pa_nil)))) pa_nil)))) (pss_one (ps_ret pe_bl)) pss_nil) (pss_one (ps_ret (pe_cmpR (op_eqDK (K := K) rfl hr.units) (pe_callB (cr_sortedIK (K := K) rfl) (by rfl) T.z_sorted (by decide +kernel) (pa_cons (pe_lc2 (own := [("meeting", 1), ("team", 2)]) (vs1 := [2]) (g := gName 1) (g1 := gName 2) rfl sc_is_round.nd (pi_seqK (K := K) rfl (pv 0)) (blkOk_by (N := ["value", "meeting", "team"]) (sc := defScope s_is_round) (by decide +kernel)) (by decide) (fun _ _ _ _ _ => pg_name (i := 1) sc_is_round.nd rfl (by first | exact Or.inl rfl | exact Or.inr rfl)) (fun _ _ _ _ _ => pts_nil) (fun _ _ _ _ _ => pi_tupK (K := K) rfl (pv 1)) (fun _ _ _ _ _ => pg_name (i := 2) sc_is_round.nd rfl (by first | exact Or.inl rfl | exact Or.inr rfl)) (fun _ _ _ _ _ => pts_nil) (fun _ _ _ _ _ => pv 2)) pa_nil)) (pe_listRg rfl (by rfl) T.z_list (prg_1 (by rfl) T.z_range (pe_op op_mul pe_int (pe_callB (call_lenK (K := K) rfl) (by rfl) T.z_len PySem.boot_len (pa_cons (pv 0) pa_nil))))) (nomark _)))))), ?_⟩
    refine ⟨_, rfl, ?_⟩
    refine ⟨ms, _, x_value, _, rfl, hW.enter0, h_value, hM, fun r1 u4 H5 hM e3 h2 => ?_⟩
    replace h_value := rep_ext e3 h_value
    replace hW := hW.ret0 e3
    obtain rfl := of_v h2
    refine ⟨_, rfl, ?_⟩
    refine ite3 hM (fun hM => ?_) (fun hM => ?_)
    · skip
      refine iteT ?_
      exact hQ false _ _ hM hW.out rep_v
    · skip
      refine ⟨_, rfl, ?_⟩
      apply rep_lenSq (f := (fun y_ : (Int × Int) => (D.tup [(D.v (V.int y_.1)), (D.v (V.int y_.2))]))) (m := x_value) h_value
      refine ⟨_, _, rfl, rfl, ?_⟩
      refine ⟨_, rfl, ?_⟩
      refine ite3 hM (fun hM => ?_) (fun hM => ?_)
      · skip
        refine iteT ?_
        exact hQ false _ _ hM hW.out rep_v
      · skip
        refine ⟨_, rfl, ?_⟩
        apply rep_lenSq (f := (fun y_ : (Int × Int) => (D.tup [(D.v (V.int y_.1)), (D.v (V.int y_.2))]))) (m := x_value) h_value
        refine ⟨_, _, rfl, rfl, ?_⟩
        refine ⟨_, rfl, ?_⟩
        refine ite3 hM (fun hM => ?_) (fun hM => ?_)
        · skip
          exact hQ false _ _ hM hW.out rep_v
        · skip
          refine ⟨_, rfl, ?_⟩
          apply rep_iterSq (f := (fun y_ : (Int × Int) => (D.tup [(D.v (V.int y_.1)), (D.v (V.int y_.2))]))) (m := x_value) h_value
          intro a6 J11 _ P12 PL13
          refine fun L14 nl15 => ?_
          have nm29 := nm_new hW nl15
          refine lc_seqG (L := L14) (fun n_ ys_ h_ => Wd (L14 :: ms) [] [] H_0 h_ ∧ Keep (L14 :: ms) H5 h_ ∧ MutO (L14 :: ms) [] H_0 h_ L14 (D.lst (ys_.map (fun y_ : Bool => (D.v (V.bl y_))))) ∧ ys_.length ≤ n_) (items := x_value.2) (e := (fun y_ : (Int × Int) => (D.tup [(D.v (V.int y_.1)), (D.v (V.int y_.2))]))) (PL13 _ nl15) (fun _ _ _ q_ => q_.2.1) hM ⟨wd_cell hW nl15, keep_cell nl15 Keep.refl, mo_newL (ds := []) hW nl15 repL_nil, Nat.le_refl _⟩ ?_ ?_
          · skip
            rintro x25 u26 n16 ys17 k18 H30 hn ⟨hW, hk19, mu20, ln21⟩ h27 hM Nx24 hN22
            replace h_value := rep_keep hk19 (rep_new nl15 h_value)
            refine ⟨rfl, ?_⟩
            refine tyes_of ?_
            refine ⟨_, rfl, ?_⟩
            refine ⟨(L14 :: ms), _, x25, _, rfl, hW.enter0, h27, hM, fun r31 u34 H35 hM e33 h32 => ?_⟩
            replace h_value := rep_ext e33 h_value
            replace hk19 := keep_ext e33 hk19
            replace h27 := rep_ext e33 h27
            replace mu20 := mo_ext e33 mu20
            replace hW := hW.ret0 e33
            obtain rfl := of_v h32
            refine mo_end mu20 hn (by rw [List.length_map]; exact ln21) fun vs36 hr37 => ?_
            have mk39 := mo_setL mu20 (repL_snoc (e := (fun y_ : Bool => (D.v (V.bl y_)))) (xs := ys17) (y := r31) hr37 rep_v)
            replace h_value := rep_put (o := .lst (vs36 ++ [V.bl r31])) mu20.im h_value
            replace hk19 := keep_put (o := .lst (vs36 ++ [V.bl r31])) mu20.im hk19
            replace h27 := rep_put (o := .lst (vs36 ++ [V.bl r31])) mu20.im h27
            replace hW := wd_put (o := .lst (vs36 ++ [V.bl r31])) hW mu20
            replace mu20 := mk39
            generalize upd H35 L14 (.lst (vs36 ++ [V.bl r31])) = H40 at *
            replace mu20 : MutO (L14 :: ms) [] H_0 H40 L14 (D.lst ((ys17 ++ [r31]).map (fun y_ : Bool => (D.v (V.bl y_))))) := mu20
            clear mk39
            exact hN22 r31 _ hM ⟨hW, hk19, mu20, by rw [List.length_append]; exact Nat.add_le_add_right ln21 1⟩
          · skip
            rintro n16 ys41 H42 hM ⟨hW, hk19, mu20, ln21⟩
            replace h_value := rep_keep hk19 (rep_new nl15 h_value)
            clear hk19 ln21
            have h43 := mo_rep_dr dr_here nm29 mu20
            replace hW := wd_dr dr_here mu20.hp hW
            replace h_value := rep_dr dr_here h_value
            clear mu20
            apply rep_all h43
            refine ⟨_, rfl, ?_⟩
            refine ite3 hM (fun hM => ?_) (fun hM => ?_)
            · skip
              exact hQ false _ _ hM hW.out rep_v
            · skip
              refine ⟨_, rfl, ?_⟩
              apply rep_iterSq (f := (fun y_ : (Int × Int) => (D.tup [(D.v (V.int y_.1)), (D.v (V.int y_.2))]))) (m := x_value) h_value
              intro a44 xs45 _ an46 hp47
              obtain ⟨g49, hM⟩ := hM
              refine lc2_flatCS (K := K) (items := x_value.2) (e := (fun y_ : (Int × Int) => (D.tup [(D.v (V.int y_.1)), (D.v (V.int y_.2))]))) (g := (fun y_ : (Int × Int) => ([y_.1, y_.2] : List Int))) (c := V.int) (fun _ => rfl) hp47 g49 (show 1 < List.length _ from (by decide : 1 < 3)) (show 2 < List.length _ from (by decide : 2 < 3)) (by decide) ?_
              intro p50 n54
              have e51 := Rx.Ext.new (H := H42) (o := (HO.lst ((List.flatMap (fun y_ : (Int × Int) => ([y_.1, y_.2] : List Int)) x_value.2).map V.int))) n54
              have hp52 : upd H42 p50 (HO.lst ((List.flatMap (fun y_ : (Int × Int) => ([y_.1, y_.2] : List Int)) x_value.2).map V.int)) p50 = some (HO.lst ((List.flatMap (fun y_ : (Int × Int) => ([y_.1, y_.2] : List Int)) x_value.2).map V.int)) := upd_same
              generalize upd H42 p50 (HO.lst ((List.flatMap (fun y_ : (Int × Int) => ([y_.1, y_.2] : List Int)) x_value.2).map V.int)) = H55 at e51 hp52 ⊢
              have h53 : rep ms H55 (D.lst ((List.flatMap (fun y_ : (Int × Int) => ([y_.1, y_.2] : List Int)) x_value.2).map (fun y_ : Int => (D.v (V.int y_))))) (.ref p50) := rep_lst_mk hW n54 e51 hp52 repL_intsM
              replace h_value := rep_ext e51 h_value
              replace h43 := rep_ext e51 h43
              replace hW := hW.ret0 e51
              apply rep_sortI (xs := (List.flatMap (fun y_ : (Int × Int) => ([y_.1, y_.2] : List Int)) x_value.2)) h53
              intro ys56 hpm57 hst58
              replace hM := hM ys56 hpm57 hst58
              intro p59 n63
              have e60 := Rx.Ext.new (H := H55) (o := (HO.lst (ys56.map V.int))) n63
              have hp61 : upd H55 p59 (HO.lst (ys56.map V.int)) p59 = some (HO.lst (ys56.map V.int)) := upd_same
              generalize upd H55 p59 (HO.lst (ys56.map V.int)) = H64 at e60 hp61 ⊢
              have h62 : rep ms H64 (D.lst (ys56.map (fun y_ : Int => (D.v (V.int y_))))) (.ref p59) := rep_lst_mk hW n63 e60 hp61 repL_intsM
              replace h_value := rep_ext e60 h_value
              replace h43 := rep_ext e60 h43
              replace h53 := rep_ext e60 h53
              replace hW := hW.ret0 e60
              refine ⟨_, rfl, ?_⟩
              apply rep_lenSq (f := (fun y_ : (Int × Int) => (D.tup [(D.v (V.int y_.1)), (D.v (V.int y_.2))]))) (m := x_value) h_value
              refine ⟨_, _, rfl, rfl, .inl ⟨by decide, by decide⟩, ?_⟩
              obtain ⟨g65, hM⟩ := hM
              refine ⟨_, rfl, g65, ?_⟩
              intro p66 n70
              have e67 := Rx.Ext.new (H := H64) (o := (HO.lst (rgV (0 : Int) ((2 : Int) * (x_value.2.length : Int))))) n70
              have hp68 : upd H64 p66 (HO.lst (rgV (0 : Int) ((2 : Int) * (x_value.2.length : Int)))) p66 = some (HO.lst (rgV (0 : Int) ((2 : Int) * (x_value.2.length : Int)))) := upd_same
              generalize upd H64 p66 (HO.lst (rgV (0 : Int) ((2 : Int) * (x_value.2.length : Int)))) = H71 at e67 hp68 ⊢
              have h69 : rep ms H71 (D.lst ((rangeI (0 : Int) ((2 : Int) * (x_value.2.length : Int))).map (fun y_ : Int => (D.v (V.int y_))))) (.ref p66) := rep_rg_mk hW n70 e67 hp68
              replace h_value := rep_ext e67 h_value
              replace h43 := rep_ext e67 h43
              replace h53 := rep_ext e67 h53
              replace h62 := rep_ext e67 h62
              replace hW := hW.ret0 e67
              obtain ⟨g72, hM⟩ := hM
              apply rep_eqD (d := (D.lst (ys56.map (fun y_ : Int => (D.v (V.int y_)))))) (e := (D.lst ((rangeI (0 : Int) ((2 : Int) * (x_value.2.length : Int))).map (fun y_ : Int => (D.v (V.int y_)))))) h62 h69 g72.1 g72.2.1 g72.2.2.1 g72.2.2.2
              exact hQ (PyData.eqv (pyOf (D.lst (ys56.map (fun y_ : Int => (D.v (V.int y_)))))) (pyOf (D.lst ((rangeI (0 : Int) ((2 : Int) * (x_value.2.length : Int))).map (fun y_ : Int => (D.v (V.int y_))))))) _ _ hM hW.out rep_v
def M_check_rounds (x_rounds : (Bool × List (Bool × List (Int × Int)))) (KM : Unit → Prop) : Prop :=
  (M_is_list x_rounds fun r1 => (if (!r1) = true then False else (if (decide (V.int (x_rounds.2.length : Int) = V.int (0 : Int))) = true then False else (forC (fun (x11 : (Int × (Bool × List (Int × Int)))) (s13 : Unit) (k14 : Unit → Prop) => (M_is_round x11.2 fun r34 => (if (!r34) = true then False else (0 ≤ (0 : Int) ∧ ∃ g40 : Int.toNat (0 : Int) < x_rounds.2.length, ∀ x42, x42 = x_rounds.2[Int.toNat (0 : Int)]'g40 → (if (!(decide (V.int (x11.2.2.length : Int) = V.int (x42.2.length : Int)))) = true then False else (k14 ())))))) ((rangeI 0 (x_rounds.2.length : Int)).zip x_rounds.2) () fun s44 => (if (decide ((60 : Int) < (x_rounds.2.length : Int))) = true then False else (KM ()))))))
def sp_check_rounds (A : Ad) : Sp := fun vs H Q _ => ∃ (ms : List Addr) (v_rounds : V) (x_rounds : (Bool × List (Bool × List (Int × Int)))) (KM : Unit → Prop), vs = [v_rounds] ∧ Wd ms [] [] H H ∧ rep ms H (eSq (fun y_ : (Bool × List (Int × Int)) => (eSq (fun y_ : (Int × Int) => (D.tup [(D.v (V.int y_.1)), (D.v (V.int y_.2))])) y_)) x_rounds) v_rounds ∧ M_check_rounds x_rounds KM ∧ ∀ (r : Unit) (u : V) (H1 : Hp), KM r → Ret [] H H1 → rep ms H1 (D.v V.non) u → Q u H1
set_option maxHeartbeats 16000000 in
theorem ok_check_rounds {P : Program} {w : World} {K : PySem.W.Frag} {mg : Str → Option Value} {base : Heap} {A : Ad} (T : Txt w K mg A) : FnOk P w K mg base CX0 4 A.a_check_rounds A.d_check_rounds ["rounds"] (sp_check_rounds A) := by
  refine T.F_check_rounds.ok sc_check_rounds (fun vs H Q E h => ?_) (fun cdv A_ outer s_ H_0 vs Q E hr h => ?_)
  · obtain ⟨ms, v_rounds, x_rounds, KM, rfl, _⟩ := h
    rfl
  · obtain ⟨ms, v_rounds, x_rounds, KM, rfl, hW, h_rounds, hM, hQ⟩ := h
    unfold M_check_rounds at hM
    refine ⟨_, (pss_cons (ps_if (PW.pt (pw_or (pt_not (pt_val (pe_call (ok_is_list T) (hr.mono (by decide)) (by rfl) T.g_is_list T.F_is_list.kp T.b_is_list .nil pass0 (pa_cons (pv 0) pa_nil)))) (pw_or1 (pt_cmpR op_eq (pe_callB (call_lenK (K := K) rfl) (by rfl) T.z_len PySem.boot_len (pa_cons (pv 0) pa_nil)) pe_int (nomark _))))) (pss_one ps_never) pss_nil) (pss_cons (ps_for PassesOwn.never rfl (pi_enumS (K := K) rfl (by rfl) T.z_enumerate (pa_cons (pv 0) pa_nil)) (pg_tup rfl (pgs_cons (pg_name (i := 1) sc_check_rounds.nd rfl (by first | exact Or.inl rfl | exact Or.inr rfl)) (pgs_cons (pg_name (i := 2) sc_check_rounds.nd rfl (by first | exact Or.inl rfl | exact Or.inr rfl)) pgs_nil))) (pss_one (ps_if (PW.pt (pw_or (pt_not (pt_val (pe_call (ok_is_round T) (hr.mono (by decide)) (by rfl) T.g_is_round T.F_is_round.kp T.b_is_round .nil pass0 (pa_cons (pv 2) pa_nil)))) (pw_or1 (pt_cmpR op_ne (pe_callB (call_lenK (K := K) rfl) (by rfl) T.z_len PySem.boot_len (pa_cons (pv 2) pa_nil)) (pe_callB (call_lenK (K := K) rfl) (by rfl) T.z_len PySem.boot_len (pa_cons (pe_ix (ix_seqK (K := K) rfl) (pv 0) pe_int (fun _ _ => rfl)) pa_nil)) (nomark _))))) (pss_one ps_never) pss_nil))) (pss_one (ps_if (pt_cmpR op_gt (pe_callB (call_lenK (K := K) rfl) (by rfl) T.z_len PySem.boot_len (pa_cons (pv 0) pa_nil)) (C8.pe_gc (by rfl) T.c_MOST_ROUNDS) (nomark _)) (pss_one ps_never) pss_nil)))), ?_⟩
    refine ⟨_, rfl, ?_⟩
    refine ⟨ms, _, x_rounds, _, rfl, hW.enter0, h_rounds, hM, fun r1 u4 H5 hM e3 h2 => ?_⟩
    replace h_rounds := rep_ext e3 h_rounds
    replace hW := hW.ret0 e3
    obtain rfl := of_v h2
    refine ⟨_, rfl, ?_⟩
    refine ite3 hM (fun hM => ?_) (fun hM => ?_)
    · skip
      refine iteT ?_
      exact hM
    · skip
      refine ⟨_, rfl, ?_⟩
      apply rep_lenSq (f := (fun y_ : (Bool × List (Int × Int)) => (eSq (fun y_ : (Int × Int) => (D.tup [(D.v (V.int y_.1)), (D.v (V.int y_.2))])) y_))) (m := x_rounds) h_rounds
      refine ⟨rfl, ?_⟩
      refine ⟨_, rfl, ?_⟩
      refine ite3 hM (fun hM => ?_) (fun hM => ?_)
      · skip
        exact hM
      · skip
        refine ⟨_, rfl, ?_⟩
        apply rep_iterES (f := (fun y_ : (Bool × List (Int × Int)) => (eSq (fun y_ : (Int × Int) => (D.tup [(D.v (V.int y_.1)), (D.v (V.int y_.2))])) y_))) (m := x_rounds) h_rounds
        intro a6 xs7 _ an8 hp9
        refine for_pairG (S := Unit) (e := fun i_ => .v (.int i_)) (e2 := (fun y_ : (Bool × List (Int × Int)) => (eSq (fun y_ : (Int × Int) => (D.tup [(D.v (V.int y_.1)), (D.v (V.int y_.2))])) y_))) (ms := ms) (fun (s : Unit) σ_ h_ => ∃ (w_0 : Option V), ∃ (w_1 : Option V), σ_ = [some v_rounds, w_0, w_1] ∧ Wd ms [] [] H_0 h_ ∧ Keep ms H5 h_) () an8 (fun _ _ _ z_ => by obtain ⟨_, _, _, _, q_⟩ := z_; exact q_) (fun _ _ _ z_ => by obtain ⟨_, _, _, w_, _⟩ := z_; exact w_.tr) hM ⟨_, _, rfl, hW, Keep.refl⟩ ?_ ?_
        · skip
          rintro x11 u12 s13 k14 _ H23 H22 ⟨w19, w20, rfl, hW, hk15⟩ ex21 h16 hM Nx17 hN18
          replace h_rounds := rep_keep hk15 h_rounds
          replace h_rounds := rep_ext ex21 h_rounds
          replace hk15 := keep_ext ex21 hk15
          replace hW := hW.ret0 ex21
          apply rep_gtup h16 rfl
          intro vs24 hv25
          obtain ⟨u26, us27, rfl, h28, hv29⟩ := repL_uncons hv25
          obtain rfl := of_v h28
          obtain ⟨u30, us31, rfl, h32, hv33⟩ := repL_uncons hv29
          obtain rfl := repL_empty hv33
          refine ⟨_, _, rfl, ?_⟩
          refine ⟨_, _, rfl, ?_⟩
          refine ⟨rfl, ?_⟩
          refine ⟨_, rfl, ?_⟩
          refine ⟨ms, _, x11.2, _, rfl, hW.enter0, h32, hM, fun r34 u37 H38 hM e36 h35 => ?_⟩
          replace h_rounds := rep_ext e36 h_rounds
          replace hk15 := keep_ext e36 hk15
          replace h16 := rep_ext e36 h16
          replace h32 := rep_ext e36 h32
          replace hW := hW.ret0 e36
          obtain rfl := of_v h35
          refine ⟨_, rfl, ?_⟩
          refine ite3 hM (fun hM => ?_) (fun hM => ?_)
          · skip
            refine iteT ?_
            exact hM
          · skip
            refine ⟨_, rfl, ?_⟩
            apply rep_lenSq (f := (fun y_ : (Int × Int) => (D.tup [(D.v (V.int y_.1)), (D.v (V.int y_.2))]))) (m := x11.2) h32
            refine ⟨_, rfl, ?_⟩
            obtain ⟨g39, g40, hM⟩ := hM
            apply rep_ixSq (f := (fun y_ : (Bool × List (Int × Int)) => (eSq (fun y_ : (Int × Int) => (D.tup [(D.v (V.int y_.1)), (D.v (V.int y_.2))])) y_))) (m := x_rounds) h_rounds g39 g40
            intro u43 h41
            obtain ⟨x42, x42e⟩ : ∃ x_, x_ = x_rounds.2[Int.toNat (0 : Int)]'g40 := ⟨_, rfl⟩
            rw [← x42e] at h41
            replace hM := hM x42 x42e
            apply rep_lenSq (f := (fun y_ : (Int × Int) => (D.tup [(D.v (V.int y_.1)), (D.v (V.int y_.2))]))) (m := x42) h41
            refine ⟨rfl, ?_⟩
            refine ⟨_, rfl, ?_⟩
            refine ite3 hM (fun hM => ?_) (fun hM => ?_)
            · skip
              exact hM
            · skip
              exact hN18 () _ _ hM ⟨_, _, rfl, hW, hk15⟩
        · skip
          rintro s44 _ H48 hM ⟨w46, w47, rfl, hW, hk45⟩
          replace h_rounds := rep_keep hk45 h_rounds
          refine ⟨_, rfl, ?_⟩
          apply rep_lenSq (f := (fun y_ : (Bool × List (Int × Int)) => (eSq (fun y_ : (Int × Int) => (D.tup [(D.v (V.int y_.1)), (D.v (V.int y_.2))])) y_))) (m := x_rounds) h_rounds
          refine ⟨_, _, rfl, rfl, ?_⟩
          refine ⟨_, rfl, ?_⟩
          refine ite3 hM (fun hM => ?_) (fun hM => ?_)
          · skip
            exact hM
          · skip
            exact hQ () _ _ hM hW.out rep_v
def M_Table_init (x_rounds : (Bool × List (Bool × List (Int × Int)))) (KM : (List (List (Int × Int))) → Prop) : Prop :=
  (M_check_rounds x_rounds fun r1 => (x_rounds.2.length < 100000 ∧ mapC (fun (x25 : (Bool × List (Int × Int))) (k18 : (List (Int × Int)) → Prop) => (x25.2.length < 100000 ∧ mapC (fun (x50 : (Int × Int)) (k43 : (Int × Int) → Prop) => (k43 (x50.1, x50.2))) x25.2 [] fun ys80 => (∀ ys84 : List (Int × Int), ys84.Perm ys80 → ys84.Pairwise lePI → (k18 ys84)))) x_rounds.2 [] fun ys100 => (KM ys100)))
def sp_Table_init (A : Ad) : Sp := fun vs H Q _ => ∃ (ms : List Addr) (p_ dx_ : Addr) (v_rounds : V) (x_rounds : (Bool × List (Bool × List (Int × Int)))) (KM : (List (List (Int × Int))) → Prop), vs = [.ref p_, v_rounds] ∧ Wd ms [] [] H H ∧ p_ ∈ ms ∧ H p_ = some (.ins A.c_Table dx_ []) ∧ rep ms H (eSq (fun y_ : (Bool × List (Int × Int)) => (eSq (fun y_ : (Int × Int) => (D.tup [(D.v (V.int y_.1)), (D.v (V.int y_.2))])) y_)) x_rounds) v_rounds ∧ M_Table_init x_rounds KM ∧ ∀ (r : (List (List (Int × Int)))) (us : List V) (H1 : Hp), KM r → KpI p_ H H1 → H1 p_ = some (.ins A.c_Table dx_ (List.zip ns_Table us)) → ns_Table.length = us.length → repL ms H1 [(D.lst (r.map (fun y_ : (List (Int × Int)) => (D.lst (y_.map (fun y_ : (Int × Int) => (D.tup [(D.v (V.int y_.1)), (D.v (V.int y_.2))])))))))] us → Q .non H1
set_option maxHeartbeats 16000000 in
theorem ok_Table_init {P : Program} {w : World} {K : PySem.W.Frag} {mg : Str → Option Value} {base : Heap} {A : Ad} (T : Txt w K mg A) : FnOk P w K mg base CX0 5 A.a_Table_init A.d_Table_init ["self", "rounds"] (sp_Table_init A) := by
  refine T.F_Table_init.ok sc_Table_init (fun vs H Q E h => ?_) (fun cdv A_ outer s_ H_0 vs Q E hr h => ?_)
  · obtain ⟨ms, p_, dx_, v_rounds, x_rounds, KM, rfl, _⟩ := h
    rfl
  · obtain ⟨ms, p_, dx_, v_rounds, x_rounds, KM, rfl, hW, pm_, hp, h_rounds, hM, hQ⟩ := h
    unfold M_Table_init at hM
    have hK := ki_refl (p := p_) (H := H_0)
    replace hp : H_0 p_ = some (.ins A.c_Table dx_ (List.zip ([] : List Str) ([] : List V))) := hp
    refine ⟨_, (pss_cons (ps_expr (pe_call (ok_check_rounds T) (hr.mono (by decide)) (by rfl) T.g_check_rounds T.F_check_rounds.kp T.b_check_rounds .nil pass0 (pa_cons (pv 1) pa_nil))) (pss_one (ps_fld (pv 0) (pe_lc (own := [("meetings", 2)]) (g := gName 2) rfl sc_Table_init.nd (pi_seqK (K := K) rfl (pv 1)) (blkOk_by (N := ["self", "rounds", "meetings", "home", "away"]) (sc := defScope s_Table_init) (by decide +kernel)) (fun _ _ _ _ _ => pg_name (i := 2) sc_Table_init.nd rfl (by first | exact Or.inl rfl | exact Or.inr rfl)) (fun _ _ _ _ _ => pts_nil) (fun _ _ _ _ _ => (pe_callB (cr_sortedPK (K := K) rfl) (by rfl) T.z_sorted (by decide +kernel) (pa_cons (pe_lc (own := [("home", 3), ("away", 4)]) (g := (gTup K 2 (gCons (gName 3) (gCons (gName 4) gNil)))) rfl sc_Table_init.nd (pi_seqK (K := K) rfl (pv 2)) (blkOk_rel (N := ["self", "rounds", "meetings", "home", "away"]) rfl (by kernel_rfl)) (fun _ _ _ _ _ => (pg_tup rfl (pgs_cons (pg_name (i := 3) sc_Table_init.nd rfl (by first | exact Or.inl rfl | exact Or.inr rfl)) (pgs_cons (pg_name (i := 4) sc_Table_init.nd rfl (by first | exact Or.inl rfl | exact Or.inr rfl)) pgs_nil)))) (fun _ _ _ _ _ => pts_nil) (fun _ _ _ _ _ => (pe_tup (pa_cons (pv 3) (pa_cons (pv 4) pa_nil))))) pa_nil)))) rfl))), ?_⟩
    refine ⟨_, rfl, ?_⟩
    refine ⟨ms, _, x_rounds, _, rfl, hW.enter0, h_rounds, hM, fun r1 u4 H5 hM e3 h2 => ?_⟩
    replace h_rounds := rep_ext e3 h_rounds
    replace hp := Rx.Ext.keep e3 hp
    replace hW := hW.ret0 e3
    obtain rfl := of_v h2
    refine ⟨_, rfl, ?_⟩
    apply rep_iterSq (f := (fun y_ : (Bool × List (Int × Int)) => (eSq (fun y_ : (Int × Int) => (D.tup [(D.v (V.int y_.1)), (D.v (V.int y_.2))])) y_))) (m := x_rounds) h_rounds
    intro a6 J11 _ P12 PL13
    refine fun L14 nl15 => ?_
    have nm29 := nm_new hW nl15
    refine lc_seqG (L := L14) (fun n_ ys_ h_ => Wd (L14 :: ms) [] [] H_0 h_ ∧ Keep (L14 :: ms) H5 h_ ∧ MutO (L14 :: ms) [] H_0 h_ L14 (D.lst (ys_.map (fun y_ : (List (Int × Int)) => (D.lst (y_.map (fun y_ : (Int × Int) => (D.tup [(D.v (V.int y_.1)), (D.v (V.int y_.2))]))))))) ∧ ys_.length ≤ n_ ∧ h_ p_ = some (.ins A.c_Table dx_ (List.zip ([] : List Str) ([] : List V)))) (items := x_rounds.2) (e := (fun y_ : (Bool × List (Int × Int)) => (eSq (fun y_ : (Int × Int) => (D.tup [(D.v (V.int y_.1)), (D.v (V.int y_.2))])) y_))) (PL13 _ nl15) (fun _ _ _ q_ => q_.2.1) hM ⟨wd_cell hW nl15, keep_cell nl15 Keep.refl, mo_newL (ds := []) hW nl15 repL_nil, Nat.le_refl _, Rx.Ext.keep (Rx.Ext.new nl15) hp⟩ ?_ ?_
    · skip
      rintro x25 u26 n16 ys17 k18 H30 hn ⟨hW, hk19, mu20, ln21, hp⟩ h27 hM Nx24 hN22
      replace h_rounds := rep_keep hk19 (rep_new nl15 h_rounds)
      refine ⟨rfl, ?_⟩
      refine tyes_of ?_
      refine ⟨_, rfl, ?_⟩
      apply rep_iterSq (f := (fun y_ : (Int × Int) => (D.tup [(D.v (V.int y_.1)), (D.v (V.int y_.2))]))) (m := x25) h27
      intro a31 J36 _ P37 PL38
      refine fun L39 nl40 => ?_
      have nm54 := nm_new hW nl40
      have kn55 := keep_none (w := hW) nl40 hk19
      have ne56 := mo_ne nl40 mu20
      refine lc_seqG (L := L39) (fun n_ ys_ h_ => Wd (L39 :: (L14 :: ms)) [] [] H_0 h_ ∧ Keep (L39 :: (L14 :: ms)) H30 h_ ∧ MutO (L39 :: (L14 :: ms)) [] H_0 h_ L39 (D.lst (ys_.map (fun y_ : (Int × Int) => (D.tup [(D.v (V.int y_.1)), (D.v (V.int y_.2))])))) ∧ ys_.length ≤ n_ ∧ MutO (L39 :: (L14 :: ms)) [] H_0 h_ L14 (D.lst (ys17.map (fun y_ : (List (Int × Int)) => (D.lst (y_.map (fun y_ : (Int × Int) => (D.tup [(D.v (V.int y_.1)), (D.v (V.int y_.2))]))))))) ∧ h_ p_ = some (.ins A.c_Table dx_ (List.zip ([] : List Str) ([] : List V)))) (items := x25.2) (e := (fun y_ : (Int × Int) => (D.tup [(D.v (V.int y_.1)), (D.v (V.int y_.2))]))) (PL38 _ nl40) (fun _ _ _ q_ => q_.2.1) hM ⟨wd_cell hW nl40, keep_cell nl40 Keep.refl, mo_newL (ds := []) hW nl40 repL_nil, Nat.le_refl _, mo_cell nl40 mu20, Rx.Ext.keep (Rx.Ext.new nl40) hp⟩ ?_ ?_
      · skip
        clear mu20
        rintro x50 u51 n41 ys42 k43 H57 hn ⟨hW, hk44, mu45, ln46, mu58, hp⟩ h52 hM Nx49 hN47
        replace h_rounds := rep_keep hk44 (rep_new nl40 h_rounds)
        replace hk19 := Keep.trans (Keep.new hk19) hk44
        replace h27 := rep_keep hk44 (rep_new nl40 h27)
        apply rep_gtup h52 rfl
        intro vs59 hv60
        obtain ⟨u61, us62, rfl, h63, hv64⟩ := repL_uncons hv60
        obtain rfl := of_v h63
        obtain ⟨u65, us66, rfl, h67, hv68⟩ := repL_uncons hv64
        obtain rfl := of_v h67
        obtain rfl := repL_empty hv68
        refine ⟨_, _, rfl, ?_⟩
        refine ⟨_, _, rfl, ?_⟩
        refine ⟨rfl, ?_⟩
        refine ⟨rfl, ?_⟩
        refine tyes_of ?_
        refine ⟨_, rfl, ?_⟩
        refine ⟨_, rfl, ?_⟩
        refine ⟨(by show 2 ≤ sizeLine; decide), ?_⟩
        intro p69 n73
        have e70 := Rx.Ext.new (H := H57) (o := (HO.tup [V.int x50.1, V.int x50.2])) n73
        have hp71 : upd H57 p69 (HO.tup [V.int x50.1, V.int x50.2]) p69 = some (HO.tup [V.int x50.1, V.int x50.2]) := upd_same
        generalize upd H57 p69 (HO.tup [V.int x50.1, V.int x50.2]) = H74 at e70 hp71 ⊢
        have h72 : rep (L39 :: (L14 :: ms)) H74 (D.tup [(D.v (V.int x50.1)), (D.v (V.int x50.2))]) (.ref p69) := rep_tup_mk hW n73 e70 hp71 (repL_cons rep_v (repL_cons rep_v repL_nil))
        replace h_rounds := rep_ext e70 h_rounds
        replace hk19 := keep_ext e70 hk19
        replace h27 := rep_ext e70 h27
        replace hk44 := keep_ext e70 hk44
        replace h52 := rep_ext e70 h52
        replace mu58 := mo_ext e70 mu58
        replace mu45 := mo_ext e70 mu45
        replace hp := Rx.Ext.keep e70 hp
        replace hW := hW.ret0 e70
        refine mo_end mu45 hn (by rw [List.length_map]; exact ln46) fun vs75 hr76 => ?_
        have mk78 := mo_setL mu45 (repL_snoc (e := (fun y_ : (Int × Int) => (D.tup [(D.v (V.int y_.1)), (D.v (V.int y_.2))]))) (xs := ys42) (y := (x50.1, x50.2)) hr76 h72)
        replace mu58 := mo_put (o := .lst (vs75 ++ [(V.ref p69)])) mu45.im ne56 mu58
        replace h_rounds := rep_put (o := .lst (vs75 ++ [(V.ref p69)])) mu45.im h_rounds
        replace hk19 := keep_put (o := .lst (vs75 ++ [(V.ref p69)])) mu45.im hk19
        replace h27 := rep_put (o := .lst (vs75 ++ [(V.ref p69)])) mu45.im h27
        replace hk44 := keep_put (o := .lst (vs75 ++ [(V.ref p69)])) mu45.im hk44
        replace h52 := rep_put (o := .lst (vs75 ++ [(V.ref p69)])) mu45.im h52
        replace h72 := rep_put (o := .lst (vs75 ++ [(V.ref p69)])) mu45.im h72
        replace hp := at_put (o := .lst (vs75 ++ [(V.ref p69)])) hp mu45
        replace hW := wd_put (o := .lst (vs75 ++ [(V.ref p69)])) hW mu45
        replace mu45 := mk78
        generalize upd H74 L39 (.lst (vs75 ++ [(V.ref p69)])) = H79 at *
        replace mu45 : MutO (L39 :: (L14 :: ms)) [] H_0 H79 L39 (D.lst ((ys42 ++ [(x50.1, x50.2)]).map (fun y_ : (Int × Int) => (D.tup [(D.v (V.int y_.1)), (D.v (V.int y_.2))])))) := mu45
        clear mk78
        exact hN47 (x50.1, x50.2) _ hM ⟨hW, hk44, mu45, by rw [List.length_append]; exact Nat.add_le_add_right ln46 1, mu58, hp⟩
      · skip
        clear mu20
        rintro n41 ys80 H81 hM ⟨hW, hk44, mu45, ln46, mu82, hp⟩
        replace h_rounds := rep_keep hk44 (rep_new nl40 h_rounds)
        replace hk19 := Keep.trans (Keep.new hk19) hk44
        replace h27 := rep_keep hk44 (rep_new nl40 h27)
        clear hk44 ln46
        have h83 := mo_rep_dr dr_here nm54 mu45
        replace hW := wd_dr dr_here mu45.hp hW
        replace h_rounds := rep_dr dr_here h_rounds
        replace hk19 := keep_dr dr_here kn55 hk19
        replace h27 := rep_dr dr_here h27
        replace mu82 := mo_dr dr_here ne56 mu82
        clear mu45
        apply rep_sortP (xs := ys80) h83
        intro ys84 zs87 hpm85 hst86 hr88
        replace hM := hM ys84 hpm85 hst86
        intro p89 n93
        have e90 := Rx.Ext.new (H := H81) (o := (HO.lst (zs87))) n93
        have hp91 : upd H81 p89 (HO.lst (zs87)) p89 = some (HO.lst (zs87)) := upd_same
        generalize upd H81 p89 (HO.lst (zs87)) = H94 at e90 hp91 ⊢
        have h92 : rep (L14 :: ms) H94 (D.lst (ys84.map (fun y_ : (Int × Int) => (D.tup [(D.v (V.int y_.1)), (D.v (V.int y_.2))])))) (.ref p89) := rep_lst_mk hW n93 e90 hp91 hr88
        replace h_rounds := rep_ext e90 h_rounds
        replace hk19 := keep_ext e90 hk19
        replace h27 := rep_ext e90 h27
        replace h83 := rep_ext e90 h83
        replace mu82 := mo_ext e90 mu82
        replace hp := Rx.Ext.keep e90 hp
        replace hW := hW.ret0 e90
        refine mo_end mu82 hn (by rw [List.length_map]; exact ln21) fun vs95 hr96 => ?_
        have mk98 := mo_setL mu82 (repL_snoc (e := (fun y_ : (List (Int × Int)) => (D.lst (y_.map (fun y_ : (Int × Int) => (D.tup [(D.v (V.int y_.1)), (D.v (V.int y_.2))])))))) (xs := ys17) (y := ys84) hr96 h92)
        replace h_rounds := rep_put (o := .lst (vs95 ++ [(V.ref p89)])) mu82.im h_rounds
        replace hk19 := keep_put (o := .lst (vs95 ++ [(V.ref p89)])) mu82.im hk19
        replace h27 := rep_put (o := .lst (vs95 ++ [(V.ref p89)])) mu82.im h27
        replace h83 := rep_put (o := .lst (vs95 ++ [(V.ref p89)])) mu82.im h83
        replace h92 := rep_put (o := .lst (vs95 ++ [(V.ref p89)])) mu82.im h92
        replace hp := at_put (o := .lst (vs95 ++ [(V.ref p89)])) hp mu82
        replace hW := wd_put (o := .lst (vs95 ++ [(V.ref p89)])) hW mu82
        replace mu82 := mk98
        generalize upd H94 L14 (.lst (vs95 ++ [(V.ref p89)])) = H99 at *
        replace mu82 : MutO (L14 :: ms) [] H_0 H99 L14 (D.lst ((ys17 ++ [ys84]).map (fun y_ : (List (Int × Int)) => (D.lst (y_.map (fun y_ : (Int × Int) => (D.tup [(D.v (V.int y_.1)), (D.v (V.int y_.2))]))))))) := mu82
        clear mk98
        exact hN22 ys84 _ hM ⟨hW, hk19, mu82, by rw [List.length_append]; exact Nat.add_le_add_right ln21 1, hp⟩
    · skip
      rintro n16 ys100 H101 hM ⟨hW, hk19, mu20, ln21, hp⟩
      replace h_rounds := rep_keep hk19 (rep_new nl15 h_rounds)
      clear hk19 ln21
      have h102 := mo_rep_dr dr_here nm29 mu20
      replace hW := wd_dr dr_here mu20.hp hW
      replace h_rounds := rep_dr dr_here h_rounds
      clear mu20
      refine ⟨_, rfl, p_, A.c_Table, dx_, _, rfl, hp, T.cl_Table, T.na_Table__rounds, (by first | decide | simp), ?_⟩
      have z103 : putF ("_rounds" : Str) ((V.ref L14)) (List.zip ([] : List Str) ([] : List V)) = List.zip [("_rounds" : Str)] [(V.ref L14)] := putF_zip (ns := ([] : List Str)) (us := ([] : List V)) rfl (nin_of (by decide +kernel))
      replace h_rounds := rep_put (o := .ins A.c_Table dx_ (putF ("_rounds" : Str) ((V.ref L14)) (List.zip ([] : List Str) ([] : List V)))) pm_ h_rounds
      replace h102 := rep_put (o := .ins A.c_Table dx_ (putF ("_rounds" : Str) ((V.ref L14)) (List.zip ([] : List Str) ([] : List V)))) pm_ h102
      replace hK := ki_put (o := .ins A.c_Table dx_ (putF ("_rounds" : Str) ((V.ref L14)) (List.zip ([] : List Str) ([] : List V)))) hK hW
      replace hW := wd_at (p := p_) (o := .ins A.c_Table dx_ (putF ("_rounds" : Str) ((V.ref L14)) (List.zip ([] : List Str) ([] : List V)))) hW
      replace hp : upd H101 p_ (.ins A.c_Table dx_ (putF ("_rounds" : Str) ((V.ref L14)) (List.zip ([] : List Str) ([] : List V)))) p_ = some (.ins A.c_Table dx_ (putF ("_rounds" : Str) ((V.ref L14)) (List.zip ([] : List Str) ([] : List V)))) := upd_same
      generalize upd H101 p_ (.ins A.c_Table dx_ (putF ("_rounds" : Str) ((V.ref L14)) (List.zip ([] : List Str) ([] : List V)))) = H104 at *
      rw [z103] at hp
      exact hQ ys100 [(V.ref L14)] _ hM (ki_wd hK hW) hp rfl (repL_cons h102 repL_nil)
theorem make_Table_init {ms : List Addr} {ps : List PEn} {cs : List (Addr × List V)} {H0 H : Hp} {A : Ad} {v_rounds : V} {x_rounds : (Bool × List (Bool × List (Int × Int)))} {KM : (List (List (Int × Int))) → Prop} {Q : Addr → Hp → Prop} {E : XK} (hW : Wd ms ps cs H0 H) (h_rounds : rep ms H (eSq (fun y_ : (Bool × List (Int × Int)) => (eSq (fun y_ : (Int × Int) => (D.tup [(D.v (V.int y_.1)), (D.v (V.int y_.2))])) y_)) x_rounds) v_rounds) (hM : M_Table_init x_rounds KM)
    (k : ∀ (x : Addr) (H1 : Hp) (r : (List (List (Int × Int)))), KM r → Rx.Ext H H1 → rep ms H1 (eTable A r) (.ref x) → Q x H1) :
    ∀ x dx, H x = none → H dx = none → dx ≠ x → sp_Table_init A (.ref x :: ([v_rounds] ++ [])) (upd (upd H dx (.own x)) x (.ins A.c_Table dx [])) (fun v H2 => v = .non ∧ Q x H2) E := by
  intro x dx nx ndx ne
  exact ⟨x :: ms, x, dx, v_rounds, x_rounds, KM, rfl, wd_new hW nx ndx, List.mem_cons_self, upd_same, mem_new nx h_rounds ndx, hM, fun r us H1 hr hK hp hl hu => ⟨rfl, k x H1 r hr (ext_new hK nx ndx) (rep_insW hW nx hp hl hu)⟩⟩
def M_counts (x_days_here : (List (List (Int × Int)))) (x_many_here : Int) (KM : (List (List Key × Int)) → Prop) : Prop :=
  (forC (fun (x6 : Int) (s8 : (List (List Key × Int))) (k9 : ((List (List Key × Int))) → Prop) => ((rangeI (x6 + (1 : Int)) x_many_here).length < 100000 ∧ mapC (fun (x28 : Int) (k21 : ((Int × Int) × Int) → Prop) => (k21 ((x6, x28), (0 : Int)))) (rangeI (x6 + (1 : Int)) x_many_here) [] fun ys54 => (s8.length + ys54.length ≤ 16777216 ∧ (k9 ((List.foldl (fun m_ y_ => putD m_ ((fun y_ : ((Int × Int) × Int) => ([Sum.inl y_.1.1, Sum.inl y_.1.2] : List L2.Key)) y_) ((fun y_ : ((Int × Int) × Int) => y_.2) y_)) s8 ys54)))))) (rangeI (0 : Int) x_many_here) (([] : (List (List Key × Int)))) fun s64 => (forC (fun (x74 : (List (Int × Int))) (s76 : (List (List Key × Int))) (k77 : ((List (List Key × Int))) → Prop) => (forC (fun (x93 : (Int × Int)) (s95 : (List (List Key × Int))) (k96 : ((List (List Key × Int))) → Prop) => (∃ y122 : Int, Rx.getD s95 ([Sum.inl (if x93.2 < x93.1 then x93.2 else x93.1), Sum.inl (if x93.2 > x93.1 then x93.2 else x93.1)] : List Key) = some y122 ∧ (s95.length < 16777216 ∧ (k96 ((putD s95 ([Sum.inl (if x93.2 < x93.1 then x93.2 else x93.1), Sum.inl (if x93.2 > x93.1 then x93.2 else x93.1)] : List Key) (y122 + (1 : Int)))))))) x74 (s76) fun s130 => (k77 (s130)))) x_days_here (s64) fun s137 => (KM s137)))
def sp_counts (A : Ad) : Sp := fun vs H Q _ => ∃ (ms : List Addr) (v_days_here : V) (x_days_here : (List (List (Int × Int)))) (x_many_here : Int) (KM : (List (List Key × Int)) → Prop), vs = [v_days_here, V.int x_many_here] ∧ Wd ms [] [] H H ∧ rep ms H (D.lst (x_days_here.map (fun y_ : (List (Int × Int)) => (D.lst (y_.map (fun y_ : (Int × Int) => (D.tup [(D.v (V.int y_.1)), (D.v (V.int y_.2))]))))))) v_days_here ∧ M_counts x_days_here x_many_here KM ∧ ∀ (r : (List (List Key × Int))) (u : V) (H1 : Hp), KM r → Ret [] H H1 → rep ms H1 (D.dcT (r.map (·.1)) (r.map fun y_ : List Key × Int => (D.v (V.int y_.2)))) u → Q u H1
set_option maxHeartbeats 16000000 in
theorem ok_counts {P : Program} {w : World} {K : PySem.W.Frag} {mg : Str → Option Value} {base : Heap} {A : Ad} (T : Txt w K mg A) : FnOk P w K mg base CX0 1 A.a_counts A.d_counts ["_law_days_here", "_law_many_here"] (sp_counts A) := by
  refine T.F_counts.ok sc_counts (fun vs H Q E h => ?_) (fun cdv A_ outer s_ H_0 vs Q E hr h => ?_)
  · obtain ⟨ms, v_days_here, x_days_here, x_many_here, KM, rfl, _⟩ := h
    rfl
  · obtain ⟨ms, v_days_here, x_days_here, x_many_here, KM, rfl, hW, h_days_here, hM, hQ⟩ := h
    unfold M_counts at hM
    refine ⟨_, (pss_cons (ps_set (i := 2) sc_counts.nd rfl (by first | exact Or.inl rfl | exact Or.inr rfl) pe_dnewT) (pss_cons (ps_for PassesOwn.never rfl (pi_rangeW1 (by rfl) T.z_range (pa_cons (pv 1) pa_nil)) (pg_name (i := 3) sc_counts.nd rfl (by first | exact Or.inl rfl | exact Or.inr rfl)) (pss_one (ps_expr (pe_bmK (K := K) rfl PySem.F.plainAttrs_dict PySem.F.slot_dict_update PySem.F.type_dict_update (mt_updateT rfl (hu_of hr)) (pv 2) (pa_cons (pe_lc (own := [("_law_mate", 8)]) (g := gName 8) rfl sc_counts.nd (pi_rangeW2 (by rfl) T.z_range (pa_cons (pe_op op_add (pv 3) pe_int) (pa_cons (pv 1) pa_nil))) (blkOk_by (N := ["_law_days_here", "_law_many_here", "_law_found", "_law_who", "_law_meets", "_law_home", "_law_away", "_law_pair", "_law_mate"]) (sc := defScope s_counts) (by decide +kernel)) (fun _ _ _ _ _ => pg_name (i := 8) sc_counts.nd rfl (by first | exact Or.inl rfl | exact Or.inr rfl)) (fun _ _ _ _ _ => pts_nil) (fun _ _ _ _ _ => (pe_tup (pa_cons (pe_tup (pa_cons (pv 3) (pa_cons (pv 8) pa_nil))) (pa_cons pe_int pa_nil))))) pa_nil))))) (pss_cons (ps_for PassesOwn.never rfl (pi_list (pv 0)) (pg_name (i := 4) sc_counts.nd rfl (by first | exact Or.inl rfl | exact Or.inr rfl)) (pss_one (ps_for PassesOwn.never rfl (pi_list (pv 4)) (pg_tup rfl (pgs_cons (pg_name (i := 5) sc_counts.nd rfl (by first | exact Or.inl rfl | exact Or.inr rfl)) (pgs_cons (pg_name (i := 6) sc_counts.nd rfl (by first | exact Or.inl rfl | exact Or.inr rfl)) pgs_nil))) (pss_cons (ps_set (i := 7) sc_counts.nd rfl (by first | exact Or.inl rfl | exact Or.inr rfl) (pe_tup (pa_cons (pe_callB (call_min2 rfl) (by rfl) T.z_min (by decide +kernel) (pa_cons (pv 5) (pa_cons (pv 6) pa_nil))) (pa_cons (pe_callB (call_max2 rfl) (by rfl) T.z_max (by decide +kernel) (pa_cons (pv 5) (pa_cons (pv 6) pa_nil))) pa_nil)))) (pss_one (ps_asg (pe_op op_add (pe_dget (hu_of hr) (pv 2) (pv 7) (fun _ _ => rfl)) pe_int) (pg_sub (pv 2) (pv 7) (set_dict (hu_of hr))))))))) (pss_one (ps_ret (pv 2)))))), ?_⟩
    intro L1 nl2
    have nm3 := nm_new hW nl2
    have mu4 := mo_nilT (e := (fun y_ : Int => (D.v (V.int y_)))) hW nl2
    replace h_days_here := rep_cell (o := .dT []) nl2 h_days_here
    replace hW := wd_cell (o := .dT []) hW nl2
    generalize upd H_0 L1 (.dT []) = H5 at *
    replace mu4 : MutO (L1 :: ms) [] H_0 H5 L1 (D.dcT (([] : (List (List Key × Int))).map (·.1)) (([] : (List (List Key × Int))).map fun y_ : List Key × Int => (D.v (V.int y_.2)))) := mu4
    refine ⟨_, rfl, ?_⟩
    refine ⟨_, rfl, ?_⟩
    refine for_rangeG (S := (List (List Key × Int))) (lo := (0 : Int)) (hi := x_many_here) (N := Int.toNat x_many_here) (fun (s : (List (List Key × Int))) σ_ h_ => ∃ (w_0 : Option V), σ_ = [some v_days_here, some (V.int x_many_here), some (V.ref L1), w_0, none, none, none, none, none] ∧ Wd (L1 :: ms) [] [] H_0 h_ ∧ Keep (L1 :: ms) H5 h_ ∧ MutO (L1 :: ms) [] H_0 h_ L1 (D.dcT (s.map (·.1)) (s.map fun y_ : List Key × Int => (D.v (V.int y_.2))))) (([] : (List (List Key × Int)))) (by simp) hM ⟨_, rfl, hW, Keep.refl, mu4⟩ ?_ ?_
    · skip
      clear mu4
      rintro x6 s8 k9 _ H16 ⟨w14, rfl, hW, hk10, mu15⟩ hM Nx12 hN13
      replace h_days_here := rep_keep hk10 h_days_here
      refine ⟨_, rfl, ?_⟩
      refine ⟨mo_tyT mu15, ?_⟩
      refine ⟨_, rfl, ?_⟩
      refine ⟨_, _, rfl, rfl, ?_⟩
      refine ⟨_, rfl, ?_⟩
      refine ⟨_, _, rfl, ?_⟩
      refine fun L17 nl18 => ?_
      have nm32 := nm_new hW nl18
      have kn33 := keep_none (w := hW) nl18 hk10
      have ne34 := mo_ne nl18 mu15
      refine lc_rangeG (L := L17) (fun n_ ys_ h_ => Wd (L17 :: (L1 :: ms)) [] [] H_0 h_ ∧ Keep (L17 :: (L1 :: ms)) H16 h_ ∧ MutO (L17 :: (L1 :: ms)) [] H_0 h_ L17 (D.lst (ys_.map (fun y_ : ((Int × Int) × Int) => (D.tup [(D.tup [(D.v (V.int y_.1.1)), (D.v (V.int y_.1.2))]), (D.v (V.int y_.2))])))) ∧ ys_.length ≤ n_ ∧ MutO (L17 :: (L1 :: ms)) [] H_0 h_ L1 (D.dcT (s8.map (·.1)) (s8.map fun y_ : List Key × Int => (D.v (V.int y_.2))))) (lo := (x6 + (1 : Int))) (hi := x_many_here) (N := Int.toNat (x_many_here - (x6 + (1 : Int)))) (by simp) hM ⟨wd_cell hW nl18, keep_cell nl18 Keep.refl, mo_newL (ds := []) hW nl18 repL_nil, Nat.le_refl _, mo_cell nl18 mu15⟩ ?_ ?_
      · skip
        clear mu15
        rintro x28  n19 ys20 k21 H35 hn ⟨hW, hk22, mu23, ln24, mu36⟩ hM Nx27 hN25
        replace h_days_here := rep_keep hk22 (rep_new nl18 h_days_here)
        replace hk10 := Keep.trans (Keep.new hk10) hk22
        refine ⟨rfl, ?_⟩
        refine tyes_of ?_
        refine ⟨_, rfl, ?_⟩
        refine ⟨_, rfl, ?_⟩
        refine ⟨(by show 2 ≤ sizeLine; decide), ?_⟩
        intro p37 n41
        have e38 := Rx.Ext.new (H := H35) (o := (HO.tup [V.int x6, V.int x28])) n41
        have hp39 : upd H35 p37 (HO.tup [V.int x6, V.int x28]) p37 = some (HO.tup [V.int x6, V.int x28]) := upd_same
        generalize upd H35 p37 (HO.tup [V.int x6, V.int x28]) = H42 at e38 hp39 ⊢
        have h40 : rep (L17 :: (L1 :: ms)) H42 (D.tup [(D.v (V.int x6)), (D.v (V.int x28))]) (.ref p37) := rep_tup_mk hW n41 e38 hp39 (repL_cons rep_v (repL_cons rep_v repL_nil))
        replace h_days_here := rep_ext e38 h_days_here
        replace hk10 := keep_ext e38 hk10
        replace hk22 := keep_ext e38 hk22
        replace mu36 := mo_ext e38 mu36
        replace mu23 := mo_ext e38 mu23
        replace hW := hW.ret0 e38
        refine ⟨(by show 2 ≤ sizeLine; decide), ?_⟩
        intro p43 n47
        have e44 := Rx.Ext.new (H := H42) (o := (HO.tup [(V.ref p37), V.int (0 : Int)])) n47
        have hp45 : upd H42 p43 (HO.tup [(V.ref p37), V.int (0 : Int)]) p43 = some (HO.tup [(V.ref p37), V.int (0 : Int)]) := upd_same
        generalize upd H42 p43 (HO.tup [(V.ref p37), V.int (0 : Int)]) = H48 at e44 hp45 ⊢
        have h46 : rep (L17 :: (L1 :: ms)) H48 (D.tup [(D.tup [(D.v (V.int (x6, x28).1)), (D.v (V.int (x6, x28).2))]), (D.v (V.int (0 : Int)))]) (.ref p43) := rep_tup_mk hW n47 e44 hp45 (repL_cons h40 (repL_cons rep_v repL_nil))
        replace h_days_here := rep_ext e44 h_days_here
        replace hk10 := keep_ext e44 hk10
        replace hk22 := keep_ext e44 hk22
        replace h40 := rep_ext e44 h40
        replace mu36 := mo_ext e44 mu36
        replace mu23 := mo_ext e44 mu23
        replace hW := hW.ret0 e44
        refine mo_end mu23 hn (by rw [List.length_map]; exact ln24) fun vs49 hr50 => ?_
        have mk52 := mo_setL mu23 (repL_snoc (e := (fun y_ : ((Int × Int) × Int) => (D.tup [(D.tup [(D.v (V.int y_.1.1)), (D.v (V.int y_.1.2))]), (D.v (V.int y_.2))]))) (xs := ys20) (y := ((x6, x28), (0 : Int))) hr50 h46)
        replace mu36 := mo_put (o := .lst (vs49 ++ [(V.ref p43)])) mu23.im ne34 mu36
        replace h_days_here := rep_put (o := .lst (vs49 ++ [(V.ref p43)])) mu23.im h_days_here
        replace hk10 := keep_put (o := .lst (vs49 ++ [(V.ref p43)])) mu23.im hk10
        replace hk22 := keep_put (o := .lst (vs49 ++ [(V.ref p43)])) mu23.im hk22
        replace h40 := rep_put (o := .lst (vs49 ++ [(V.ref p43)])) mu23.im h40
        replace h46 := rep_put (o := .lst (vs49 ++ [(V.ref p43)])) mu23.im h46
        replace hW := wd_put (o := .lst (vs49 ++ [(V.ref p43)])) hW mu23
        replace mu23 := mk52
        generalize upd H48 L17 (.lst (vs49 ++ [(V.ref p43)])) = H53 at *
        replace mu23 : MutO (L17 :: (L1 :: ms)) [] H_0 H53 L17 (D.lst ((ys20 ++ [((x6, x28), (0 : Int))]).map (fun y_ : ((Int × Int) × Int) => (D.tup [(D.tup [(D.v (V.int y_.1.1)), (D.v (V.int y_.1.2))]), (D.v (V.int y_.2))])))) := mu23
        clear mk52
        exact hN25 ((x6, x28), (0 : Int)) _ hM ⟨hW, hk22, mu23, by rw [List.length_append]; exact Nat.add_le_add_right ln24 1, mu36⟩
      · skip
        clear mu15
        rintro n19 ys54 H55 hM ⟨hW, hk22, mu23, ln24, mu56⟩
        replace h_days_here := rep_keep hk22 (rep_new nl18 h_days_here)
        replace hk10 := Keep.trans (Keep.new hk10) hk22
        clear hk22 ln24
        have h57 := mo_rep_dr dr_here nm32 mu23
        replace hW := wd_dr dr_here mu23.hp hW
        replace h_days_here := rep_dr dr_here h_days_here
        replace hk10 := keep_dr dr_here kn33 hk10
        replace mu56 := mo_dr dr_here ne34 mu56
        clear mu23
        obtain ⟨g61, hM⟩ := hM
        unfold tNil
        apply mo_updT (m := s8) (kf := (fun y_ : ((Int × Int) × Int) => ([Sum.inl y_.1.1, Sum.inl y_.1.2] : List L2.Key))) (vf := (fun y_ : ((Int × Int) × Int) => y_.2)) (e := (fun y_ : Int => (D.v (V.int y_)))) (xs := ys54) mu56 h57 rfl g61
        intro vs58 hl59 hr60
        have mk62 := mo_setT (ks := (List.foldl (fun m_ y_ => putD m_ ((fun y_ : ((Int × Int) × Int) => ([Sum.inl y_.1.1, Sum.inl y_.1.2] : List L2.Key)) y_) ((fun y_ : ((Int × Int) × Int) => y_.2) y_)) s8 ys54).map (·.1)) (ds := (List.foldl (fun m_ y_ => putD m_ ((fun y_ : ((Int × Int) × Int) => ([Sum.inl y_.1.1, Sum.inl y_.1.2] : List L2.Key)) y_) ((fun y_ : ((Int × Int) × Int) => y_.2) y_)) s8 ys54).map fun q_ => (fun y_ : Int => (D.v (V.int y_))) q_.2) mu56 hl59 hr60
        replace h_days_here := rep_put (o := .dT (List.zip ((List.foldl (fun m_ y_ => putD m_ ((fun y_ : ((Int × Int) × Int) => ([Sum.inl y_.1.1, Sum.inl y_.1.2] : List L2.Key)) y_) ((fun y_ : ((Int × Int) × Int) => y_.2) y_)) s8 ys54).map (·.1)) vs58)) mu56.im h_days_here
        replace hk10 := keep_put (o := .dT (List.zip ((List.foldl (fun m_ y_ => putD m_ ((fun y_ : ((Int × Int) × Int) => ([Sum.inl y_.1.1, Sum.inl y_.1.2] : List L2.Key)) y_) ((fun y_ : ((Int × Int) × Int) => y_.2) y_)) s8 ys54).map (·.1)) vs58)) mu56.im hk10
        replace h57 := rep_put (o := .dT (List.zip ((List.foldl (fun m_ y_ => putD m_ ((fun y_ : ((Int × Int) × Int) => ([Sum.inl y_.1.1, Sum.inl y_.1.2] : List L2.Key)) y_) ((fun y_ : ((Int × Int) × Int) => y_.2) y_)) s8 ys54).map (·.1)) vs58)) mu56.im h57
        replace hW := wd_put (o := .dT (List.zip ((List.foldl (fun m_ y_ => putD m_ ((fun y_ : ((Int × Int) × Int) => ([Sum.inl y_.1.1, Sum.inl y_.1.2] : List L2.Key)) y_) ((fun y_ : ((Int × Int) × Int) => y_.2) y_)) s8 ys54).map (·.1)) vs58)) hW mu56
        replace mu56 := mk62
        generalize upd H55 L1 (.dT (List.zip ((List.foldl (fun m_ y_ => putD m_ ((fun y_ : ((Int × Int) × Int) => ([Sum.inl y_.1.1, Sum.inl y_.1.2] : List L2.Key)) y_) ((fun y_ : ((Int × Int) × Int) => y_.2) y_)) s8 ys54).map (·.1)) vs58)) = H63 at *
        replace mu56 : MutO (L1 :: ms) [] H_0 H63 L1 (D.dcT ((List.foldl (fun m_ y_ => putD m_ ((fun y_ : ((Int × Int) × Int) => ([Sum.inl y_.1.1, Sum.inl y_.1.2] : List L2.Key)) y_) ((fun y_ : ((Int × Int) × Int) => y_.2) y_)) s8 ys54).map (·.1)) ((List.foldl (fun m_ y_ => putD m_ ((fun y_ : ((Int × Int) × Int) => ([Sum.inl y_.1.1, Sum.inl y_.1.2] : List L2.Key)) y_) ((fun y_ : ((Int × Int) × Int) => y_.2) y_)) s8 ys54).map fun y_ : List Key × Int => (D.v (V.int y_.2)))) := mu56
        clear mk62
        exact hN13 ((List.foldl (fun m_ y_ => putD m_ ((fun y_ : ((Int × Int) × Int) => ([Sum.inl y_.1.1, Sum.inl y_.1.2] : List L2.Key)) y_) ((fun y_ : ((Int × Int) × Int) => y_.2) y_)) s8 ys54)) _ _ hM ⟨_, rfl, hW, hk10, mu56⟩
    · skip
      clear mu4
      rintro s64 _ H68 hM ⟨w66, rfl, hW, hk65, mu67⟩
      replace h_days_here := rep_keep hk65 h_days_here
      refine ⟨_, rfl, ?_⟩
      apply rep_iter h_days_here
      intro a69 xs70 _ an71 hp72 hl73
      refine for_listG (S := (List (List Key × Int))) (items := x_days_here) (e := (fun y_ : (List (Int × Int)) => (D.lst (y_.map (fun y_ : (Int × Int) => (D.tup [(D.v (V.int y_.1)), (D.v (V.int y_.2))])))))) (ms := (L1 :: ms)) (fun (s : (List (List Key × Int))) σ_ h_ => ∃ (w_0 : Option V), ∃ (w_1 : Option V), ∃ (w_2 : Option V), ∃ (w_3 : Option V), σ_ = [some v_days_here, some (V.int x_many_here), some (V.ref L1), w66, w_0, w_1, w_2, w_3, none] ∧ Wd (L1 :: ms) [] [] H_0 h_ ∧ Keep (L1 :: ms) H68 h_ ∧ MutO (L1 :: ms) [] H_0 h_ L1 (D.dcT (s.map (·.1)) (s.map fun y_ : List Key × Int => (D.v (V.int y_.2))))) (s64) an71 hp72 hl73 (fun _ _ _ z_ => by obtain ⟨_, _, _, _, _, _, q_, _⟩ := z_; exact q_) hM ⟨_, _, _, _, rfl, hW, Keep.refl, mu67⟩ ?_ ?_
      · skip
        clear mu67
        rintro x74 u75 s76 k77 _ H87 ⟨w82, w83, w84, w85, rfl, hW, hk78, mu86⟩ h79 hM Nx80 hN81
        replace h_days_here := rep_keep hk78 h_days_here
        refine ⟨_, rfl, ?_⟩
        apply rep_iter h79
        intro a88 xs89 _ an90 hp91 hl92
        refine for_listG (S := (List (List Key × Int))) (items := x74) (e := (fun y_ : (Int × Int) => (D.tup [(D.v (V.int y_.1)), (D.v (V.int y_.2))]))) (ms := (L1 :: ms)) (fun (s : (List (List Key × Int))) σ_ h_ => ∃ (w_0 : Option V), ∃ (w_1 : Option V), ∃ (w_2 : Option V), σ_ = [some v_days_here, some (V.int x_many_here), some (V.ref L1), w66, some u75, w_0, w_1, w_2, none] ∧ Wd (L1 :: ms) [] [] H_0 h_ ∧ Keep (L1 :: ms) H87 h_ ∧ MutO (L1 :: ms) [] H_0 h_ L1 (D.dcT (s.map (·.1)) (s.map fun y_ : List Key × Int => (D.v (V.int y_.2))))) (s76) an90 hp91 hl92 (fun _ _ _ z_ => by obtain ⟨_, _, _, _, _, q_, _⟩ := z_; exact q_) hM ⟨_, _, _, rfl, hW, Keep.refl, mu86⟩ ?_ ?_
        · skip
          clear mu86
          rintro x93 u94 s95 k96 _ H105 ⟨w101, w102, w103, rfl, hW, hk97, mu104⟩ h98 hM Nx99 hN100
          replace h_days_here := rep_keep hk97 h_days_here
          replace hk78 := Keep.trans hk78 hk97
          replace h79 := rep_keep hk97 h79
          apply rep_gtup h98 rfl
          intro vs106 hv107
          obtain ⟨u108, us109, rfl, h110, hv111⟩ := repL_uncons hv107
          obtain rfl := of_v h110
          obtain ⟨u112, us113, rfl, h114, hv115⟩ := repL_uncons hv111
          obtain rfl := of_v h114
          obtain rfl := repL_empty hv115
          refine ⟨_, _, rfl, ?_⟩
          refine ⟨_, _, rfl, ?_⟩
          refine ⟨rfl, ?_⟩
          refine ⟨_, rfl, ?_⟩
          refine ⟨_, rfl, ?_⟩
          refine ⟨_, _, rfl, ?_⟩
          refine ⟨_, rfl, ?_⟩
          refine ⟨_, rfl, ?_⟩
          refine ⟨_, _, rfl, ?_⟩
          refine ⟨(by show 2 ≤ sizeLine; decide), ?_⟩
          intro p116 n120
          have e117 := Rx.Ext.new (H := H105) (o := (HO.tup [V.int (if x93.2 < x93.1 then x93.2 else x93.1), V.int (if x93.2 > x93.1 then x93.2 else x93.1)])) n120
          have hp118 : upd H105 p116 (HO.tup [V.int (if x93.2 < x93.1 then x93.2 else x93.1), V.int (if x93.2 > x93.1 then x93.2 else x93.1)]) p116 = some (HO.tup [V.int (if x93.2 < x93.1 then x93.2 else x93.1), V.int (if x93.2 > x93.1 then x93.2 else x93.1)]) := upd_same
          generalize upd H105 p116 (HO.tup [V.int (if x93.2 < x93.1 then x93.2 else x93.1), V.int (if x93.2 > x93.1 then x93.2 else x93.1)]) = H121 at e117 hp118 ⊢
          have h119 : rep (L1 :: ms) H121 (D.tup [(D.v (V.int (if x93.2 < x93.1 then x93.2 else x93.1))), (D.v (V.int (if x93.2 > x93.1 then x93.2 else x93.1)))]) (.ref p116) := rep_tup_mk hW n120 e117 hp118 (repL_cons rep_v (repL_cons rep_v repL_nil))
          replace h_days_here := rep_ext e117 h_days_here
          replace hk78 := keep_ext e117 hk78
          replace h79 := rep_ext e117 h79
          replace hk97 := keep_ext e117 hk97
          replace h98 := rep_ext e117 h98
          replace mu104 := mo_ext e117 mu104
          replace hW := hW.ret0 e117
          refine ⟨_, rfl, ?_⟩
          refine ⟨_, rfl, ?_⟩
          obtain ⟨y122, hy123, hM⟩ := hM
          apply mo_getI (m := s95) (ks := ([Sum.inl (if x93.2 < x93.1 then x93.2 else x93.1), Sum.inl (if x93.2 > x93.1 then x93.2 else x93.1)] : List Key)) (y := y122) mu104 h119 rfl hy123
          refine ⟨_, _, rfl, rfl, ?_⟩
          refine ⟨_, rfl, ?_⟩
          refine ⟨_, rfl, ?_⟩
          obtain ⟨g127, hM⟩ := hM
          apply mo_putT (ks := ([Sum.inl (if x93.2 < x93.1 then x93.2 else x93.1), Sum.inl (if x93.2 > x93.1 then x93.2 else x93.1)] : List Key)) (e := (fun y_ : Int => (D.v (V.int y_)))) (m := s95) (y := (y122 + (1 : Int))) mu104 h119 rfl rep_v g127
          intro vs124 hl125 hr126
          have mk128 := mo_setT (ks := (putD s95 ([Sum.inl (if x93.2 < x93.1 then x93.2 else x93.1), Sum.inl (if x93.2 > x93.1 then x93.2 else x93.1)] : List Key) (y122 + (1 : Int))).map (·.1)) (ds := (putD s95 ([Sum.inl (if x93.2 < x93.1 then x93.2 else x93.1), Sum.inl (if x93.2 > x93.1 then x93.2 else x93.1)] : List Key) (y122 + (1 : Int))).map fun q_ => (fun y_ : Int => (D.v (V.int y_))) q_.2) mu104 hl125 hr126
          replace h_days_here := rep_put (o := .dT (List.zip ((putD s95 ([Sum.inl (if x93.2 < x93.1 then x93.2 else x93.1), Sum.inl (if x93.2 > x93.1 then x93.2 else x93.1)] : List Key) (y122 + (1 : Int))).map (·.1)) vs124)) mu104.im h_days_here
          replace hk78 := keep_put (o := .dT (List.zip ((putD s95 ([Sum.inl (if x93.2 < x93.1 then x93.2 else x93.1), Sum.inl (if x93.2 > x93.1 then x93.2 else x93.1)] : List Key) (y122 + (1 : Int))).map (·.1)) vs124)) mu104.im hk78
          replace h79 := rep_put (o := .dT (List.zip ((putD s95 ([Sum.inl (if x93.2 < x93.1 then x93.2 else x93.1), Sum.inl (if x93.2 > x93.1 then x93.2 else x93.1)] : List Key) (y122 + (1 : Int))).map (·.1)) vs124)) mu104.im h79
          replace hk97 := keep_put (o := .dT (List.zip ((putD s95 ([Sum.inl (if x93.2 < x93.1 then x93.2 else x93.1), Sum.inl (if x93.2 > x93.1 then x93.2 else x93.1)] : List Key) (y122 + (1 : Int))).map (·.1)) vs124)) mu104.im hk97
          replace h98 := rep_put (o := .dT (List.zip ((putD s95 ([Sum.inl (if x93.2 < x93.1 then x93.2 else x93.1), Sum.inl (if x93.2 > x93.1 then x93.2 else x93.1)] : List Key) (y122 + (1 : Int))).map (·.1)) vs124)) mu104.im h98
          replace h119 := rep_put (o := .dT (List.zip ((putD s95 ([Sum.inl (if x93.2 < x93.1 then x93.2 else x93.1), Sum.inl (if x93.2 > x93.1 then x93.2 else x93.1)] : List Key) (y122 + (1 : Int))).map (·.1)) vs124)) mu104.im h119
          replace hW := wd_put (o := .dT (List.zip ((putD s95 ([Sum.inl (if x93.2 < x93.1 then x93.2 else x93.1), Sum.inl (if x93.2 > x93.1 then x93.2 else x93.1)] : List Key) (y122 + (1 : Int))).map (·.1)) vs124)) hW mu104
          replace mu104 := mk128
          generalize upd H121 L1 (.dT (List.zip ((putD s95 ([Sum.inl (if x93.2 < x93.1 then x93.2 else x93.1), Sum.inl (if x93.2 > x93.1 then x93.2 else x93.1)] : List Key) (y122 + (1 : Int))).map (·.1)) vs124)) = H129 at *
          replace mu104 : MutO (L1 :: ms) [] H_0 H129 L1 (D.dcT ((putD s95 ([Sum.inl (if x93.2 < x93.1 then x93.2 else x93.1), Sum.inl (if x93.2 > x93.1 then x93.2 else x93.1)] : List Key) (y122 + (1 : Int))).map (·.1)) ((putD s95 ([Sum.inl (if x93.2 < x93.1 then x93.2 else x93.1), Sum.inl (if x93.2 > x93.1 then x93.2 else x93.1)] : List Key) (y122 + (1 : Int))).map fun y_ : List Key × Int => (D.v (V.int y_.2)))) := mu104
          clear mk128
          exact hN100 ((putD s95 ([Sum.inl (if x93.2 < x93.1 then x93.2 else x93.1), Sum.inl (if x93.2 > x93.1 then x93.2 else x93.1)] : List Key) (y122 + (1 : Int)))) _ _ hM ⟨_, _, _, rfl, hW, hk97, mu104⟩
        · skip
          clear mu86
          rintro s130 _ H136 hM ⟨w132, w133, w134, rfl, hW, hk131, mu135⟩
          replace h_days_here := rep_keep hk131 h_days_here
          replace hk78 := Keep.trans hk78 hk131
          replace h79 := rep_keep hk131 h79
          exact hN81 (s130) _ _ hM ⟨_, _, _, _, rfl, hW, hk78, mu135⟩
      · skip
        clear mu67
        rintro s137 _ H144 hM ⟨w139, w140, w141, w142, rfl, hW, hk138, mu143⟩
        replace h_days_here := rep_keep hk138 h_days_here
        have h145 := mo_rep_dr dr_here nm3 mu143
        replace hW := wd_dr dr_here mu143.hp hW
        replace h_days_here := rep_dr dr_here h_days_here
        clear mu143
        refine ⟨_, rfl, ?_⟩
        exact hQ s137 _ _ hM hW.out h145
/-- the keys whose count is not 1 -/
def fdue (m : List (List L2.Key × Int)) (q : List L2.Key × Int) : Bool := !(decide ((Rx.getD m q.1).getD 0 = 1))
def M_due (x_days_here : (List (List (Int × Int)))) (x_many_here : Int) (KM : (Option (Int × Int × Int)) → Prop) : Prop :=
  (M_counts x_days_here x_many_here fun r1 => (r1.length ≤ 16777215 ∧ ∃ ys35 : List (Int × Int), (r1.filter (fdue r1)).map (·.1) = ys35.map (fun y_ : (Int × Int) => ([Sum.inl y_.1, Sum.inl y_.2] : List L2.Key)) ∧ (∀ ys38 : List (Int × Int), ys38.Perm ys35 → ys38.Pairwise lePI → (∃ KB49 : (Option (Int × Int × Int)) → Prop, (((plainD (D.lst (ys38.map (fun y_ : (Int × Int) => (D.tup [(D.v (V.int y_.1)), (D.v (V.int y_.2))])))) = true ∧ plainD (D.lst (([] : List Int).map (fun y_ : Int => (D.v (V.int y_))))) = true ∧ SeqAt.shaped (pyOf (D.lst (ys38.map (fun y_ : (Int × Int) => (D.tup [(D.v (V.int y_.1)), (D.v (V.int y_.2))]))))) = true ∧ SeqAt.shaped (pyOf (D.lst (([] : List Int).map (fun y_ : Int => (D.v (V.int y_)))))) = true)) ∧ (if (PyData.eqv (pyOf (D.lst (ys38.map (fun y_ : (Int × Int) => (D.tup [(D.v (V.int y_.1)), (D.v (V.int y_.2))]))))) (pyOf (D.lst (([] : List Int).map (fun y_ : Int => (D.v (V.int y_))))))) = true then (KB49 none) else (0 ≤ (0 : Int) ∧ ∃ g60 : Int.toNat (0 : Int) < ys38.length, ∀ x62, x62 = ys38[Int.toNat (0 : Int)]'g60 → (0 ≤ (0 : Int) ∧ ∃ g65 : Int.toNat (0 : Int) < ys38.length, ∀ x67, x67 = ys38[Int.toNat (0 : Int)]'g65 → (∃ y69 : Int, Rx.getD r1 ([Sum.inl x67.1, Sum.inl x67.2] : List Key) = some y69 ∧ (KB49 (some (x62.1, x62.2, y69)))))))) ∧ ∀ r87 : (Option (Int × Int × Int)), KB49 r87 → (KM r87)))))
def sp_due (A : Ad) : Sp := fun vs H Q _ => ∃ (ms : List Addr) (v_days_here : V) (x_days_here : (List (List (Int × Int)))) (x_many_here : Int) (KM : (Option (Int × Int × Int)) → Prop), vs = [v_days_here, V.int x_many_here] ∧ Wd ms [] [] H H ∧ rep ms H (D.lst (x_days_here.map (fun y_ : (List (Int × Int)) => (D.lst (y_.map (fun y_ : (Int × Int) => (D.tup [(D.v (V.int y_.1)), (D.v (V.int y_.2))]))))))) v_days_here ∧ M_due x_days_here x_many_here KM ∧ ∀ (r : (Option (Int × Int × Int))) (u : V) (H1 : Hp), KM r → Ret [] H H1 → rep ms H1 (encO (fun y_ : (Int × Int × Int) => (D.tup [(D.v (V.int y_.1)), (D.v (V.int y_.2.1)), (D.v (V.int y_.2.2))])) r) u → Q u H1
theorem ite9 {b : Bool} {A B : Prop} (h : b = true → A) (g : b = false → B) : if b = true then A else B := by
  cases b with
  | true => exact h rfl
  | false => exact g rfl
theorem dget_frz {m : List (List L2.Key × Int)} {q : List L2.Key × Int} {H : Hp} {d b : Addr} {o : Obj} (hq : q ∈ m) (hd : H d = some (.frz o (.dT (m.map fun q => (q.1, V.int q.2))))) (hb : H b = some (.tup (q.1.map kV))) : DGet H d (.ref b) (some (V.int ((Rx.getD m q.1).getD 0))) := by
  refine .inr ⟨_, q.1, b, .inr ⟨o, hd⟩, rfl, hb, ?_⟩
  induction m with
  | nil => exact absurd hq List.not_mem_nil
  | cons p m ih =>
    by_cases c : p.1 = q.1
    · rw [List.map_cons, valV_pos c]
      unfold Rx.getD
      rw [List.find?_cons_of_pos (by simpa using c)]
      rfl
    · have hq2 : q ∈ m := by
        rcases List.mem_cons.mp hq with e | e
        · rw [e] at c
          exact absurd rfl c
        · exact e
      rw [List.map_cons, valV_neg c]
      have e : Rx.getD (p :: m) q.1 = Rx.getD m q.1 := by
        unfold Rx.getD
        rw [List.find?_cons_of_neg (by simpa using c)]
      rw [e]
      clear hd
      exact val_get hq2
where val_get {q : List L2.Key × Int} : ∀ {m : List (List L2.Key × Int)}, q ∈ m → some (V.int ((Rx.getD m q.1).getD 0)) = valV (m.map fun q => (q.1, V.int q.2)) q.1
  | [], h => absurd h List.not_mem_nil
  | p :: m, h => by
    by_cases c : p.1 = q.1
    · rw [List.map_cons, valV_pos c]
      unfold Rx.getD
      rw [List.find?_cons_of_pos (by simpa using c)]
      rfl
    · have hq2 : q ∈ m := by
        rcases List.mem_cons.mp h with e | e
        · rw [e] at c
          exact absurd rfl c
        · exact e
      rw [List.map_cons, valV_neg c, ← val_get hq2]
      unfold Rx.getD
      rw [List.find?_cons_of_neg (by simpa using c)]
theorem fdue_eq {m : List (List L2.Key × Int)} {q : List L2.Key × Int} : fdue m q = (!(decide (V.int ((Rx.getD m q.1).getD 0) = V.int (1 : Int)))) := by
  unfold fdue
  by_cases c : (Rx.getD m q.1).getD 0 = 1
  · rw [c]
    rfl
  · rw [decide_eq_false c, decide_eq_false (fun z => c (V.int.inj z))]
theorem due_items {H : Hp} {m : List (List L2.Key × Int)} {f : List L2.Key × Int → Bool} {ys : List (Int × Int)} {us : List V} (he : (m.filter f).map (·.1) = ys.map (fun y_ : (Int × Int) => ([Sum.inl y_.1, Sum.inl y_.2] : List L2.Key))) (h : repL ([] : List Addr) H ((m.filter f).map tupD) us) : repL ([] : List Addr) H (ys.map (fun y_ : (Int × Int) => (D.tup [(D.v (V.int y_.1)), (D.v (V.int y_.2))]))) us := by
  have e : (m.filter f).map tupD = ((m.filter f).map (·.1)).map fun k => D.tup (k.map fun k => D.v (kV k)) := by
    rw [List.map_map]
    rfl
  rw [e, he, List.map_map] at h
  exact h
set_option maxHeartbeats 16000000 in
theorem ok_due {P : Program} {w : World} {K : PySem.W.Frag} {mg : Str → Option Value} {base : Heap} {A : Ad} (T : Txt w K mg A) : FnOk P w K mg base CX0 2 A.a_due A.d_due ["_law_days_here", "_law_many_here"] (sp_due A) := by
  refine T.F_due.ok sc_due (fun vs H Q E h => ?_) (fun cdv A_ outer s_ H_0 vs Q E hr h => ?_)
  · obtain ⟨ms, v_days_here, x_days_here, x_many_here, KM, rfl, _⟩ := h
    rfl
  · obtain ⟨ms, v_days_here, x_days_here, x_many_here, KM, rfl, hW, h_days_here, hM, hQ⟩ := h
    unfold M_due at hM
    have hWm := hW
    replace h_days_here := rep_nil0 h_days_here
    replace hW : Wd ([] : List Addr) [] [] H_0 H_0 := wd_nil0 hW
    refine ⟨_, (pss_cons (ps_set (i := 2) sc_due.nd rfl (by first | exact Or.inl rfl | exact Or.inr rfl) (pe_call (ok_counts T) (hr.mono (by decide)) (by rfl) T.g_counts T.F_counts.kp T.b_counts .nil pass0 (pa_cons (pv 0) (pa_cons (pv 1) pa_nil)))) (pss_cons (ps_set (i := 3) sc_due.nd rfl (by first | exact Or.inl rfl | exact Or.inr rfl) (pe_callB (cr_sortedPK (K := K) rfl) (by rfl) T.z_sorted (by decide +kernel) (pa_cons (pe_lock (pe_lc (own := [("_law_pair", 4)]) (g := gName 4) rfl sc_due.nd (pi_keys (pv 2)) (blkOk_by (N := ["_law_days_here", "_law_many_here", "_law_counts_here", "_law_odd", "_law_pair"]) (sc := defScope s_due) (by decide +kernel)) (fun _ _ _ _ _ => pg_name (i := 4) sc_due.nd rfl (by first | exact Or.inl rfl | exact Or.inr rfl)) (fun _ _ _ _ _ => (pts_one (pt_cmpR op_ne (pe_dget (hu_of hr) (pv 2) (pv 4) (fun _ _ => rfl)) pe_int (nomark _)))) (fun _ _ _ _ _ => (pv 4)))) pa_nil))) (pss_one (ps_ret (pe_up (pe_ifExp (pt_cmpR (op_eqDK (K := K) rfl hr.units) (pv 3) (pe_lst pa_nil) (nomark _)) pe_non (pe_op (op_catTK (K := K) rfl) (pe_ix (ix_listK (K := K) rfl) (pv 3) pe_int (fun _ _ => rfl)) (pe_tup (pa_cons (pe_dget (hu_of hr) (pv 2) (pe_ix (ix_listK (K := K) rfl) (pv 3) pe_int (fun _ _ => rfl)) (fun _ _ => rfl)) pa_nil))))))))), ?_⟩
    refine ⟨_, rfl, ?_⟩
    refine ⟨_, rfl, ?_⟩
    refine ⟨([] : List Addr), _, x_days_here, x_many_here, _, rfl, hW.enter0, h_days_here, hM, fun r1 u4 H5 hM e3 h2 => ?_⟩
    replace h_days_here := rep_ext e3 h_days_here
    replace hW := hW.ret0 e3
    obtain ⟨hz9, ys35, he35, hM⟩ := hM
    apply lc_keysT (m := r1) (f := fdue r1) h2 hz9
    · intro H' k hk
      exact ⟨_, rfl, hk⟩
    · intro q hq d b o H2 R1 R2 ex hb hd r1_ r2_
      subst ex
      refine ⟨rfl, ?_⟩
      refine ⟨_, rfl, ?_⟩
      refine ⟨_, rfl, ?_⟩
      refine ⟨_, _, rfl, dget_frz (q := q) hq hd hb, ?_⟩
      refine ⟨rfl, ?_⟩
      have e9 := fdue_eq (m := r1) (q := q)
      rw [← e9]
      refine ⟨_, rfl, ?_⟩
      refine ite9 (fun c9 => ?_) (fun c9 => ?_)
      · exact ⟨_, rfl, r1_ c9⟩
      · exact r2_ c9
    · skip
      intro L11 us12 nl12 hr13
      have e14 := Rx.Ext.new (H := H5) (o := HO.lst us12) nl12
      have hp15 : upd H5 L11 (HO.lst us12) L11 = some (HO.lst us12) := upd_same
      generalize upd H5 L11 (HO.lst us12) = H36 at e14 hp15 ⊢
      have h37 : rep ([] : List Addr) H36 (D.lst (ys35.map (fun y_ : (Int × Int) => (D.tup [(D.v (V.int y_.1)), (D.v (V.int y_.2))])))) (.ref L11) := rep_lst_mk hW nl12 e14 hp15 (due_items he35 hr13)
      replace h_days_here := rep_ext e14 h_days_here
      replace h2 := rep_ext e14 h2
      replace hW := hW.ret0 e14
      apply rep_sortP (xs := ys35) h37
      intro ys38 zs41 hpm39 hst40 hr42
      replace hM := hM ys38 hpm39 hst40
      intro p43 n47
      have e44 := Rx.Ext.new (H := H36) (o := (HO.lst (zs41))) n47
      have hp45 : upd H36 p43 (HO.lst (zs41)) p43 = some (HO.lst (zs41)) := upd_same
      generalize upd H36 p43 (HO.lst (zs41)) = H48 at e44 hp45 ⊢
      have h46 : rep ([] : List Addr) H48 (D.lst (ys38.map (fun y_ : (Int × Int) => (D.tup [(D.v (V.int y_.1)), (D.v (V.int y_.2))])))) (.ref p43) := rep_lst_mk hW n47 e44 hp45 hr42
      replace h_days_here := rep_ext e44 h_days_here
      replace h2 := rep_ext e44 h2
      replace h37 := rep_ext e44 h37
      replace hW := hW.ret0 e44
      obtain ⟨KB49, hM, hKKB49⟩ := hM
      refine ⟨fun v H1 => ∃ r : (Option (Int × Int × Int)), KB49 r ∧ Wd ([] : List Addr) [] [] H_0 H1 ∧ Keep ([] : List Addr) H48 H1 ∧ rep ms H1 (encO (fun y_ : (Int × Int × Int) => (D.tup [(D.v (V.int y_.1)), (D.v (V.int y_.2.1)), (D.v (V.int y_.2.2))])) r) v, ?_, ?_⟩
      · skip
        have hj51 := Keep.refl (ms := ([] : List Addr)) (H := H48)
        refine ⟨_, rfl, ?_⟩
        refine ⟨(by show 0 ≤ sizeLine; decide), ?_⟩
        intro p52 n56
        have e53 := Rx.Ext.new (H := H48) (o := (HO.lst [])) n56
        have hp54 : upd H48 p52 (HO.lst []) p52 = some (HO.lst []) := upd_same
        generalize upd H48 p52 (HO.lst []) = H57 at e53 hp54 ⊢
        have h55 : rep ([] : List Addr) H57 (D.lst (([] : List Int).map (fun y_ : Int => (D.v (V.int y_))))) (.ref p52) := rep_lst_mk hW n56 e53 hp54 repL_nil
        replace h_days_here := rep_ext e53 h_days_here
        replace h2 := rep_ext e53 h2
        replace h37 := rep_ext e53 h37
        replace h46 := rep_ext e53 h46
        replace hj51 := keep_ext e53 hj51
        replace hW := hW.ret0 e53
        obtain ⟨g58, hM⟩ := hM
        apply rep_eqD (d := (D.lst (ys38.map (fun y_ : (Int × Int) => (D.tup [(D.v (V.int y_.1)), (D.v (V.int y_.2))]))))) (e := (D.lst (([] : List Int).map (fun y_ : Int => (D.v (V.int y_)))))) h46 h55 g58.1 g58.2.1 g58.2.2.1 g58.2.2.2
        refine ⟨_, rfl, ?_⟩
        refine ite3 hM (fun hM => ?_) (fun hM => ?_)
        · skip
          exact ⟨none, hM, hW, hj51, rep_v⟩
        · skip
          refine ⟨_, rfl, ?_⟩
          obtain ⟨g59, g60, hM⟩ := hM
          apply rep_ixL (e := (fun y_ : (Int × Int) => (D.tup [(D.v (V.int y_.1)), (D.v (V.int y_.2))]))) (xs := ys38) h46 g59 g60
          intro u63 h61
          obtain ⟨x62, x62e⟩ : ∃ x_, x_ = ys38[Int.toNat (0 : Int)]'g60 := ⟨_, rfl⟩
          rw [← x62e] at h61
          replace hM := hM x62 x62e
          refine ⟨_, rfl, ?_⟩
          refine ⟨_, rfl, ?_⟩
          obtain ⟨g64, g65, hM⟩ := hM
          apply rep_ixL (e := (fun y_ : (Int × Int) => (D.tup [(D.v (V.int y_.1)), (D.v (V.int y_.2))]))) (xs := ys38) h46 g64 g65
          intro u68 h66
          obtain ⟨x67, x67e⟩ : ∃ x_, x_ = ys38[Int.toNat (0 : Int)]'g65 := ⟨_, rfl⟩
          rw [← x67e] at h66
          replace hM := hM x67 x67e
          obtain ⟨y69, hy70, hM⟩ := hM
          apply rep_getI (m := r1) (ks := ([Sum.inl x67.1, Sum.inl x67.2] : List Key)) (y := y69) h2 h66 rfl hy70
          refine ⟨(by show 1 ≤ sizeLine; decide), ?_⟩
          intro p71 n75
          have e72 := Rx.Ext.new (H := H57) (o := (HO.tup [V.int y69])) n75
          have hp73 : upd H57 p71 (HO.tup [V.int y69]) p71 = some (HO.tup [V.int y69]) := upd_same
          generalize upd H57 p71 (HO.tup [V.int y69]) = H76 at e72 hp73 ⊢
          have h74 : rep ([] : List Addr) H76 (D.tup [(D.v (V.int y69))]) (.ref p71) := rep_tup_mk hW n75 e72 hp73 (repL_cons rep_v repL_nil)
          replace h_days_here := rep_ext e72 h_days_here
          replace h2 := rep_ext e72 h2
          replace h37 := rep_ext e72 h37
          replace h46 := rep_ext e72 h46
          replace hj51 := keep_ext e72 hj51
          replace h55 := rep_ext e72 h55
          replace h61 := rep_ext e72 h61
          replace h66 := rep_ext e72 h66
          replace hW := hW.ret0 e72
          apply rep_catT h61 h74 (by simp)
          intro vs77 us78 hr79 hr80
          intro p81 np82

          have nmm : p81 ∉ ms := fun z => hW.grow p81 (hWm.tr p81 z) np82
          have e83 := Rx.Ext.new (H := H76) (o := (HO.tup (vs77 ++ us78))) np82
          have hp84 : upd H76 p81 (HO.tup (vs77 ++ us78)) p81 = some (HO.tup (vs77 ++ us78)) := upd_same
          generalize upd H76 p81 (HO.tup (vs77 ++ us78)) = H86 at e83 hp84 ⊢
          have h85 : rep ([] : List Addr) H86 (D.tup [(D.v (V.int x62.1)), (D.v (V.int x62.2)), (D.v (V.int y69))]) (.ref p81) := rep_tup_mk (ds := [(D.v (V.int x62.1)), (D.v (V.int x62.2)), (D.v (V.int y69))]) hW np82 e83 hp84 (repL_app hr79 hr80)
          replace h_days_here := rep_ext e83 h_days_here
          replace h2 := rep_ext e83 h2
          replace h37 := rep_ext e83 h37
          replace h46 := rep_ext e83 h46
          replace hj51 := keep_ext e83 hj51
          replace h55 := rep_ext e83 h55
          replace h61 := rep_ext e83 h61
          replace h66 := rep_ext e83 h66
          replace h74 := rep_ext e83 h74
          replace hW := hW.ret0 e83
          exact ⟨(some (x62.1, x62.2, y69)), hM, hW, hj51, rep_tup_up (xs := [V.int x62.1, V.int x62.2, V.int y69]) nmm h85⟩
      · skip
        rintro u89 Hj50 ⟨r87, hr, hW, hj51, h88⟩
        replace hM := hKKB49 r87 hr
        replace h_days_here := rep_keep hj51 h_days_here
        replace h2 := rep_keep hj51 h2
        replace h37 := rep_keep hj51 h37
        replace h46 := rep_keep hj51 h46
        exact hQ r87 _ _ hM hW.out h88
def M_Table_rounds (x_self : (List (List (Int × Int)))) (KM : (List (List (Int × Int))) → Prop) : Prop :=
  (x_self.length < 100000 ∧ mapC (fun (x19 : (List (Int × Int))) (k12 : (List (Int × Int)) → Prop) => (k12 x19)) x_self [] fun ys39 => (KM ys39))
def sp_Table_rounds (A : Ad) : Sp := fun vs H Q _ => ∃ (ms : List Addr) (v_self : V) (x_self : (List (List (Int × Int)))) (KM : (List (List (Int × Int))) → Prop), vs = [v_self] ∧ Wd ms [] [] H H ∧ rep ms H (eTable A x_self) v_self ∧ M_Table_rounds x_self KM ∧ ∀ (r : (List (List (Int × Int)))) (u : V) (H1 : Hp), KM r → Ret [] H H1 → rep ms H1 (D.lst (r.map (fun y_ : (List (Int × Int)) => (D.lst (y_.map (fun y_ : (Int × Int) => (D.tup [(D.v (V.int y_.1)), (D.v (V.int y_.2))]))))))) u → Q u H1
set_option maxHeartbeats 16000000 in
theorem ok_Table_rounds {P : Program} {w : World} {K : PySem.W.Frag} {mg : Str → Option Value} {base : Heap} {A : Ad} (T : Txt w K mg A) : FnOk P w K mg base CX0 1 A.a_Table_rounds A.d_Table_rounds ["self"] (sp_Table_rounds A) := by
  refine T.F_Table_rounds.ok sc_Table_rounds (fun vs H Q E h => ?_) (fun cdv A_ outer s_ H_0 vs Q E hr h => ?_)
  · obtain ⟨ms, v_self, x_self, KM, rfl, _⟩ := h
    rfl
  · obtain ⟨ms, v_self, x_self, KM, rfl, hW, h_self, hM, hQ⟩ := h
    unfold M_Table_rounds at hM
    refine ⟨_, (pss_one (ps_ret (pe_lc (own := [("meetings", 1)]) (g := gName 1) rfl sc_Table_rounds.nd (pi_list (pe_fld (pv 0) rfl)) (blkOk_by (N := ["self", "meetings"]) (sc := defScope s_Table_rounds) (by decide +kernel)) (fun _ _ _ _ _ => pg_name (i := 1) sc_Table_rounds.nd rfl (by first | exact Or.inl rfl | exact Or.inr rfl)) (fun _ _ _ _ _ => pts_nil) (fun _ _ _ _ _ => (pe_callTy (call_list_ofK (K := K) rfl) (by rfl) T.z_list (by decide +kernel) (pa_cons (pv 1) pa_nil)))))), ?_⟩
    refine ⟨_, rfl, ?_⟩
    apply rep_fld (j := 0) h_self T.cl_Table T.na_Table__rounds nd_Table rfl rfl
    intro u2 h1
    apply rep_iter h1
    intro a3 xs4 _ an5 hp6 hl7
    refine fun L8 nl9 => ?_
    have nm23 := nm_new hW nl9
    refine lc_listG (L := L8) (fun n_ ys_ h_ => Wd (L8 :: ms) [] [] H_0 h_ ∧ Keep (L8 :: ms) H_0 h_ ∧ MutO (L8 :: ms) [] H_0 h_ L8 (D.lst (ys_.map (fun y_ : (List (Int × Int)) => (D.lst (y_.map (fun y_ : (Int × Int) => (D.tup [(D.v (V.int y_.1)), (D.v (V.int y_.2))]))))))) ∧ ys_.length ≤ n_) (items := x_self) (e := (fun y_ : (List (Int × Int)) => (D.lst (y_.map (fun y_ : (Int × Int) => (D.tup [(D.v (V.int y_.1)), (D.v (V.int y_.2))])))))) an5 hp6 hl7 nl9 (fun _ _ _ q_ => q_.2.1) hM ⟨wd_cell hW nl9, keep_cell nl9 Keep.refl, mo_newL (ds := []) hW nl9 repL_nil, Nat.le_refl _⟩ ?_ ?_
    · skip
      rintro x19 u20 n10 ys11 k12 H24 hn ⟨hW, hk13, mu14, ln15⟩ h21 hM Nx18 hN16
      replace h_self := rep_keep hk13 (rep_new nl9 h_self)
      replace h1 := rep_keep hk13 (rep_new nl9 h1)
      refine ⟨rfl, ?_⟩
      refine tyes_of ?_
      refine ⟨_, rfl, ?_⟩
      apply rep_listL h21
      intro ys25 hr26
      intro p27 n28
      have e29 := Rx.Ext.new (H := H24) (o := (HO.lst ys25)) n28
      have hp30 : upd H24 p27 (HO.lst ys25) p27 = some (HO.lst ys25) := upd_same
      generalize upd H24 p27 (HO.lst ys25) = H33 at e29 hp30 ⊢
      have h31 : rep (L8 :: ms) H33 (D.lst (x19.map (fun y_ : (Int × Int) => (D.tup [(D.v (V.int y_.1)), (D.v (V.int y_.2))])))) (.ref p27) := rep_lst_mk hW n28 e29 hp30 hr26
      replace h_self := rep_ext e29 h_self
      replace h1 := rep_ext e29 h1
      replace hk13 := keep_ext e29 hk13
      replace h21 := rep_ext e29 h21
      replace mu14 := mo_ext e29 mu14
      replace hW := hW.ret0 e29
      refine mo_end mu14 hn (by rw [List.length_map]; exact ln15) fun vs34 hr35 => ?_
      have mk37 := mo_setL mu14 (repL_snoc (e := (fun y_ : (List (Int × Int)) => (D.lst (y_.map (fun y_ : (Int × Int) => (D.tup [(D.v (V.int y_.1)), (D.v (V.int y_.2))])))))) (xs := ys11) (y := x19) hr35 h31)
      replace h_self := rep_put (o := .lst (vs34 ++ [(V.ref p27)])) mu14.im h_self
      replace h1 := rep_put (o := .lst (vs34 ++ [(V.ref p27)])) mu14.im h1
      replace hk13 := keep_put (o := .lst (vs34 ++ [(V.ref p27)])) mu14.im hk13
      replace h21 := rep_put (o := .lst (vs34 ++ [(V.ref p27)])) mu14.im h21
      replace h31 := rep_put (o := .lst (vs34 ++ [(V.ref p27)])) mu14.im h31
      replace hW := wd_put (o := .lst (vs34 ++ [(V.ref p27)])) hW mu14
      replace mu14 := mk37
      generalize upd H33 L8 (.lst (vs34 ++ [(V.ref p27)])) = H38 at *
      replace mu14 : MutO (L8 :: ms) [] H_0 H38 L8 (D.lst ((ys11 ++ [x19]).map (fun y_ : (List (Int × Int)) => (D.lst (y_.map (fun y_ : (Int × Int) => (D.tup [(D.v (V.int y_.1)), (D.v (V.int y_.2))]))))))) := mu14
      clear mk37
      exact hN16 x19 _ hM ⟨hW, hk13, mu14, by rw [List.length_append]; exact Nat.add_le_add_right ln15 1⟩
    · skip
      rintro n10 ys39 H40 hM ⟨hW, hk13, mu14, ln15⟩
      replace h_self := rep_keep hk13 (rep_new nl9 h_self)
      replace h1 := rep_keep hk13 (rep_new nl9 h1)
      clear hk13 ln15
      have h41 := mo_rep_dr dr_here nm23 mu14
      replace hW := wd_dr dr_here mu14.hp hW
      replace h_self := rep_dr dr_here h_self
      replace h1 := rep_dr dr_here h1
      clear mu14
      exact hQ ys39 _ _ hM hW.out h41
def M_Table_size (x_self : (List (List (Int × Int)))) (KM : Int → Prop) : Prop :=
  (0 ≤ (0 : Int) ∧ ∃ g4 : Int.toNat (0 : Int) < x_self.length, ∀ x6, x6 = x_self[Int.toNat (0 : Int)]'g4 → (KM ((2 : Int) * (x6.length : Int))))
def sp_Table_size (A : Ad) : Sp := fun vs H Q _ => ∃ (ms : List Addr) (v_self : V) (x_self : (List (List (Int × Int)))) (KM : Int → Prop), vs = [v_self] ∧ Wd ms [] [] H H ∧ rep ms H (eTable A x_self) v_self ∧ M_Table_size x_self KM ∧ ∀ (r : Int) (u : V) (H1 : Hp), KM r → Ret [] H H1 → rep ms H1 (D.v (V.int r)) u → Q u H1
set_option maxHeartbeats 16000000 in
theorem ok_Table_size {P : Program} {w : World} {K : PySem.W.Frag} {mg : Str → Option Value} {base : Heap} {A : Ad} (T : Txt w K mg A) : FnOk P w K mg base CX0 1 A.a_Table_size A.d_Table_size ["self"] (sp_Table_size A) := by
  refine T.F_Table_size.ok sc_Table_size (fun vs H Q E h => ?_) (fun cdv A_ outer s_ H_0 vs Q E hr h => ?_)
  · obtain ⟨ms, v_self, x_self, KM, rfl, _⟩ := h
    rfl
  · obtain ⟨ms, v_self, x_self, KM, rfl, hW, h_self, hM, hQ⟩ := h
    unfold M_Table_size at hM
    refine ⟨_, (pss_one (ps_ret (pe_op op_mul pe_int (pe_callB (call_lenK (K := K) rfl) (by rfl) T.z_len PySem.boot_len (pa_cons (pe_ix (ix_listK (K := K) rfl) (pe_fld (pv 0) rfl) pe_int (fun _ _ => rfl)) pa_nil))))), ?_⟩
    refine ⟨_, rfl, ?_⟩
    apply rep_fld (j := 0) h_self T.cl_Table T.na_Table__rounds nd_Table rfl rfl
    intro u2 h1
    obtain ⟨g3, g4, hM⟩ := hM
    apply rep_ixL (e := (fun y_ : (List (Int × Int)) => (D.lst (y_.map (fun y_ : (Int × Int) => (D.tup [(D.v (V.int y_.1)), (D.v (V.int y_.2))])))))) (xs := x_self) h1 g3 g4
    intro u7 h5
    obtain ⟨x6, x6e⟩ : ∃ x_, x_ = x_self[Int.toNat (0 : Int)]'g4 := ⟨_, rfl⟩
    rw [← x6e] at h5
    replace hM := hM x6 x6e
    apply rep_lenL (e := (fun y_ : (Int × Int) => (D.tup [(D.v (V.int y_.1)), (D.v (V.int y_.2))]))) (xs := x6) h5
    refine ⟨_, _, rfl, rfl, .inl ⟨by decide, by decide⟩, ?_⟩
    exact hQ ((2 : Int) * (x6.length : Int)) _ _ hM hW.out rep_v
def M_first_odd_pair (x_table : (List (List (Int × Int)))) (KM : (Option (Int × Int × Int)) → Prop) : Prop :=
  (M_Table_rounds x_table fun r6 => (forC (fun (x16 : (List (Int × Int))) (s18 : (List (List Key × Int))) (k19 : ((List (List Key × Int))) → Prop) => (forC (fun (x35 : (Int × Int)) (s37 : (List (List Key × Int))) (k38 : ((List (List Key × Int))) → Prop) => (s37.length < 16777216 ∧ (k38 ((putD s37 ([Sum.inl (if x35.2 < x35.1 then x35.2 else x35.1), Sum.inl (if x35.2 > x35.1 then x35.2 else x35.1)] : List Key) (((Rx.getD s37 ([Sum.inl (if x35.2 < x35.1 then x35.2 else x35.1), Sum.inl (if x35.2 > x35.1 then x35.2 else x35.1)] : List Key)).getD (0 : Int)) + (1 : Int))))))) x16 (s18) fun s70 => (k19 (s70)))) r6 (([] : (List (List Key × Int)))) fun s77 => (M_Table_size x_table fun r87 => (forC (fun (x92 : Int) (s94 : Unit) (k95 : Unit → Prop) => (M_Table_size x_table fun r105 => (forC (fun (x110 : Int) (s112 : Unit) (k113 : Unit → Prop) => (if (!(decide (V.int ((Rx.getD s77 ([Sum.inl x92, Sum.inl x110] : List Key)).getD (0 : Int)) = V.int (1 : Int)))) = true then (KM (some (x92, x110, ((Rx.getD s77 ([Sum.inl x92, Sum.inl x110] : List Key)).getD (0 : Int))))) else (k113 ()))) (rangeI (x92 + (1 : Int)) r105) () fun s135 => (k95 ())))) (rangeI (0 : Int) r87) () fun s140 => (KM none)))))
def sp_first_odd_pair (A : Ad) : Sp := fun vs H Q _ => ∃ (ms : List Addr) (v_table : V) (x_table : (List (List (Int × Int)))) (KM : (Option (Int × Int × Int)) → Prop), vs = [v_table] ∧ Wd ms [] [] H H ∧ rep ms H (eTable A x_table) v_table ∧ M_first_odd_pair x_table KM ∧ ∀ (r : (Option (Int × Int × Int))) (u : V) (H1 : Hp), KM r → Ret [] H H1 → rep ms H1 (encO (fun y_ : (Int × Int × Int) => (D.tup [(D.v (V.int y_.1)), (D.v (V.int y_.2.1)), (D.v (V.int y_.2.2))])) r) u → Q u H1
set_option maxHeartbeats 16000000 in
theorem ok_first_odd_pair {P : Program} {w : World} {K : PySem.W.Frag} {mg : Str → Option Value} {base : Heap} {A : Ad} (T : Txt w K mg A) : FnOk P w K mg base CX0 3 A.a_first_odd_pair A.d_first_odd_pair ["table"] (sp_first_odd_pair A) := by
  refine T.F_first_odd_pair.ok sc_first_odd_pair (fun vs H Q E h => ?_) (fun cdv A_ outer s_ H_0 vs Q E hr h => ?_)
  · obtain ⟨ms, v_table, x_table, KM, rfl, _⟩ := h
    rfl
  · obtain ⟨ms, v_table, x_table, KM, rfl, hW, h_table, hM, hQ⟩ := h
    unfold M_first_odd_pair at hM
    refine ⟨_, (pss_cons (ps_set (i := 1) sc_first_odd_pair.nd rfl (by first | exact Or.inl rfl | exact Or.inr rfl) pe_dnewT) (pss_cons (ps_for PassesOwn.never rfl (pi_list (pe_meth0 (pv 0) T.cl_Table T.m_Table_rounds (ok_Table_rounds T) (hr.mono (by decide)) T.b_Table_rounds .nil pass0)) (pg_name (i := 2) sc_first_odd_pair.nd rfl (by first | exact Or.inl rfl | exact Or.inr rfl)) (pss_one (ps_for PassesOwn.never rfl (pi_list (pv 2)) (pg_tup rfl (pgs_cons (pg_name (i := 3) sc_first_odd_pair.nd rfl (by first | exact Or.inl rfl | exact Or.inr rfl)) (pgs_cons (pg_name (i := 4) sc_first_odd_pair.nd rfl (by first | exact Or.inl rfl | exact Or.inr rfl)) pgs_nil))) (pss_cons (ps_set (i := 5) sc_first_odd_pair.nd rfl (by first | exact Or.inl rfl | exact Or.inr rfl) (pe_tup (pa_cons (pe_callB (call_min2 rfl) (by rfl) T.z_min (by decide +kernel) (pa_cons (pv 3) (pa_cons (pv 4) pa_nil))) (pa_cons (pe_callB (call_max2 rfl) (by rfl) T.z_max (by decide +kernel) (pa_cons (pv 3) (pa_cons (pv 4) pa_nil))) pa_nil)))) (pss_one (ps_asg (pe_op op_add (pe_dget2 (hu_of hr) (pv 1) (pv 5) pe_int ⟨rfl, rfl, rfl, rfl⟩) pe_int) (pg_sub (pv 1) (pv 5) (set_dict (hu_of hr))))))))) (pss_cons (ps_for PassesOwn.never rfl (pi_rangeW1 (by rfl) T.z_range (pa_cons (pe_prop (pv 0) T.cl_Table T.p_Table_size (ok_Table_size T) (hr.mono (by decide)) T.b_Table_size .nil pass0 rfl) pa_nil)) (pg_name (i := 6) sc_first_odd_pair.nd rfl (by first | exact Or.inl rfl | exact Or.inr rfl)) (pss_one (ps_for PassesOwn.never rfl (pi_rangeW2 (by rfl) T.z_range (pa_cons (pe_op op_add (pv 6) pe_int) (pa_cons (pe_prop (pv 0) T.cl_Table T.p_Table_size (ok_Table_size T) (hr.mono (by decide)) T.b_Table_size .nil pass0 rfl) pa_nil))) (pg_name (i := 7) sc_first_odd_pair.nd rfl (by first | exact Or.inl rfl | exact Or.inr rfl)) (pss_cons (ps_set (i := 8) sc_first_odd_pair.nd rfl (by first | exact Or.inl rfl | exact Or.inr rfl) (pe_dget2 (hu_of hr) (pv 1) (pe_tup (pa_cons (pv 6) (pa_cons (pv 7) pa_nil))) pe_int ⟨rfl, rfl, rfl, rfl⟩)) (pss_one (ps_if (pt_cmpR op_ne (pv 8) pe_int (nomark _)) (pss_one (ps_ret (pe_tup (pa_cons (pv 6) (pa_cons (pv 7) (pa_cons (pv 8) pa_nil)))))) pss_nil)))))) (pss_one (ps_ret pe_non))))), ?_⟩
    intro L1 nl2
    have nm3 := nm_new hW nl2
    have mu4 := mo_nilT (e := (fun y_ : Int => (D.v (V.int y_)))) hW nl2
    replace h_table := rep_cell (o := .dT []) nl2 h_table
    replace hW := wd_cell (o := .dT []) hW nl2
    generalize upd H_0 L1 (.dT []) = H5 at *
    replace mu4 : MutO (L1 :: ms) [] H_0 H5 L1 (D.dcT (([] : (List (List Key × Int))).map (·.1)) (([] : (List (List Key × Int))).map fun y_ : List Key × Int => (D.v (V.int y_.2)))) := mu4
    refine ⟨_, rfl, ?_⟩
    apply rep_meth (m := "rounds") h_table (by decide +kernel)
    refine ⟨(L1 :: ms), _, x_table, _, rfl, hW.enter0, h_table, hM, fun r6 u9 H10 hM e8 h7 => ?_⟩
    replace h_table := rep_ext e8 h_table
    replace mu4 := mo_ext e8 mu4
    replace hW := hW.ret0 e8
    apply rep_iter h7
    intro a11 xs12 _ an13 hp14 hl15
    refine for_listG (S := (List (List Key × Int))) (items := r6) (e := (fun y_ : (List (Int × Int)) => (D.lst (y_.map (fun y_ : (Int × Int) => (D.tup [(D.v (V.int y_.1)), (D.v (V.int y_.2))])))))) (ms := (L1 :: ms)) (fun (s : (List (List Key × Int))) σ_ h_ => ∃ (w_0 : Option V), ∃ (w_1 : Option V), ∃ (w_2 : Option V), ∃ (w_3 : Option V), σ_ = [some v_table, some (V.ref L1), w_0, w_1, w_2, w_3, none, none, none] ∧ Wd (L1 :: ms) [] [] H_0 h_ ∧ Keep (L1 :: ms) H10 h_ ∧ MutO (L1 :: ms) [] H_0 h_ L1 (D.dcT (s.map (·.1)) (s.map fun y_ : List Key × Int => (D.v (V.int y_.2))))) (([] : (List (List Key × Int)))) an13 hp14 hl15 (fun _ _ _ z_ => by obtain ⟨_, _, _, _, _, _, q_, _⟩ := z_; exact q_) hM ⟨_, _, _, _, rfl, hW, Keep.refl, mu4⟩ ?_ ?_
    · skip
      clear mu4
      rintro x16 u17 s18 k19 _ H29 ⟨w24, w25, w26, w27, rfl, hW, hk20, mu28⟩ h21 hM Nx22 hN23
      replace h_table := rep_keep hk20 h_table
      replace h7 := rep_keep hk20 h7
      refine ⟨_, rfl, ?_⟩
      apply rep_iter h21
      intro a30 xs31 _ an32 hp33 hl34
      refine for_listG (S := (List (List Key × Int))) (items := x16) (e := (fun y_ : (Int × Int) => (D.tup [(D.v (V.int y_.1)), (D.v (V.int y_.2))]))) (ms := (L1 :: ms)) (fun (s : (List (List Key × Int))) σ_ h_ => ∃ (w_0 : Option V), ∃ (w_1 : Option V), ∃ (w_2 : Option V), σ_ = [some v_table, some (V.ref L1), some u17, w_0, w_1, w_2, none, none, none] ∧ Wd (L1 :: ms) [] [] H_0 h_ ∧ Keep (L1 :: ms) H29 h_ ∧ MutO (L1 :: ms) [] H_0 h_ L1 (D.dcT (s.map (·.1)) (s.map fun y_ : List Key × Int => (D.v (V.int y_.2))))) (s18) an32 hp33 hl34 (fun _ _ _ z_ => by obtain ⟨_, _, _, _, _, q_, _⟩ := z_; exact q_) hM ⟨_, _, _, rfl, hW, Keep.refl, mu28⟩ ?_ ?_
      · skip
        clear mu28
        rintro x35 u36 s37 k38 _ H47 ⟨w43, w44, w45, rfl, hW, hk39, mu46⟩ h40 hM Nx41 hN42
        replace h_table := rep_keep hk39 h_table
        replace h7 := rep_keep hk39 h7
        replace hk20 := Keep.trans hk20 hk39
        replace h21 := rep_keep hk39 h21
        apply rep_gtup h40 rfl
        intro vs48 hv49
        obtain ⟨u50, us51, rfl, h52, hv53⟩ := repL_uncons hv49
        obtain rfl := of_v h52
        obtain ⟨u54, us55, rfl, h56, hv57⟩ := repL_uncons hv53
        obtain rfl := of_v h56
        obtain rfl := repL_empty hv57
        refine ⟨_, _, rfl, ?_⟩
        refine ⟨_, _, rfl, ?_⟩
        refine ⟨rfl, ?_⟩
        refine ⟨_, rfl, ?_⟩
        refine ⟨_, rfl, ?_⟩
        refine ⟨_, _, rfl, ?_⟩
        refine ⟨_, rfl, ?_⟩
        refine ⟨_, rfl, ?_⟩
        refine ⟨_, _, rfl, ?_⟩
        refine ⟨(by show 2 ≤ sizeLine; decide), ?_⟩
        intro p58 n62
        have e59 := Rx.Ext.new (H := H47) (o := (HO.tup [V.int (if x35.2 < x35.1 then x35.2 else x35.1), V.int (if x35.2 > x35.1 then x35.2 else x35.1)])) n62
        have hp60 : upd H47 p58 (HO.tup [V.int (if x35.2 < x35.1 then x35.2 else x35.1), V.int (if x35.2 > x35.1 then x35.2 else x35.1)]) p58 = some (HO.tup [V.int (if x35.2 < x35.1 then x35.2 else x35.1), V.int (if x35.2 > x35.1 then x35.2 else x35.1)]) := upd_same
        generalize upd H47 p58 (HO.tup [V.int (if x35.2 < x35.1 then x35.2 else x35.1), V.int (if x35.2 > x35.1 then x35.2 else x35.1)]) = H63 at e59 hp60 ⊢
        have h61 : rep (L1 :: ms) H63 (D.tup [(D.v (V.int (if x35.2 < x35.1 then x35.2 else x35.1))), (D.v (V.int (if x35.2 > x35.1 then x35.2 else x35.1)))]) (.ref p58) := rep_tup_mk hW n62 e59 hp60 (repL_cons rep_v (repL_cons rep_v repL_nil))
        replace h_table := rep_ext e59 h_table
        replace h7 := rep_ext e59 h7
        replace hk20 := keep_ext e59 hk20
        replace h21 := rep_ext e59 h21
        replace hk39 := keep_ext e59 hk39
        replace h40 := rep_ext e59 h40
        replace mu46 := mo_ext e59 mu46
        replace hW := hW.ret0 e59
        refine ⟨_, rfl, ?_⟩
        refine ⟨_, rfl, mo_isDT mu46, ?_⟩
        refine ⟨_, rfl, ?_⟩
        refine ⟨_, mo_dgetO (m := s37) (ks := ([Sum.inl (if x35.2 < x35.1 then x35.2 else x35.1), Sum.inl (if x35.2 > x35.1 then x35.2 else x35.1)] : List Key)) mu46 h61 rfl, ?_⟩
        rw [getO_int]
        refine ⟨_, _, rfl, rfl, ?_⟩
        refine ⟨_, rfl, ?_⟩
        refine ⟨_, rfl, ?_⟩
        obtain ⟨g67, hM⟩ := hM
        apply mo_putT (ks := ([Sum.inl (if x35.2 < x35.1 then x35.2 else x35.1), Sum.inl (if x35.2 > x35.1 then x35.2 else x35.1)] : List Key)) (e := (fun y_ : Int => (D.v (V.int y_)))) (m := s37) (y := (((Rx.getD s37 ([Sum.inl (if x35.2 < x35.1 then x35.2 else x35.1), Sum.inl (if x35.2 > x35.1 then x35.2 else x35.1)] : List Key)).getD (0 : Int)) + (1 : Int))) mu46 h61 rfl rep_v g67
        intro vs64 hl65 hr66
        have mk68 := mo_setT (ks := (putD s37 ([Sum.inl (if x35.2 < x35.1 then x35.2 else x35.1), Sum.inl (if x35.2 > x35.1 then x35.2 else x35.1)] : List Key) (((Rx.getD s37 ([Sum.inl (if x35.2 < x35.1 then x35.2 else x35.1), Sum.inl (if x35.2 > x35.1 then x35.2 else x35.1)] : List Key)).getD (0 : Int)) + (1 : Int))).map (·.1)) (ds := (putD s37 ([Sum.inl (if x35.2 < x35.1 then x35.2 else x35.1), Sum.inl (if x35.2 > x35.1 then x35.2 else x35.1)] : List Key) (((Rx.getD s37 ([Sum.inl (if x35.2 < x35.1 then x35.2 else x35.1), Sum.inl (if x35.2 > x35.1 then x35.2 else x35.1)] : List Key)).getD (0 : Int)) + (1 : Int))).map fun q_ => (fun y_ : Int => (D.v (V.int y_))) q_.2) mu46 hl65 hr66
        replace h_table := rep_put (o := .dT (List.zip ((putD s37 ([Sum.inl (if x35.2 < x35.1 then x35.2 else x35.1), Sum.inl (if x35.2 > x35.1 then x35.2 else x35.1)] : List Key) (((Rx.getD s37 ([Sum.inl (if x35.2 < x35.1 then x35.2 else x35.1), Sum.inl (if x35.2 > x35.1 then x35.2 else x35.1)] : List Key)).getD (0 : Int)) + (1 : Int))).map (·.1)) vs64)) mu46.im h_table
        replace h7 := rep_put (o := .dT (List.zip ((putD s37 ([Sum.inl (if x35.2 < x35.1 then x35.2 else x35.1), Sum.inl (if x35.2 > x35.1 then x35.2 else x35.1)] : List Key) (((Rx.getD s37 ([Sum.inl (if x35.2 < x35.1 then x35.2 else x35.1), Sum.inl (if x35.2 > x35.1 then x35.2 else x35.1)] : List Key)).getD (0 : Int)) + (1 : Int))).map (·.1)) vs64)) mu46.im h7
        replace hk20 := keep_put (o := .dT (List.zip ((putD s37 ([Sum.inl (if x35.2 < x35.1 then x35.2 else x35.1), Sum.inl (if x35.2 > x35.1 then x35.2 else x35.1)] : List Key) (((Rx.getD s37 ([Sum.inl (if x35.2 < x35.1 then x35.2 else x35.1), Sum.inl (if x35.2 > x35.1 then x35.2 else x35.1)] : List Key)).getD (0 : Int)) + (1 : Int))).map (·.1)) vs64)) mu46.im hk20
        replace h21 := rep_put (o := .dT (List.zip ((putD s37 ([Sum.inl (if x35.2 < x35.1 then x35.2 else x35.1), Sum.inl (if x35.2 > x35.1 then x35.2 else x35.1)] : List Key) (((Rx.getD s37 ([Sum.inl (if x35.2 < x35.1 then x35.2 else x35.1), Sum.inl (if x35.2 > x35.1 then x35.2 else x35.1)] : List Key)).getD (0 : Int)) + (1 : Int))).map (·.1)) vs64)) mu46.im h21
        replace hk39 := keep_put (o := .dT (List.zip ((putD s37 ([Sum.inl (if x35.2 < x35.1 then x35.2 else x35.1), Sum.inl (if x35.2 > x35.1 then x35.2 else x35.1)] : List Key) (((Rx.getD s37 ([Sum.inl (if x35.2 < x35.1 then x35.2 else x35.1), Sum.inl (if x35.2 > x35.1 then x35.2 else x35.1)] : List Key)).getD (0 : Int)) + (1 : Int))).map (·.1)) vs64)) mu46.im hk39
        replace h40 := rep_put (o := .dT (List.zip ((putD s37 ([Sum.inl (if x35.2 < x35.1 then x35.2 else x35.1), Sum.inl (if x35.2 > x35.1 then x35.2 else x35.1)] : List Key) (((Rx.getD s37 ([Sum.inl (if x35.2 < x35.1 then x35.2 else x35.1), Sum.inl (if x35.2 > x35.1 then x35.2 else x35.1)] : List Key)).getD (0 : Int)) + (1 : Int))).map (·.1)) vs64)) mu46.im h40
        replace h61 := rep_put (o := .dT (List.zip ((putD s37 ([Sum.inl (if x35.2 < x35.1 then x35.2 else x35.1), Sum.inl (if x35.2 > x35.1 then x35.2 else x35.1)] : List Key) (((Rx.getD s37 ([Sum.inl (if x35.2 < x35.1 then x35.2 else x35.1), Sum.inl (if x35.2 > x35.1 then x35.2 else x35.1)] : List Key)).getD (0 : Int)) + (1 : Int))).map (·.1)) vs64)) mu46.im h61
        replace hW := wd_put (o := .dT (List.zip ((putD s37 ([Sum.inl (if x35.2 < x35.1 then x35.2 else x35.1), Sum.inl (if x35.2 > x35.1 then x35.2 else x35.1)] : List Key) (((Rx.getD s37 ([Sum.inl (if x35.2 < x35.1 then x35.2 else x35.1), Sum.inl (if x35.2 > x35.1 then x35.2 else x35.1)] : List Key)).getD (0 : Int)) + (1 : Int))).map (·.1)) vs64)) hW mu46
        replace mu46 := mk68
        generalize upd H63 L1 (.dT (List.zip ((putD s37 ([Sum.inl (if x35.2 < x35.1 then x35.2 else x35.1), Sum.inl (if x35.2 > x35.1 then x35.2 else x35.1)] : List Key) (((Rx.getD s37 ([Sum.inl (if x35.2 < x35.1 then x35.2 else x35.1), Sum.inl (if x35.2 > x35.1 then x35.2 else x35.1)] : List Key)).getD (0 : Int)) + (1 : Int))).map (·.1)) vs64)) = H69 at *
        replace mu46 : MutO (L1 :: ms) [] H_0 H69 L1 (D.dcT ((putD s37 ([Sum.inl (if x35.2 < x35.1 then x35.2 else x35.1), Sum.inl (if x35.2 > x35.1 then x35.2 else x35.1)] : List Key) (((Rx.getD s37 ([Sum.inl (if x35.2 < x35.1 then x35.2 else x35.1), Sum.inl (if x35.2 > x35.1 then x35.2 else x35.1)] : List Key)).getD (0 : Int)) + (1 : Int))).map (·.1)) ((putD s37 ([Sum.inl (if x35.2 < x35.1 then x35.2 else x35.1), Sum.inl (if x35.2 > x35.1 then x35.2 else x35.1)] : List Key) (((Rx.getD s37 ([Sum.inl (if x35.2 < x35.1 then x35.2 else x35.1), Sum.inl (if x35.2 > x35.1 then x35.2 else x35.1)] : List Key)).getD (0 : Int)) + (1 : Int))).map fun y_ : List Key × Int => (D.v (V.int y_.2)))) := mu46
        clear mk68
        exact hN42 ((putD s37 ([Sum.inl (if x35.2 < x35.1 then x35.2 else x35.1), Sum.inl (if x35.2 > x35.1 then x35.2 else x35.1)] : List Key) (((Rx.getD s37 ([Sum.inl (if x35.2 < x35.1 then x35.2 else x35.1), Sum.inl (if x35.2 > x35.1 then x35.2 else x35.1)] : List Key)).getD (0 : Int)) + (1 : Int)))) _ _ hM ⟨_, _, _, rfl, hW, hk39, mu46⟩
      · skip
        clear mu28
        rintro s70 _ H76 hM ⟨w72, w73, w74, rfl, hW, hk71, mu75⟩
        replace h_table := rep_keep hk71 h_table
        replace h7 := rep_keep hk71 h7
        replace hk20 := Keep.trans hk20 hk71
        replace h21 := rep_keep hk71 h21
        exact hN23 (s70) _ _ hM ⟨_, _, _, _, rfl, hW, hk20, mu75⟩
    · skip
      clear mu4
      rintro s77 _ H84 hM ⟨w79, w80, w81, w82, rfl, hW, hk78, mu83⟩
      replace h_table := rep_keep hk78 h_table
      replace h7 := rep_keep hk78 h7
      have h85 := mo_rep_dr dr_here nm3 mu83
      replace hW := wd_dr dr_here mu83.hp hW
      replace h_table := rep_dr dr_here h_table
      replace h7 := rep_dr dr_here h7
      clear mu83
      refine ⟨_, rfl, ?_⟩
      apply rep_prop h_table
      intro _ h86
      refine ⟨ms, _, x_table, _, rfl, hW.enter0, h86, hM, fun r87 u90 H91 hM e89 h88 => ?_⟩
      replace h_table := rep_ext e89 h_table
      replace h7 := rep_ext e89 h7
      replace h85 := rep_ext e89 h85
      replace hW := hW.ret0 e89
      obtain rfl := of_v h88
      refine ⟨_, rfl, ?_⟩
      refine for_rangeG (S := Unit) (lo := (0 : Int)) (hi := r87) (N := Int.toNat r87) (fun (s : Unit) σ_ h_ => ∃ (w_0 : Option V), ∃ (w_1 : Option V), ∃ (w_2 : Option V), σ_ = [some v_table, some (V.ref L1), w79, w80, w81, w82, w_0, w_1, w_2] ∧ Wd ms [] [] H_0 h_ ∧ Keep ms H91 h_) () (by simp) hM ⟨_, _, _, rfl, hW, Keep.refl⟩ ?_ ?_
      · skip
        rintro x92 s94 k95 _ H103 ⟨w100, w101, w102, rfl, hW, hk96⟩ hM Nx98 hN99
        replace h_table := rep_keep hk96 h_table
        replace h7 := rep_keep hk96 h7
        replace h85 := rep_keep hk96 h85
        refine ⟨_, rfl, ?_⟩
        refine ⟨_, _, rfl, rfl, ?_⟩
        refine ⟨_, rfl, ?_⟩
        apply rep_prop h_table
        intro _ h104
        refine ⟨ms, _, x_table, _, rfl, hW.enter0, h104, hM, fun r105 u108 H109 hM e107 h106 => ?_⟩
        replace h_table := rep_ext e107 h_table
        replace h7 := rep_ext e107 h7
        replace h85 := rep_ext e107 h85
        replace hk96 := keep_ext e107 hk96
        replace hW := hW.ret0 e107
        obtain rfl := of_v h106
        refine ⟨_, _, rfl, ?_⟩
        refine for_rangeG (S := Unit) (lo := (x92 + (1 : Int))) (hi := r105) (N := Int.toNat (r105 - (x92 + (1 : Int)))) (fun (s : Unit) σ_ h_ => ∃ (w_0 : Option V), ∃ (w_1 : Option V), σ_ = [some v_table, some (V.ref L1), w79, w80, w81, w82, some (V.int x92), w_0, w_1] ∧ Wd ms [] [] H_0 h_ ∧ Keep ms H109 h_) () (by simp) hM ⟨_, _, rfl, hW, Keep.refl⟩ ?_ ?_
        · skip
          rintro x110 s112 k113 _ H120 ⟨w118, w119, rfl, hW, hk114⟩ hM Nx116 hN117
          replace h_table := rep_keep hk114 h_table
          replace h7 := rep_keep hk114 h7
          replace h85 := rep_keep hk114 h85
          replace hk96 := Keep.trans hk96 hk114
          refine ⟨_, rfl, ?_⟩
          apply rep_isDT h85
          intro p121 he122
          refine ⟨_, rfl, ?_⟩
          refine ⟨_, rfl, ?_⟩
          refine ⟨(by show 2 ≤ sizeLine; decide), ?_⟩
          intro p123 n127
          have e124 := Rx.Ext.new (H := H120) (o := (HO.tup [V.int x92, V.int x110])) n127
          have hp125 : upd H120 p123 (HO.tup [V.int x92, V.int x110]) p123 = some (HO.tup [V.int x92, V.int x110]) := upd_same
          generalize upd H120 p123 (HO.tup [V.int x92, V.int x110]) = H128 at e124 hp125 ⊢
          have h126 : rep ms H128 (D.tup [(D.v (V.int x92)), (D.v (V.int x110))]) (.ref p123) := rep_tup_mk hW n127 e124 hp125 (repL_cons rep_v (repL_cons rep_v repL_nil))
          replace h_table := rep_ext e124 h_table
          replace h7 := rep_ext e124 h7
          replace h85 := rep_ext e124 h85
          replace hk96 := keep_ext e124 hk96
          replace hk114 := keep_ext e124 hk114
          replace hW := hW.ret0 e124
          refine ⟨_, rep_dgetO (m := s77) (ks := ([Sum.inl x92, Sum.inl x110] : List Key)) h85 he122 h126 rfl, ?_⟩
          rw [getO_int]
          refine ⟨_, rfl, ?_⟩
          refine ⟨rfl, ?_⟩
          refine ⟨_, rfl, ?_⟩
          refine ite3 hM (fun hM => ?_) (fun hM => ?_)
          · skip
            refine ⟨_, rfl, ?_⟩
            refine ⟨_, rfl, ?_⟩
            refine ⟨_, rfl, ?_⟩
            refine ⟨(by show 3 ≤ sizeLine; decide), ?_⟩
            intro p129 n133
            have e130 := Rx.Ext.new (H := H128) (o := (HO.tup [V.int x92, V.int x110, V.int ((Rx.getD s77 ([Sum.inl x92, Sum.inl x110] : List Key)).getD (0 : Int))])) n133
            have hp131 : upd H128 p129 (HO.tup [V.int x92, V.int x110, V.int ((Rx.getD s77 ([Sum.inl x92, Sum.inl x110] : List Key)).getD (0 : Int))]) p129 = some (HO.tup [V.int x92, V.int x110, V.int ((Rx.getD s77 ([Sum.inl x92, Sum.inl x110] : List Key)).getD (0 : Int))]) := upd_same
            generalize upd H128 p129 (HO.tup [V.int x92, V.int x110, V.int ((Rx.getD s77 ([Sum.inl x92, Sum.inl x110] : List Key)).getD (0 : Int))]) = H134 at e130 hp131 ⊢
            have h132 : rep ms H134 (D.tup [(D.v (V.int x92)), (D.v (V.int x110)), (D.v (V.int ((Rx.getD s77 ([Sum.inl x92, Sum.inl x110] : List Key)).getD (0 : Int))))]) (.ref p129) := rep_tup_mk hW n133 e130 hp131 (repL_cons rep_v (repL_cons rep_v (repL_cons rep_v repL_nil)))
            replace h_table := rep_ext e130 h_table
            replace h7 := rep_ext e130 h7
            replace h85 := rep_ext e130 h85
            replace hk96 := keep_ext e130 hk96
            replace hk114 := keep_ext e130 hk114
            replace h126 := rep_ext e130 h126
            replace hW := hW.ret0 e130
            exact hQ (some (x92, x110, ((Rx.getD s77 ([Sum.inl x92, Sum.inl x110] : List Key)).getD (0 : Int)))) _ _ hM hW.out h132
          · skip
            exact hN117 () _ _ hM ⟨_, _, rfl, hW, hk114⟩
        · skip
          rintro s135 _ H139 hM ⟨w137, w138, rfl, hW, hk136⟩
          replace h_table := rep_keep hk136 h_table
          replace h7 := rep_keep hk136 h7
          replace h85 := rep_keep hk136 h85
          replace hk96 := Keep.trans hk96 hk136
          exact hN99 () _ _ hM ⟨_, _, _, rfl, hW, hk96⟩
      · skip
        rintro s140 _ H145 hM ⟨w142, w143, w144, rfl, hW, hk141⟩
        replace h_table := rep_keep hk141 h_table
        replace h7 := rep_keep hk141 h7
        replace h85 := rep_keep hk141 h85
        exact hQ none _ _ hM hW.out rep_v
def M_is_single (x_table : (List (List (Int × Int)))) (KM : Bool → Prop) : Prop :=
  (M_first_odd_pair x_table fun r1 => (KM (Option.isNone r1)))
def sp_is_single (A : Ad) : Sp := fun vs H Q _ => ∃ (ms : List Addr) (v_table : V) (x_table : (List (List (Int × Int)))) (KM : Bool → Prop), vs = [v_table] ∧ Wd ms [] [] H H ∧ rep ms H (eTable A x_table) v_table ∧ M_is_single x_table KM ∧ ∀ (r : Bool) (u : V) (H1 : Hp), KM r → Ret [] H H1 → rep ms H1 (D.v (V.bl r)) u → Q u H1
set_option maxHeartbeats 16000000 in
theorem ok_is_single {P : Program} {w : World} {K : PySem.W.Frag} {mg : Str → Option Value} {base : Heap} {A : Ad} (T : Txt w K mg A) : FnOk P w K mg base CX0 4 A.a_is_single A.d_is_single ["table"] (sp_is_single A) := by
  refine T.F_is_single.ok sc_is_single (fun vs H Q E h => ?_) (fun cdv A_ outer s_ H_0 vs Q E hr h => ?_)
  · obtain ⟨ms, v_table, x_table, KM, rfl, _⟩ := h
    rfl
  · obtain ⟨ms, v_table, x_table, KM, rfl, hW, h_table, hM, hQ⟩ := h
    unfold M_is_single at hM
    refine ⟨_, (pss_one (ps_ret (pe_cmpR op_isN (pe_call (ok_first_odd_pair T) (hr.mono (by decide)) (by rfl) T.g_first_odd_pair T.F_first_odd_pair.kp T.b_first_odd_pair .nil pass0 (pa_cons (pv 0) pa_nil)) pe_non (nomark _)))), ?_⟩
    refine ⟨_, rfl, ?_⟩
    refine ⟨ms, _, x_table, _, rfl, hW.enter0, h_table, hM, fun r1 u4 H5 hM e3 h2 => ?_⟩
    replace h_table := rep_ext e3 h_table
    replace hW := hW.ret0 e3
    refine ⟨rfl, ?_⟩
    rw [rep_isN (fun _ => ⟨_, rfl⟩) h2]
    exact hQ (Option.isNone r1) _ _ hM hW.out rep_v
def M_any_way (x_days_here : (List (List (Int × Int)))) (KM : (List (List (Int × Int))) → Prop) : Prop :=
  (forC (fun (x11 : (List (Int × Int))) (s13 : (List (List (Int × Int)))) (k14 : ((List (List (Int × Int)))) → Prop) => (x11.length < 100000 ∧ mapC (fun (x38 : (Int × Int)) (k31 : (Int × Int) → Prop) => (∃ KB57 : (Int × Int) → Prop, (M_draw (2 : Int) fun r60 => (if (decide (V.int r60 = V.int (0 : Int))) = true then (KB57 (x38.2, x38.1)) else (KB57 (x38.1, x38.2)))) ∧ ∀ r77 : (Int × Int), KB57 r77 → (k31 r77))) x11 [] fun ys87 => (s13.length < 16777216 ∧ (k14 ((s13 ++ [ys87])))))) x_days_here (([] : List (List (Int × Int)))) fun s98 => (KM s98))
def sp_any_way (A : Ad) : Sp := fun vs H Q _ => ∃ (ms : List Addr) (ap : Addr) (v_days_here : V) (x_days_here : (List (List (Int × Int)))) (KM : (List (List (Int × Int))) → Prop), vs = [.ref ap, v_days_here] ∧ Wd ms [(ap, none)] [] H H ∧ rep ms H (D.lst (x_days_here.map (fun y_ : (List (Int × Int)) => (D.lst (y_.map (fun y_ : (Int × Int) => (D.tup [(D.v (V.int y_.1)), (D.v (V.int y_.2))]))))))) v_days_here ∧ M_any_way x_days_here KM ∧ ∀ (r : (List (List (Int × Int)))) (u : V) (H1 : Hp), KM r → Ret [(ap, none)] H H1 → rep ms H1 (D.lst (r.map (fun y_ : (List (Int × Int)) => (D.lst (y_.map (fun y_ : (Int × Int) => (D.tup [(D.v (V.int y_.1)), (D.v (V.int y_.2))]))))))) u → Q u H1
set_option maxHeartbeats 16000000 in
theorem ok_any_way {P : Program} {w : World} {K : PySem.W.Frag} {mg : Str → Option Value} {base : Heap} {A : Ad} (T : Txt w K mg A) : FnOk P w K mg base CX0 2 A.a_any_way A.d_any_way ["_law_pot_here", "_law_days_here"] (sp_any_way A) := by
  refine T.F_any_way.ok sc_any_way (fun vs H Q E h => ?_) (fun cdv A_ outer s_ H_0 vs Q E hr h => ?_)
  · obtain ⟨ms, ap, v_days_here, x_days_here, KM, rfl, _⟩ := h
    rfl
  · obtain ⟨ms, ap, v_days_here, x_days_here, KM, rfl, hW, h_days_here, hM, hQ⟩ := h
    unfold M_any_way at hM
    refine ⟨_, (pss_cons (ps_set (i := 2) sc_any_way.nd rfl (by first | exact Or.inl rfl | exact Or.inr rfl) (pe_lst pa_nil)) (pss_cons (ps_for PassesOwn.never rfl (pi_list (pv 1)) (pg_name (i := 3) sc_any_way.nd rfl (by first | exact Or.inl rfl | exact Or.inr rfl)) (pss_one (ps_expr (pe_bmK (K := K) rfl PySem.F.plainAttrs_list PySem.F.slot_list_append PySem.F.type_list_append mt_append (pv 2) (pa_cons (pe_lc (own := [("_law_home", 4), ("_law_away", 5)]) (g := (gTup K 2 (gCons (gName 4) (gCons (gName 5) gNil)))) rfl sc_any_way.nd (pi_list (pv 3)) (blkOk_by (N := ["_law_pot_here", "_law_days_here", "_law_found", "_law_meets", "_law_home", "_law_away"]) (sc := defScope s_any_way) (by decide +kernel)) (fun _ _ _ _ _ => (pg_tup rfl (pgs_cons (pg_name (i := 4) sc_any_way.nd rfl (by first | exact Or.inl rfl | exact Or.inr rfl)) (pgs_cons (pg_name (i := 5) sc_any_way.nd rfl (by first | exact Or.inl rfl | exact Or.inr rfl)) pgs_nil)))) (fun _ _ _ _ _ => pts_nil) (fun _ _ _ _ _ => (pe_up (pe_ifExp (pt_cmpR op_eq (pe_call (ok_draw T) (hr.mono (by decide)) (by rfl) T.g_draw T.F_draw.kp T.b_draw .nil pass0 (pa_cons (pv 0) (pa_cons pe_int pa_nil))) pe_int (nomark _)) (pe_tup (pa_cons (pv 5) (pa_cons (pv 4) pa_nil))) (pe_tup (pa_cons (pv 4) (pa_cons (pv 5) pa_nil))))))) pa_nil))))) (pss_one (ps_ret (pv 2))))), ?_⟩
    refine ⟨(by show 0 ≤ sizeLine; decide), ?_⟩
    intro L1 nl2
    have nm3 := nm_new hW nl2
    have mu4 := mo_newL (ds := ([] : List (List (Int × Int))).map (fun y_ : (List (Int × Int)) => (D.lst (y_.map (fun y_ : (Int × Int) => (D.tup [(D.v (V.int y_.1)), (D.v (V.int y_.2))])))))) (vs := []) hW nl2 repL_nil
    replace h_days_here := rep_cell (o := .lst []) nl2 h_days_here
    replace hW := wd_cell (o := .lst []) hW nl2
    generalize upd H_0 L1 (.lst []) = H5 at *
    replace mu4 : MutO (L1 :: ms) [(ap, none)] H_0 H5 L1 (D.lst (([] : List (List (Int × Int))).map (fun y_ : (List (Int × Int)) => (D.lst (y_.map (fun y_ : (Int × Int) => (D.tup [(D.v (V.int y_.1)), (D.v (V.int y_.2))]))))))) := mu4
    refine ⟨_, rfl, ?_⟩
    apply rep_iter h_days_here
    intro a6 xs7 _ an8 hp9 hl10
    refine for_listG (S := (List (List (Int × Int)))) (items := x_days_here) (e := (fun y_ : (List (Int × Int)) => (D.lst (y_.map (fun y_ : (Int × Int) => (D.tup [(D.v (V.int y_.1)), (D.v (V.int y_.2))])))))) (ms := (L1 :: ms)) (fun (s : (List (List (Int × Int)))) σ_ h_ => ∃ (w_0 : Option V), σ_ = [some (V.ref ap), some v_days_here, some (V.ref L1), w_0, none, none] ∧ Wd (L1 :: ms) [(ap, none)] [] H_0 h_ ∧ Keep (L1 :: ms) H5 h_ ∧ MutO (L1 :: ms) [(ap, none)] H_0 h_ L1 (D.lst (s.map (fun y_ : (List (Int × Int)) => (D.lst (y_.map (fun y_ : (Int × Int) => (D.tup [(D.v (V.int y_.1)), (D.v (V.int y_.2))])))))))) (([] : List (List (Int × Int)))) an8 hp9 hl10 (fun _ _ _ z_ => by obtain ⟨_, _, _, q_, _⟩ := z_; exact q_) hM ⟨_, rfl, hW, Keep.refl, mu4⟩ ?_ ?_
    · skip
      clear mu4
      rintro x11 u12 s13 k14 _ H21 ⟨w19, rfl, hW, hk15, mu20⟩ h16 hM Nx17 hN18
      replace h_days_here := rep_keep hk15 h_days_here
      refine ⟨_, rfl, ?_⟩
      refine ⟨mo_tyL mu20, ?_⟩
      refine ⟨_, rfl, ?_⟩
      apply rep_iter h16
      intro a22 xs23 _ an24 hp25 hl26
      refine fun L27 nl28 => ?_
      have nm42 := nm_new hW nl28
      have kn43 := keep_none (w := hW) nl28 hk15
      have ne44 := mo_ne nl28 mu20
      refine lc_listG (L := L27) (fun n_ ys_ h_ => Wd (L27 :: (L1 :: ms)) [(ap, none)] [] H_0 h_ ∧ Keep (L27 :: (L1 :: ms)) H21 h_ ∧ MutO (L27 :: (L1 :: ms)) [(ap, none)] H_0 h_ L27 (D.lst (ys_.map (fun y_ : (Int × Int) => (D.tup [(D.v (V.int y_.1)), (D.v (V.int y_.2))])))) ∧ ys_.length ≤ n_ ∧ MutO (L27 :: (L1 :: ms)) [(ap, none)] H_0 h_ L1 (D.lst (s13.map (fun y_ : (List (Int × Int)) => (D.lst (y_.map (fun y_ : (Int × Int) => (D.tup [(D.v (V.int y_.1)), (D.v (V.int y_.2))])))))))) (items := x11) (e := (fun y_ : (Int × Int) => (D.tup [(D.v (V.int y_.1)), (D.v (V.int y_.2))]))) an24 hp25 hl26 nl28 (fun _ _ _ q_ => q_.2.1) hM ⟨wd_cell hW nl28, keep_cell nl28 Keep.refl, mo_newL (ds := []) hW nl28 repL_nil, Nat.le_refl _, mo_cell nl28 mu20⟩ ?_ ?_
      · skip
        clear mu20
        rintro x38 u39 n29 ys30 k31 H45 hn ⟨hW, hk32, mu33, ln34, mu46⟩ h40 hM Nx37 hN35
        replace h_days_here := rep_keep hk32 (rep_new nl28 h_days_here)
        replace hk15 := Keep.trans (Keep.new hk15) hk32
        replace h16 := rep_keep hk32 (rep_new nl28 h16)
        apply rep_gtup h40 rfl
        intro vs47 hv48
        obtain ⟨u49, us50, rfl, h51, hv52⟩ := repL_uncons hv48
        obtain rfl := of_v h51
        obtain ⟨u53, us54, rfl, h55, hv56⟩ := repL_uncons hv52
        obtain rfl := of_v h55
        obtain rfl := repL_empty hv56
        refine ⟨_, _, rfl, ?_⟩
        refine ⟨_, _, rfl, ?_⟩
        refine ⟨rfl, ?_⟩
        refine ⟨rfl, ?_⟩
        refine tyes_of ?_
        obtain ⟨KB57, hM, hKKB57⟩ := hM
        refine ⟨fun v H1 => ∃ r : (Int × Int), KB57 r ∧ Wd (L27 :: (L1 :: ms)) [(ap, none)] [] H_0 H1 ∧ Keep (L27 :: (L1 :: ms)) H45 H1 ∧ rep (L27 :: (L1 :: ms)) H1 (D.tup [(D.v (V.int r.1)), (D.v (V.int r.2))]) v ∧ MutO (L27 :: (L1 :: ms)) [(ap, none)] H_0 H1 L1 (D.lst (s13.map (fun y_ : (List (Int × Int)) => (D.lst (y_.map (fun y_ : (Int × Int) => (D.tup [(D.v (V.int y_.1)), (D.v (V.int y_.2))]))))))) ∧ MutO (L27 :: (L1 :: ms)) [(ap, none)] H_0 H1 L27 (D.lst (ys30.map (fun y_ : (Int × Int) => (D.tup [(D.v (V.int y_.1)), (D.v (V.int y_.2))])))), ?_, ?_⟩
        · skip
          have hj59 := Keep.refl (ms := (L27 :: (L1 :: ms))) (H := H45)
          refine ⟨_, rfl, ?_⟩
          refine ⟨(L27 :: (L1 :: ms)), ap, (2 : Int), _, rfl, hW.enterP, hM, fun r60 u63 H64 hM e62 h61 => ?_⟩
          replace h_days_here := rep_ret hW e62 h_days_here
          replace hk15 := keep_ret hW e62 hk15
          replace h16 := rep_ret hW e62 h16
          replace hk32 := keep_ret hW e62 hk32
          replace h40 := rep_ret hW e62 h40
          replace hj59 := keep_ret hW e62 hj59
          replace mu46 := mo_ret hW e62 mu46
          replace mu33 := mo_ret hW e62 mu33
          replace hW := hW.retP e62
          obtain rfl := of_v h61
          refine ⟨rfl, ?_⟩
          refine ⟨_, rfl, ?_⟩
          refine ite3 hM (fun hM => ?_) (fun hM => ?_)
          · skip
            refine ⟨_, rfl, ?_⟩
            refine ⟨_, rfl, ?_⟩
            refine ⟨(by show 2 ≤ sizeLine; decide), ?_⟩
            intro p65 n69
            have e66 := Rx.Ext.new (H := H64) (o := (HO.tup [V.int x38.2, V.int x38.1])) n69
            have hp67 : upd H64 p65 (HO.tup [V.int x38.2, V.int x38.1]) p65 = some (HO.tup [V.int x38.2, V.int x38.1]) := upd_same
            generalize upd H64 p65 (HO.tup [V.int x38.2, V.int x38.1]) = H70 at e66 hp67 ⊢
            have h68 : rep (L27 :: (L1 :: ms)) H70 (D.tup [(D.v (V.int x38.2)), (D.v (V.int x38.1))]) (.ref p65) := rep_tup_mk hW n69 e66 hp67 (repL_cons rep_v (repL_cons rep_v repL_nil))
            replace h_days_here := rep_ext e66 h_days_here
            replace hk15 := keep_ext e66 hk15
            replace h16 := rep_ext e66 h16
            replace hk32 := keep_ext e66 hk32
            replace h40 := rep_ext e66 h40
            replace hj59 := keep_ext e66 hj59
            replace mu46 := mo_ext e66 mu46
            replace mu33 := mo_ext e66 mu33
            replace hW := hW.ret0 e66
            exact ⟨(x38.2, x38.1), hM, hW, hj59, h68, mu46, mu33⟩
          · skip
            refine ⟨_, rfl, ?_⟩
            refine ⟨_, rfl, ?_⟩
            refine ⟨(by show 2 ≤ sizeLine; decide), ?_⟩
            intro p71 n75
            have e72 := Rx.Ext.new (H := H64) (o := (HO.tup [V.int x38.1, V.int x38.2])) n75
            have hp73 : upd H64 p71 (HO.tup [V.int x38.1, V.int x38.2]) p71 = some (HO.tup [V.int x38.1, V.int x38.2]) := upd_same
            generalize upd H64 p71 (HO.tup [V.int x38.1, V.int x38.2]) = H76 at e72 hp73 ⊢
            have h74 : rep (L27 :: (L1 :: ms)) H76 (D.tup [(D.v (V.int x38.1)), (D.v (V.int x38.2))]) (.ref p71) := rep_tup_mk hW n75 e72 hp73 (repL_cons rep_v (repL_cons rep_v repL_nil))
            replace h_days_here := rep_ext e72 h_days_here
            replace hk15 := keep_ext e72 hk15
            replace h16 := rep_ext e72 h16
            replace hk32 := keep_ext e72 hk32
            replace h40 := rep_ext e72 h40
            replace hj59 := keep_ext e72 hj59
            replace mu46 := mo_ext e72 mu46
            replace mu33 := mo_ext e72 mu33
            replace hW := hW.ret0 e72
            exact ⟨(x38.1, x38.2), hM, hW, hj59, h74, mu46, mu33⟩
        · skip
          clear mu46
          clear mu33
          rintro u79 Hj58 ⟨r77, hr, hW, hj59, h78, mu80, mu81⟩
          replace hM := hKKB57 r77 hr
          replace h_days_here := rep_keep hj59 h_days_here
          replace hk15 := Keep.trans hk15 hj59
          replace h16 := rep_keep hj59 h16
          replace hk32 := Keep.trans hk32 hj59
          replace h40 := rep_keep hj59 h40
          refine mo_end mu81 hn (by rw [List.length_map]; exact ln34) fun vs82 hr83 => ?_
          have mk85 := mo_setL mu81 (repL_snoc (e := (fun y_ : (Int × Int) => (D.tup [(D.v (V.int y_.1)), (D.v (V.int y_.2))]))) (xs := ys30) (y := r77) hr83 h78)
          replace mu80 := mo_put (o := .lst (vs82 ++ [u79])) mu81.im ne44 mu80
          replace h_days_here := rep_put (o := .lst (vs82 ++ [u79])) mu81.im h_days_here
          replace hk15 := keep_put (o := .lst (vs82 ++ [u79])) mu81.im hk15
          replace h16 := rep_put (o := .lst (vs82 ++ [u79])) mu81.im h16
          replace hk32 := keep_put (o := .lst (vs82 ++ [u79])) mu81.im hk32
          replace h40 := rep_put (o := .lst (vs82 ++ [u79])) mu81.im h40
          replace h78 := rep_put (o := .lst (vs82 ++ [u79])) mu81.im h78
          replace hW := wd_put (o := .lst (vs82 ++ [u79])) hW mu81
          replace mu81 := mk85
          generalize upd Hj58 L27 (.lst (vs82 ++ [u79])) = H86 at *
          replace mu81 : MutO (L27 :: (L1 :: ms)) [(ap, none)] H_0 H86 L27 (D.lst ((ys30 ++ [r77]).map (fun y_ : (Int × Int) => (D.tup [(D.v (V.int y_.1)), (D.v (V.int y_.2))])))) := mu81
          clear mk85
          exact hN35 r77 _ hM ⟨hW, hk32, mu81, by rw [List.length_append]; exact Nat.add_le_add_right ln34 1, mu80⟩
      · skip
        clear mu20
        rintro n29 ys87 H88 hM ⟨hW, hk32, mu33, ln34, mu89⟩
        replace h_days_here := rep_keep hk32 (rep_new nl28 h_days_here)
        replace hk15 := Keep.trans (Keep.new hk15) hk32
        replace h16 := rep_keep hk32 (rep_new nl28 h16)
        clear hk32 ln34
        have h90 := mo_rep_dr dr_here nm42 mu33
        replace hW := wd_dr dr_here mu33.hp hW
        replace h_days_here := rep_dr dr_here h_days_here
        replace hk15 := keep_dr dr_here kn43 hk15
        replace h16 := rep_dr dr_here h16
        replace mu89 := mo_dr dr_here ne44 mu89
        clear mu33
        obtain ⟨g91, hM⟩ := hM
        apply mo_appU mu89 (by rw [List.length_map]; exact g91)
        intro vs92 hr94
        have mk96 := mo_setL mu89 (repL_snoc (e := (fun y_ : (List (Int × Int)) => (D.lst (y_.map (fun y_ : (Int × Int) => (D.tup [(D.v (V.int y_.1)), (D.v (V.int y_.2))])))))) (xs := s13) (y := ys87) hr94 h90)
        replace h_days_here := rep_put (o := .lst (vs92 ++ [(V.ref L27)])) mu89.im h_days_here
        replace hk15 := keep_put (o := .lst (vs92 ++ [(V.ref L27)])) mu89.im hk15
        replace h16 := rep_put (o := .lst (vs92 ++ [(V.ref L27)])) mu89.im h16
        replace h90 := rep_put (o := .lst (vs92 ++ [(V.ref L27)])) mu89.im h90
        replace hW := wd_put (o := .lst (vs92 ++ [(V.ref L27)])) hW mu89
        replace mu89 := mk96
        generalize upd H88 L1 (.lst (vs92 ++ [(V.ref L27)])) = H97 at *
        replace mu89 : MutO (L1 :: ms) [(ap, none)] H_0 H97 L1 (D.lst ((s13 ++ [ys87]).map (fun y_ : (List (Int × Int)) => (D.lst (y_.map (fun y_ : (Int × Int) => (D.tup [(D.v (V.int y_.1)), (D.v (V.int y_.2))]))))))) := mu89
        clear mk96
        exact hN18 ((s13 ++ [ys87])) _ _ hM ⟨_, rfl, hW, hk15, mu89⟩
    · skip
      clear mu4
      rintro s98 _ H102 hM ⟨w100, rfl, hW, hk99, mu101⟩
      replace h_days_here := rep_keep hk99 h_days_here
      have h103 := mo_rep_dr dr_here nm3 mu101
      replace hW := wd_dr dr_here mu101.hp hW
      replace h_days_here := rep_dr dr_here h_days_here
      clear mu101
      refine ⟨_, rfl, ?_⟩
      exact hQ s98 _ _ hM hW.out h103
def M_is_list_lltii (x_value : (List (List (Int × Int)))) (KM : Bool → Prop) : Prop :=
  (KM true)
def sp_is_list_lltii (A : Ad) : Sp := fun vs H Q _ => ∃ (ms : List Addr) (v_value : V) (x_value : (List (List (Int × Int)))) (KM : Bool → Prop), vs = [v_value] ∧ Wd ms [] [] H H ∧ rep ms H (D.lst (x_value.map (fun y_ : (List (Int × Int)) => (D.lst (y_.map (fun y_ : (Int × Int) => (D.tup [(D.v (V.int y_.1)), (D.v (V.int y_.2))]))))))) v_value ∧ M_is_list_lltii x_value KM ∧ ∀ (r : Bool) (u : V) (H1 : Hp), KM r → Ret [] H H1 → rep ms H1 (D.v (V.bl r)) u → Q u H1
set_option maxHeartbeats 16000000 in
theorem ok_is_list_lltii {P : Program} {w : World} {K : PySem.W.Frag} {mg : Str → Option Value} {base : Heap} {A : Ad} (T : Txt w K mg A) : FnOk P w K mg base CX0 1 A.a_is_list A.d_is_list ["value"] (sp_is_list_lltii A) := by
  refine T.F_is_list.ok sc_is_list (fun vs H Q E h => ?_) (fun cdv A_ outer s_ H_0 vs Q E hr h => ?_)
  · obtain ⟨ms, v_value, x_value, KM, rfl, _⟩ := h
    rfl
  · obtain ⟨ms, v_value, x_value, KM, rfl, hW, h_value, hM, hQ⟩ := h
    unfold M_is_list_lltii at hM
    refine ⟨_, (pss_one (ps_ret (pe_callB (call_isiTK (K := K) rfl) (by rfl) T.z_isinstance (by decide +kernel) (pa_cons (pv 0) (pa_cons (pe_tup (pa_cons (pe_bltn (v := .ty "list") (by rfl) T.z_list (by decide +kernel) rfl) (pa_cons (pe_bltn (v := .ty "tuple") (by rfl) T.z_tuple (by decide +kernel) rfl) pa_nil))) pa_nil))))), ?_⟩
    refine ⟨_, rfl, ?_⟩
    refine ⟨(by show 2 ≤ sizeLine; decide), ?_⟩
    intro p1 n2
    have e3 := Rx.Ext.new (H := H_0) (o := (HO.tup [V.ty "list", V.ty "tuple"])) n2
    have hp4 : upd H_0 p1 (HO.tup [V.ty "list", V.ty "tuple"]) p1 = some (HO.tup [V.ty "list", V.ty "tuple"]) := upd_same
    generalize upd H_0 p1 (HO.tup [V.ty "list", V.ty "tuple"]) = H5 at e3 hp4 ⊢
    replace h_value := rep_ext e3 h_value
    replace hW := hW.ret0 e3
    apply rep_isi2 (d := (D.lst (x_value.map (fun y_ : (List (Int × Int)) => (D.lst (y_.map (fun y_ : (Int × Int) => (D.tup [(D.v (V.int y_.1)), (D.v (V.int y_.2))])))))))) (a := "list") (b := "list") (c := "tuple") (r1 := true) (r2 := false) h_value (by rfl) (by rfl) hp4 (by decide +kernel) (by decide +kernel)
    skip
    exact hQ true _ _ hM hW.out rep_v
def M_is_list_ltii (x_value : (List (Int × Int))) (KM : Bool → Prop) : Prop :=
  (KM true)
def sp_is_list_ltii (A : Ad) : Sp := fun vs H Q _ => ∃ (ms : List Addr) (v_value : V) (x_value : (List (Int × Int))) (KM : Bool → Prop), vs = [v_value] ∧ Wd ms [] [] H H ∧ rep ms H (D.lst (x_value.map (fun y_ : (Int × Int) => (D.tup [(D.v (V.int y_.1)), (D.v (V.int y_.2))])))) v_value ∧ M_is_list_ltii x_value KM ∧ ∀ (r : Bool) (u : V) (H1 : Hp), KM r → Ret [] H H1 → rep ms H1 (D.v (V.bl r)) u → Q u H1
set_option maxHeartbeats 16000000 in
theorem ok_is_list_ltii {P : Program} {w : World} {K : PySem.W.Frag} {mg : Str → Option Value} {base : Heap} {A : Ad} (T : Txt w K mg A) : FnOk P w K mg base CX0 1 A.a_is_list A.d_is_list ["value"] (sp_is_list_ltii A) := by
  refine T.F_is_list.ok sc_is_list (fun vs H Q E h => ?_) (fun cdv A_ outer s_ H_0 vs Q E hr h => ?_)
  · obtain ⟨ms, v_value, x_value, KM, rfl, _⟩ := h
    rfl
  · obtain ⟨ms, v_value, x_value, KM, rfl, hW, h_value, hM, hQ⟩ := h
    unfold M_is_list_ltii at hM
    refine ⟨_, (pss_one (ps_ret (pe_callB (call_isiTK (K := K) rfl) (by rfl) T.z_isinstance (by decide +kernel) (pa_cons (pv 0) (pa_cons (pe_tup (pa_cons (pe_bltn (v := .ty "list") (by rfl) T.z_list (by decide +kernel) rfl) (pa_cons (pe_bltn (v := .ty "tuple") (by rfl) T.z_tuple (by decide +kernel) rfl) pa_nil))) pa_nil))))), ?_⟩
    refine ⟨_, rfl, ?_⟩
    refine ⟨(by show 2 ≤ sizeLine; decide), ?_⟩
    intro p1 n2
    have e3 := Rx.Ext.new (H := H_0) (o := (HO.tup [V.ty "list", V.ty "tuple"])) n2
    have hp4 : upd H_0 p1 (HO.tup [V.ty "list", V.ty "tuple"]) p1 = some (HO.tup [V.ty "list", V.ty "tuple"]) := upd_same
    generalize upd H_0 p1 (HO.tup [V.ty "list", V.ty "tuple"]) = H5 at e3 hp4 ⊢
    replace h_value := rep_ext e3 h_value
    replace hW := hW.ret0 e3
    apply rep_isi2 (d := (D.lst (x_value.map (fun y_ : (Int × Int) => (D.tup [(D.v (V.int y_.1)), (D.v (V.int y_.2))]))))) (a := "list") (b := "list") (c := "tuple") (r1 := true) (r2 := false) h_value (by rfl) (by rfl) hp4 (by decide +kernel) (by decide +kernel)
    skip
    exact hQ true _ _ hM hW.out rep_v
def M_is_round_ltii (x_value : (List (Int × Int))) (KM : Bool → Prop) : Prop :=
  (M_is_list_ltii x_value fun r1 => (if (!r1) = true then (KM false) else (if (decide ((x_value.length : Int) < (2 : Int))) = true then (KM false) else (if (decide ((12 : Int) < (x_value.length : Int))) = true then (KM false) else (x_value.length < 100000 ∧ mapC (fun (x22 : (Int × Int)) (k15 : Bool → Prop) => (M_is_meeting x22 fun r28 => (k15 r28))) x_value [] fun ys38 => (if (!(List.all ys38 id)) = true then (KM false) else (((List.flatMap (fun y_ : (Int × Int) => ([y_.1, y_.2] : List Int)) x_value).length ≤ 16777216) ∧ (∀ ys53 : List Int, ys53.Perm (List.flatMap (fun y_ : (Int × Int) => ([y_.1, y_.2] : List Int)) x_value) → ys53.Pairwise (· ≤ ·) → (RgOk (0 : Int) ((2 : Int) * (x_value.length : Int)) ∧ (((plainD (D.lst (ys53.map (fun y_ : Int => (D.v (V.int y_))))) = true ∧ plainD (D.lst ((rangeI (0 : Int) ((2 : Int) * (x_value.length : Int))).map (fun y_ : Int => (D.v (V.int y_))))) = true ∧ SeqAt.shaped (pyOf (D.lst (ys53.map (fun y_ : Int => (D.v (V.int y_)))))) = true ∧ SeqAt.shaped (pyOf (D.lst ((rangeI (0 : Int) ((2 : Int) * (x_value.length : Int))).map (fun y_ : Int => (D.v (V.int y_)))))) = true)) ∧ (KM (PyData.eqv (pyOf (D.lst (ys53.map (fun y_ : Int => (D.v (V.int y_)))))) (pyOf (D.lst ((rangeI (0 : Int) ((2 : Int) * (x_value.length : Int))).map (fun y_ : Int => (D.v (V.int y_))))))))))))))))))
def sp_is_round_ltii (A : Ad) : Sp := fun vs H Q _ => ∃ (ms : List Addr) (v_value : V) (x_value : (List (Int × Int))) (KM : Bool → Prop), vs = [v_value] ∧ Wd ms [] [] H H ∧ rep ms H (D.lst (x_value.map (fun y_ : (Int × Int) => (D.tup [(D.v (V.int y_.1)), (D.v (V.int y_.2))])))) v_value ∧ M_is_round_ltii x_value KM ∧ ∀ (r : Bool) (u : V) (H1 : Hp), KM r → Ret [] H H1 → rep ms H1 (D.v (V.bl r)) u → Q u H1
set_option maxHeartbeats 16000000 in
theorem ok_is_round_ltii {P : Program} {w : World} {K : PySem.W.Frag} {mg : Str → Option Value} {base : Heap} {A : Ad} (T : Txt w K mg A) : FnOk P w K mg base CX0 3 A.a_is_round A.d_is_round ["value"] (sp_is_round_ltii A) := by
  refine T.F_is_round.ok sc_is_round (fun vs H Q E h => ?_) (fun cdv A_ outer s_ H_0 vs Q E hr h => ?_)
  · obtain ⟨ms, v_value, x_value, KM, rfl, _⟩ := h
    rfl
  · obtain ⟨ms, v_value, x_value, KM, rfl, hW, h_value, hM, hQ⟩ := h
    unfold M_is_round_ltii at hM
    refine ⟨_, (pss_cons (ps_if (PW.pt (pw_or (pt_not (pt_val (pe_call (ok_is_list_ltii T) (hr.mono (by decide)) (by rfl) T.g_is_list T.F_is_list.kp T.b_is_list .nil pass0 (pa_cons (pv 0) pa_nil)))) (pw_or (pt_cmpR op_lt (pe_callB (call_lenK (K := K) rfl) (by rfl) T.z_len PySem.boot_len (pa_cons (pv 0) pa_nil)) (C8.pe_gc (by rfl) T.c_FEWEST_MEETINGS) (nomark _)) (pw_or1 (pt_cmpR op_gt (pe_callB (call_lenK (K := K) rfl) (by rfl) T.z_len PySem.boot_len (pa_cons (pv 0) pa_nil)) (C8.pe_gc (by rfl) T.c_MOST_MEETINGS) (nomark _)))))) (pss_one (ps_ret pe_bl)) pss_nil) (pss_cons (ps_if (pt_not (pt_val (pe_callB (cr_allK (K := K) rfl rfl) (by rfl) T.z_all (by decide +kernel) (pa_cons (pe_lc (own := [("meeting", 1)]) (g := gName 1) rfl sc_is_round.nd (pi_list (pv 0)) (blkOk_by (N := ["value", "meeting", "team"]) (sc := defScope s_is_round) (by decide +kernel)) (fun _ _ _ _ _ => pg_name (i := 1) sc_is_round.nd rfl (by first | exact Or.inl rfl | exact Or.inr rfl)) (fun _ _ _ _ _ => pts_nil) (fun _ _ _ _ _ => (pe_call (ok_is_meeting T) (hr.mono (by decide)) (by rfl) T.g_is_meeting T.F_is_meeting.kp T.b_is_meeting .nil pass0 (pa_cons (pv 1) pa_nil)))) pa_nil)))) (pss_one (ps_ret pe_bl)) pss_nil) (pss_one (ps_ret (pe_cmpR (op_eqDK (K := K) rfl hr.units) (pe_callB (cr_sortedIK (K := K) rfl) (by rfl) T.z_sorted (by decide +kernel) (pa_cons (pe_lc2 (own := [("meeting", 1), ("team", 2)]) (vs1 := [2]) (g := gName 1) (g1 := gName 2) rfl sc_is_round.nd (pi_list (pv 0)) (blkOk_by (N := ["value", "meeting", "team"]) (sc := defScope s_is_round) (by decide +kernel)) (by decide) (fun _ _ _ _ _ => pg_name (i := 1) sc_is_round.nd rfl (by first | exact Or.inl rfl | exact Or.inr rfl)) (fun _ _ _ _ _ => pts_nil) (fun _ _ _ _ _ => pi_tupK (K := K) rfl (pv 1)) (fun _ _ _ _ _ => pg_name (i := 2) sc_is_round.nd rfl (by first | exact Or.inl rfl | exact Or.inr rfl)) (fun _ _ _ _ _ => pts_nil) (fun _ _ _ _ _ => pv 2)) pa_nil)) (pe_listRg rfl (by rfl) T.z_list (prg_1 (by rfl) T.z_range (pe_op op_mul pe_int (pe_callB (call_lenK (K := K) rfl) (by rfl) T.z_len PySem.boot_len (pa_cons (pv 0) pa_nil))))) (nomark _)))))), ?_⟩
    refine ⟨_, rfl, ?_⟩
    refine ⟨ms, _, x_value, _, rfl, hW.enter0, h_value, hM, fun r1 u4 H5 hM e3 h2 => ?_⟩
    replace h_value := rep_ext e3 h_value
    replace hW := hW.ret0 e3
    obtain rfl := of_v h2
    refine ⟨_, rfl, ?_⟩
    refine ite3 hM (fun hM => ?_) (fun hM => ?_)
    · skip
      refine iteT ?_
      exact hQ false _ _ hM hW.out rep_v
    · skip
      refine ⟨_, rfl, ?_⟩
      apply rep_lenL (e := (fun y_ : (Int × Int) => (D.tup [(D.v (V.int y_.1)), (D.v (V.int y_.2))]))) (xs := x_value) h_value
      refine ⟨_, _, rfl, rfl, ?_⟩
      refine ⟨_, rfl, ?_⟩
      refine ite3 hM (fun hM => ?_) (fun hM => ?_)
      · skip
        refine iteT ?_
        exact hQ false _ _ hM hW.out rep_v
      · skip
        refine ⟨_, rfl, ?_⟩
        apply rep_lenL (e := (fun y_ : (Int × Int) => (D.tup [(D.v (V.int y_.1)), (D.v (V.int y_.2))]))) (xs := x_value) h_value
        refine ⟨_, _, rfl, rfl, ?_⟩
        refine ⟨_, rfl, ?_⟩
        refine ite3 hM (fun hM => ?_) (fun hM => ?_)
        · skip
          exact hQ false _ _ hM hW.out rep_v
        · skip
          refine ⟨_, rfl, ?_⟩
          apply rep_iter h_value
          intro a6 xs7 _ an8 hp9 hl10
          refine fun L11 nl12 => ?_
          have nm26 := nm_new hW nl12
          refine lc_listG (L := L11) (fun n_ ys_ h_ => Wd (L11 :: ms) [] [] H_0 h_ ∧ Keep (L11 :: ms) H5 h_ ∧ MutO (L11 :: ms) [] H_0 h_ L11 (D.lst (ys_.map (fun y_ : Bool => (D.v (V.bl y_))))) ∧ ys_.length ≤ n_) (items := x_value) (e := (fun y_ : (Int × Int) => (D.tup [(D.v (V.int y_.1)), (D.v (V.int y_.2))]))) an8 hp9 hl10 nl12 (fun _ _ _ q_ => q_.2.1) hM ⟨wd_cell hW nl12, keep_cell nl12 Keep.refl, mo_newL (ds := []) hW nl12 repL_nil, Nat.le_refl _⟩ ?_ ?_
          · skip
            rintro x22 u23 n13 ys14 k15 H27 hn ⟨hW, hk16, mu17, ln18⟩ h24 hM Nx21 hN19
            replace h_value := rep_keep hk16 (rep_new nl12 h_value)
            refine ⟨rfl, ?_⟩
            refine tyes_of ?_
            refine ⟨_, rfl, ?_⟩
            refine ⟨(L11 :: ms), _, x22, _, rfl, hW.enter0, h24, hM, fun r28 u31 H32 hM e30 h29 => ?_⟩
            replace h_value := rep_ext e30 h_value
            replace hk16 := keep_ext e30 hk16
            replace h24 := rep_ext e30 h24
            replace mu17 := mo_ext e30 mu17
            replace hW := hW.ret0 e30
            obtain rfl := of_v h29
            refine mo_end mu17 hn (by rw [List.length_map]; exact ln18) fun vs33 hr34 => ?_
            have mk36 := mo_setL mu17 (repL_snoc (e := (fun y_ : Bool => (D.v (V.bl y_)))) (xs := ys14) (y := r28) hr34 rep_v)
            replace h_value := rep_put (o := .lst (vs33 ++ [V.bl r28])) mu17.im h_value
            replace hk16 := keep_put (o := .lst (vs33 ++ [V.bl r28])) mu17.im hk16
            replace h24 := rep_put (o := .lst (vs33 ++ [V.bl r28])) mu17.im h24
            replace hW := wd_put (o := .lst (vs33 ++ [V.bl r28])) hW mu17
            replace mu17 := mk36
            generalize upd H32 L11 (.lst (vs33 ++ [V.bl r28])) = H37 at *
            replace mu17 : MutO (L11 :: ms) [] H_0 H37 L11 (D.lst ((ys14 ++ [r28]).map (fun y_ : Bool => (D.v (V.bl y_))))) := mu17
            clear mk36
            exact hN19 r28 _ hM ⟨hW, hk16, mu17, by rw [List.length_append]; exact Nat.add_le_add_right ln18 1⟩
          · skip
            rintro n13 ys38 H39 hM ⟨hW, hk16, mu17, ln18⟩
            replace h_value := rep_keep hk16 (rep_new nl12 h_value)
            clear hk16 ln18
            have h40 := mo_rep_dr dr_here nm26 mu17
            replace hW := wd_dr dr_here mu17.hp hW
            replace h_value := rep_dr dr_here h_value
            clear mu17
            apply rep_all h40
            refine ⟨_, rfl, ?_⟩
            refine ite3 hM (fun hM => ?_) (fun hM => ?_)
            · skip
              exact hQ false _ _ hM hW.out rep_v
            · skip
              refine ⟨_, rfl, ?_⟩
              apply rep_iter h_value
              intro a41 xs42 _ an43 hp44 hl45
              obtain ⟨g46, hM⟩ := hM
              refine lc2_flatC (K := K) (items := x_value) (e := (fun y_ : (Int × Int) => (D.tup [(D.v (V.int y_.1)), (D.v (V.int y_.2))]))) (g := (fun y_ : (Int × Int) => ([y_.1, y_.2] : List Int))) (c := V.int) (fun _ => rfl) an43 hp44 hl45 g46 (show 1 < List.length _ from (by decide : 1 < 3)) (show 2 < List.length _ from (by decide : 2 < 3)) (by decide) ?_
              intro p47 n51
              have e48 := Rx.Ext.new (H := H39) (o := (HO.lst ((List.flatMap (fun y_ : (Int × Int) => ([y_.1, y_.2] : List Int)) x_value).map V.int))) n51
              have hp49 : upd H39 p47 (HO.lst ((List.flatMap (fun y_ : (Int × Int) => ([y_.1, y_.2] : List Int)) x_value).map V.int)) p47 = some (HO.lst ((List.flatMap (fun y_ : (Int × Int) => ([y_.1, y_.2] : List Int)) x_value).map V.int)) := upd_same
              generalize upd H39 p47 (HO.lst ((List.flatMap (fun y_ : (Int × Int) => ([y_.1, y_.2] : List Int)) x_value).map V.int)) = H52 at e48 hp49 ⊢
              have h50 : rep ms H52 (D.lst ((List.flatMap (fun y_ : (Int × Int) => ([y_.1, y_.2] : List Int)) x_value).map (fun y_ : Int => (D.v (V.int y_))))) (.ref p47) := rep_lst_mk hW n51 e48 hp49 repL_intsM
              replace h_value := rep_ext e48 h_value
              replace h40 := rep_ext e48 h40
              replace hW := hW.ret0 e48
              apply rep_sortI (xs := (List.flatMap (fun y_ : (Int × Int) => ([y_.1, y_.2] : List Int)) x_value)) h50
              intro ys53 hpm54 hst55
              replace hM := hM ys53 hpm54 hst55
              intro p56 n60
              have e57 := Rx.Ext.new (H := H52) (o := (HO.lst (ys53.map V.int))) n60
              have hp58 : upd H52 p56 (HO.lst (ys53.map V.int)) p56 = some (HO.lst (ys53.map V.int)) := upd_same
              generalize upd H52 p56 (HO.lst (ys53.map V.int)) = H61 at e57 hp58 ⊢
              have h59 : rep ms H61 (D.lst (ys53.map (fun y_ : Int => (D.v (V.int y_))))) (.ref p56) := rep_lst_mk hW n60 e57 hp58 repL_intsM
              replace h_value := rep_ext e57 h_value
              replace h40 := rep_ext e57 h40
              replace h50 := rep_ext e57 h50
              replace hW := hW.ret0 e57
              refine ⟨_, rfl, ?_⟩
              apply rep_lenL (e := (fun y_ : (Int × Int) => (D.tup [(D.v (V.int y_.1)), (D.v (V.int y_.2))]))) (xs := x_value) h_value
              refine ⟨_, _, rfl, rfl, .inl ⟨by decide, by decide⟩, ?_⟩
              obtain ⟨g62, hM⟩ := hM
              refine ⟨_, rfl, g62, ?_⟩
              intro p63 n67
              have e64 := Rx.Ext.new (H := H61) (o := (HO.lst (rgV (0 : Int) ((2 : Int) * (x_value.length : Int))))) n67
              have hp65 : upd H61 p63 (HO.lst (rgV (0 : Int) ((2 : Int) * (x_value.length : Int)))) p63 = some (HO.lst (rgV (0 : Int) ((2 : Int) * (x_value.length : Int)))) := upd_same
              generalize upd H61 p63 (HO.lst (rgV (0 : Int) ((2 : Int) * (x_value.length : Int)))) = H68 at e64 hp65 ⊢
              have h66 : rep ms H68 (D.lst ((rangeI (0 : Int) ((2 : Int) * (x_value.length : Int))).map (fun y_ : Int => (D.v (V.int y_))))) (.ref p63) := rep_rg_mk hW n67 e64 hp65
              replace h_value := rep_ext e64 h_value
              replace h40 := rep_ext e64 h40
              replace h50 := rep_ext e64 h50
              replace h59 := rep_ext e64 h59
              replace hW := hW.ret0 e64
              obtain ⟨g69, hM⟩ := hM
              apply rep_eqD (d := (D.lst (ys53.map (fun y_ : Int => (D.v (V.int y_)))))) (e := (D.lst ((rangeI (0 : Int) ((2 : Int) * (x_value.length : Int))).map (fun y_ : Int => (D.v (V.int y_)))))) h59 h66 g69.1 g69.2.1 g69.2.2.1 g69.2.2.2
              exact hQ (PyData.eqv (pyOf (D.lst (ys53.map (fun y_ : Int => (D.v (V.int y_)))))) (pyOf (D.lst ((rangeI (0 : Int) ((2 : Int) * (x_value.length : Int))).map (fun y_ : Int => (D.v (V.int y_))))))) _ _ hM hW.out rep_v
def M_check_rounds_lltii (x_rounds : (List (List (Int × Int)))) (KM : Unit → Prop) : Prop :=
  (M_is_list_lltii x_rounds fun r1 => (if (!r1) = true then False else (if (decide (V.int (x_rounds.length : Int) = V.int (0 : Int))) = true then False else (forC (fun (x11 : (Int × (List (Int × Int)))) (s13 : Unit) (k14 : Unit → Prop) => (M_is_round_ltii x11.2 fun r34 => (if (!r34) = true then False else (0 ≤ (0 : Int) ∧ ∃ g40 : Int.toNat (0 : Int) < x_rounds.length, ∀ x42, x42 = x_rounds[Int.toNat (0 : Int)]'g40 → (if (!(decide (V.int (x11.2.length : Int) = V.int (x42.length : Int)))) = true then False else (k14 ())))))) ((rangeI 0 (x_rounds.length : Int)).zip x_rounds) () fun s44 => (if (decide ((60 : Int) < (x_rounds.length : Int))) = true then False else (KM ()))))))
def sp_check_rounds_lltii (A : Ad) : Sp := fun vs H Q _ => ∃ (ms : List Addr) (v_rounds : V) (x_rounds : (List (List (Int × Int)))) (KM : Unit → Prop), vs = [v_rounds] ∧ Wd ms [] [] H H ∧ rep ms H (D.lst (x_rounds.map (fun y_ : (List (Int × Int)) => (D.lst (y_.map (fun y_ : (Int × Int) => (D.tup [(D.v (V.int y_.1)), (D.v (V.int y_.2))]))))))) v_rounds ∧ M_check_rounds_lltii x_rounds KM ∧ ∀ (r : Unit) (u : V) (H1 : Hp), KM r → Ret [] H H1 → rep ms H1 (D.v V.non) u → Q u H1
set_option maxHeartbeats 16000000 in
theorem ok_check_rounds_lltii {P : Program} {w : World} {K : PySem.W.Frag} {mg : Str → Option Value} {base : Heap} {A : Ad} (T : Txt w K mg A) : FnOk P w K mg base CX0 4 A.a_check_rounds A.d_check_rounds ["rounds"] (sp_check_rounds_lltii A) := by
  refine T.F_check_rounds.ok sc_check_rounds (fun vs H Q E h => ?_) (fun cdv A_ outer s_ H_0 vs Q E hr h => ?_)
  · obtain ⟨ms, v_rounds, x_rounds, KM, rfl, _⟩ := h
    rfl
  · obtain ⟨ms, v_rounds, x_rounds, KM, rfl, hW, h_rounds, hM, hQ⟩ := h
    unfold M_check_rounds_lltii at hM
    refine ⟨_, (pss_cons (ps_if (PW.pt (pw_or (pt_not (pt_val (pe_call (ok_is_list_lltii T) (hr.mono (by decide)) (by rfl) T.g_is_list T.F_is_list.kp T.b_is_list .nil pass0 (pa_cons (pv 0) pa_nil)))) (pw_or1 (pt_cmpR op_eq (pe_callB (call_lenK (K := K) rfl) (by rfl) T.z_len PySem.boot_len (pa_cons (pv 0) pa_nil)) pe_int (nomark _))))) (pss_one ps_never) pss_nil) (pss_cons (ps_for PassesOwn.never rfl (pi_enum (by rfl) T.z_enumerate (pa_cons (pv 0) pa_nil)) (pg_tup rfl (pgs_cons (pg_name (i := 1) sc_check_rounds.nd rfl (by first | exact Or.inl rfl | exact Or.inr rfl)) (pgs_cons (pg_name (i := 2) sc_check_rounds.nd rfl (by first | exact Or.inl rfl | exact Or.inr rfl)) pgs_nil))) (pss_one (ps_if (PW.pt (pw_or (pt_not (pt_val (pe_call (ok_is_round_ltii T) (hr.mono (by decide)) (by rfl) T.g_is_round T.F_is_round.kp T.b_is_round .nil pass0 (pa_cons (pv 2) pa_nil)))) (pw_or1 (pt_cmpR op_ne (pe_callB (call_lenK (K := K) rfl) (by rfl) T.z_len PySem.boot_len (pa_cons (pv 2) pa_nil)) (pe_callB (call_lenK (K := K) rfl) (by rfl) T.z_len PySem.boot_len (pa_cons (pe_ix (ix_listK (K := K) rfl) (pv 0) pe_int (fun _ _ => rfl)) pa_nil)) (nomark _))))) (pss_one ps_never) pss_nil))) (pss_one (ps_if (pt_cmpR op_gt (pe_callB (call_lenK (K := K) rfl) (by rfl) T.z_len PySem.boot_len (pa_cons (pv 0) pa_nil)) (C8.pe_gc (by rfl) T.c_MOST_ROUNDS) (nomark _)) (pss_one ps_never) pss_nil)))), ?_⟩
    refine ⟨_, rfl, ?_⟩
    refine ⟨ms, _, x_rounds, _, rfl, hW.enter0, h_rounds, hM, fun r1 u4 H5 hM e3 h2 => ?_⟩
    replace h_rounds := rep_ext e3 h_rounds
    replace hW := hW.ret0 e3
    obtain rfl := of_v h2
    refine ⟨_, rfl, ?_⟩
    refine ite3 hM (fun hM => ?_) (fun hM => ?_)
    · skip
      refine iteT ?_
      exact hM
    · skip
      refine ⟨_, rfl, ?_⟩
      apply rep_lenL (e := (fun y_ : (List (Int × Int)) => (D.lst (y_.map (fun y_ : (Int × Int) => (D.tup [(D.v (V.int y_.1)), (D.v (V.int y_.2))])))))) (xs := x_rounds) h_rounds
      refine ⟨rfl, ?_⟩
      refine ⟨_, rfl, ?_⟩
      refine ite3 hM (fun hM => ?_) (fun hM => ?_)
      · skip
        exact hM
      · skip
        refine ⟨_, rfl, ?_⟩
        apply rep_iterE h_rounds
        intro a6 xs7 _ an8 hp9 hl10
        refine for_enumG (S := Unit) (items := x_rounds) (e := (fun y_ : (List (Int × Int)) => (D.lst (y_.map (fun y_ : (Int × Int) => (D.tup [(D.v (V.int y_.1)), (D.v (V.int y_.2))])))))) (ms := ms) (fun (s : Unit) σ_ h_ => ∃ (w_0 : Option V), ∃ (w_1 : Option V), σ_ = [some v_rounds, w_0, w_1] ∧ Wd ms [] [] H_0 h_ ∧ Keep ms H5 h_) () an8 hp9 hl10 (fun _ _ _ z_ => by obtain ⟨_, _, _, _, q_⟩ := z_; exact q_) (fun _ _ _ z_ => by obtain ⟨_, _, _, w_, _⟩ := z_; exact w_.tr) hM ⟨_, _, rfl, hW, Keep.refl⟩ ?_ ?_
        · skip
          rintro x11 u12 s13 k14 _ H23 H22 ⟨w19, w20, rfl, hW, hk15⟩ ex21 h16 hM Nx17 hN18
          replace h_rounds := rep_keep hk15 h_rounds
          replace h_rounds := rep_ext ex21 h_rounds
          replace hk15 := keep_ext ex21 hk15
          replace hW := hW.ret0 ex21
          apply rep_gtup h16 rfl
          intro vs24 hv25
          obtain ⟨u26, us27, rfl, h28, hv29⟩ := repL_uncons hv25
          obtain rfl := of_v h28
          obtain ⟨u30, us31, rfl, h32, hv33⟩ := repL_uncons hv29
          obtain rfl := repL_empty hv33
          refine ⟨_, _, rfl, ?_⟩
          refine ⟨_, _, rfl, ?_⟩
          refine ⟨rfl, ?_⟩
          refine ⟨_, rfl, ?_⟩
          refine ⟨ms, _, x11.2, _, rfl, hW.enter0, h32, hM, fun r34 u37 H38 hM e36 h35 => ?_⟩
          replace h_rounds := rep_ext e36 h_rounds
          replace hk15 := keep_ext e36 hk15
          replace h16 := rep_ext e36 h16
          replace h32 := rep_ext e36 h32
          replace hW := hW.ret0 e36
          obtain rfl := of_v h35
          refine ⟨_, rfl, ?_⟩
          refine ite3 hM (fun hM => ?_) (fun hM => ?_)
          · skip
            refine iteT ?_
            exact hM
          · skip
            refine ⟨_, rfl, ?_⟩
            apply rep_lenL (e := (fun y_ : (Int × Int) => (D.tup [(D.v (V.int y_.1)), (D.v (V.int y_.2))]))) (xs := x11.2) h32
            refine ⟨_, rfl, ?_⟩
            obtain ⟨g39, g40, hM⟩ := hM
            apply rep_ixL (e := (fun y_ : (List (Int × Int)) => (D.lst (y_.map (fun y_ : (Int × Int) => (D.tup [(D.v (V.int y_.1)), (D.v (V.int y_.2))])))))) (xs := x_rounds) h_rounds g39 g40
            intro u43 h41
            obtain ⟨x42, x42e⟩ : ∃ x_, x_ = x_rounds[Int.toNat (0 : Int)]'g40 := ⟨_, rfl⟩
            rw [← x42e] at h41
            replace hM := hM x42 x42e
            apply rep_lenL (e := (fun y_ : (Int × Int) => (D.tup [(D.v (V.int y_.1)), (D.v (V.int y_.2))]))) (xs := x42) h41
            refine ⟨rfl, ?_⟩
            refine ⟨_, rfl, ?_⟩
            refine ite3 hM (fun hM => ?_) (fun hM => ?_)
            · skip
              exact hM
            · skip
              exact hN18 () _ _ hM ⟨_, _, rfl, hW, hk15⟩
        · skip
          rintro s44 _ H48 hM ⟨w46, w47, rfl, hW, hk45⟩
          replace h_rounds := rep_keep hk45 h_rounds
          refine ⟨_, rfl, ?_⟩
          apply rep_lenL (e := (fun y_ : (List (Int × Int)) => (D.lst (y_.map (fun y_ : (Int × Int) => (D.tup [(D.v (V.int y_.1)), (D.v (V.int y_.2))])))))) (xs := x_rounds) h_rounds
          refine ⟨_, _, rfl, rfl, ?_⟩
          refine ⟨_, rfl, ?_⟩
          refine ite3 hM (fun hM => ?_) (fun hM => ?_)
          · skip
            exact hM
          · skip
            exact hQ () _ _ hM hW.out rep_v
def M_Table_init_nlltii (x_rounds : (List (List (Int × Int)))) (KM : (List (List (Int × Int))) → Prop) : Prop :=
  (M_check_rounds_lltii x_rounds fun r1 => (x_rounds.length < 100000 ∧ mapC (fun (x22 : (List (Int × Int))) (k15 : (List (Int × Int)) → Prop) => (x22.length < 100000 ∧ mapC (fun (x44 : (Int × Int)) (k37 : (Int × Int) → Prop) => (k37 (x44.1, x44.2))) x22 [] fun ys74 => (∀ ys78 : List (Int × Int), ys78.Perm ys74 → ys78.Pairwise lePI → (k15 ys78)))) x_rounds [] fun ys94 => (KM ys94)))
def sp_Table_init_nlltii (A : Ad) : Sp := fun vs H Q _ => ∃ (ms : List Addr) (p_ dx_ : Addr) (v_rounds : V) (x_rounds : (List (List (Int × Int)))) (KM : (List (List (Int × Int))) → Prop), vs = [.ref p_, v_rounds] ∧ Wd ms [] [] H H ∧ p_ ∈ ms ∧ H p_ = some (.ins A.c_Table dx_ []) ∧ rep ms H (D.lst (x_rounds.map (fun y_ : (List (Int × Int)) => (D.lst (y_.map (fun y_ : (Int × Int) => (D.tup [(D.v (V.int y_.1)), (D.v (V.int y_.2))]))))))) v_rounds ∧ M_Table_init_nlltii x_rounds KM ∧ ∀ (r : (List (List (Int × Int)))) (us : List V) (H1 : Hp), KM r → KpI p_ H H1 → H1 p_ = some (.ins A.c_Table dx_ (List.zip ns_Table us)) → ns_Table.length = us.length → repL ms H1 [(D.lst (r.map (fun y_ : (List (Int × Int)) => (D.lst (y_.map (fun y_ : (Int × Int) => (D.tup [(D.v (V.int y_.1)), (D.v (V.int y_.2))])))))))] us → Q .non H1
set_option maxHeartbeats 16000000 in
theorem ok_Table_init_nlltii {P : Program} {w : World} {K : PySem.W.Frag} {mg : Str → Option Value} {base : Heap} {A : Ad} (T : Txt w K mg A) : FnOk P w K mg base CX0 5 A.a_Table_init A.d_Table_init ["self", "rounds"] (sp_Table_init_nlltii A) := by
  refine T.F_Table_init.ok sc_Table_init (fun vs H Q E h => ?_) (fun cdv A_ outer s_ H_0 vs Q E hr h => ?_)
  · obtain ⟨ms, p_, dx_, v_rounds, x_rounds, KM, rfl, _⟩ := h
    rfl
  · obtain ⟨ms, p_, dx_, v_rounds, x_rounds, KM, rfl, hW, pm_, hp, h_rounds, hM, hQ⟩ := h
    unfold M_Table_init_nlltii at hM
    have hK := ki_refl (p := p_) (H := H_0)
    replace hp : H_0 p_ = some (.ins A.c_Table dx_ (List.zip ([] : List Str) ([] : List V))) := hp
    refine ⟨_, (pss_cons (ps_expr (pe_call (ok_check_rounds_lltii T) (hr.mono (by decide)) (by rfl) T.g_check_rounds T.F_check_rounds.kp T.b_check_rounds .nil pass0 (pa_cons (pv 1) pa_nil))) (pss_one (ps_fld (pv 0) (pe_lc (own := [("meetings", 2)]) (g := gName 2) rfl sc_Table_init.nd (pi_list (pv 1)) (blkOk_by (N := ["self", "rounds", "meetings", "home", "away"]) (sc := defScope s_Table_init) (by decide +kernel)) (fun _ _ _ _ _ => pg_name (i := 2) sc_Table_init.nd rfl (by first | exact Or.inl rfl | exact Or.inr rfl)) (fun _ _ _ _ _ => pts_nil) (fun _ _ _ _ _ => (pe_callB (cr_sortedPK (K := K) rfl) (by rfl) T.z_sorted (by decide +kernel) (pa_cons (pe_lc (own := [("home", 3), ("away", 4)]) (g := (gTup K 2 (gCons (gName 3) (gCons (gName 4) gNil)))) rfl sc_Table_init.nd (pi_listK (K := K) rfl (pv 2)) (blkOk_rel (N := ["self", "rounds", "meetings", "home", "away"]) rfl (by kernel_rfl)) (fun _ _ _ _ _ => (pg_tup rfl (pgs_cons (pg_name (i := 3) sc_Table_init.nd rfl (by first | exact Or.inl rfl | exact Or.inr rfl)) (pgs_cons (pg_name (i := 4) sc_Table_init.nd rfl (by first | exact Or.inl rfl | exact Or.inr rfl)) pgs_nil)))) (fun _ _ _ _ _ => pts_nil) (fun _ _ _ _ _ => (pe_tup (pa_cons (pv 3) (pa_cons (pv 4) pa_nil))))) pa_nil)))) rfl))), ?_⟩
    refine ⟨_, rfl, ?_⟩
    refine ⟨ms, _, x_rounds, _, rfl, hW.enter0, h_rounds, hM, fun r1 u4 H5 hM e3 h2 => ?_⟩
    replace h_rounds := rep_ext e3 h_rounds
    replace hp := Rx.Ext.keep e3 hp
    replace hW := hW.ret0 e3
    obtain rfl := of_v h2
    refine ⟨_, rfl, ?_⟩
    apply rep_iter h_rounds
    intro a6 xs7 _ an8 hp9 hl10
    refine fun L11 nl12 => ?_
    have nm26 := nm_new hW nl12
    refine lc_listG (L := L11) (fun n_ ys_ h_ => Wd (L11 :: ms) [] [] H_0 h_ ∧ Keep (L11 :: ms) H5 h_ ∧ MutO (L11 :: ms) [] H_0 h_ L11 (D.lst (ys_.map (fun y_ : (List (Int × Int)) => (D.lst (y_.map (fun y_ : (Int × Int) => (D.tup [(D.v (V.int y_.1)), (D.v (V.int y_.2))]))))))) ∧ ys_.length ≤ n_ ∧ h_ p_ = some (.ins A.c_Table dx_ (List.zip ([] : List Str) ([] : List V)))) (items := x_rounds) (e := (fun y_ : (List (Int × Int)) => (D.lst (y_.map (fun y_ : (Int × Int) => (D.tup [(D.v (V.int y_.1)), (D.v (V.int y_.2))])))))) an8 hp9 hl10 nl12 (fun _ _ _ q_ => q_.2.1) hM ⟨wd_cell hW nl12, keep_cell nl12 Keep.refl, mo_newL (ds := []) hW nl12 repL_nil, Nat.le_refl _, Rx.Ext.keep (Rx.Ext.new nl12) hp⟩ ?_ ?_
    · skip
      rintro x22 u23 n13 ys14 k15 H27 hn ⟨hW, hk16, mu17, ln18, hp⟩ h24 hM Nx21 hN19
      replace h_rounds := rep_keep hk16 (rep_new nl12 h_rounds)
      refine ⟨rfl, ?_⟩
      refine tyes_of ?_
      refine ⟨_, rfl, ?_⟩
      apply rep_iter h24
      intro a28 xs29 _ an30 hp31 hl32
      refine fun L33 nl34 => ?_
      have nm48 := nm_new hW nl34
      have kn49 := keep_none (w := hW) nl34 hk16
      have ne50 := mo_ne nl34 mu17
      refine lc_listG (L := L33) (fun n_ ys_ h_ => Wd (L33 :: (L11 :: ms)) [] [] H_0 h_ ∧ Keep (L33 :: (L11 :: ms)) H27 h_ ∧ MutO (L33 :: (L11 :: ms)) [] H_0 h_ L33 (D.lst (ys_.map (fun y_ : (Int × Int) => (D.tup [(D.v (V.int y_.1)), (D.v (V.int y_.2))])))) ∧ ys_.length ≤ n_ ∧ MutO (L33 :: (L11 :: ms)) [] H_0 h_ L11 (D.lst (ys14.map (fun y_ : (List (Int × Int)) => (D.lst (y_.map (fun y_ : (Int × Int) => (D.tup [(D.v (V.int y_.1)), (D.v (V.int y_.2))]))))))) ∧ h_ p_ = some (.ins A.c_Table dx_ (List.zip ([] : List Str) ([] : List V)))) (items := x22) (e := (fun y_ : (Int × Int) => (D.tup [(D.v (V.int y_.1)), (D.v (V.int y_.2))]))) an30 hp31 hl32 nl34 (fun _ _ _ q_ => q_.2.1) hM ⟨wd_cell hW nl34, keep_cell nl34 Keep.refl, mo_newL (ds := []) hW nl34 repL_nil, Nat.le_refl _, mo_cell nl34 mu17, Rx.Ext.keep (Rx.Ext.new nl34) hp⟩ ?_ ?_
      · skip
        clear mu17
        rintro x44 u45 n35 ys36 k37 H51 hn ⟨hW, hk38, mu39, ln40, mu52, hp⟩ h46 hM Nx43 hN41
        replace h_rounds := rep_keep hk38 (rep_new nl34 h_rounds)
        replace hk16 := Keep.trans (Keep.new hk16) hk38
        replace h24 := rep_keep hk38 (rep_new nl34 h24)
        apply rep_gtup h46 rfl
        intro vs53 hv54
        obtain ⟨u55, us56, rfl, h57, hv58⟩ := repL_uncons hv54
        obtain rfl := of_v h57
        obtain ⟨u59, us60, rfl, h61, hv62⟩ := repL_uncons hv58
        obtain rfl := of_v h61
        obtain rfl := repL_empty hv62
        refine ⟨_, _, rfl, ?_⟩
        refine ⟨_, _, rfl, ?_⟩
        refine ⟨rfl, ?_⟩
        refine ⟨rfl, ?_⟩
        refine tyes_of ?_
        refine ⟨_, rfl, ?_⟩
        refine ⟨_, rfl, ?_⟩
        refine ⟨(by show 2 ≤ sizeLine; decide), ?_⟩
        intro p63 n67
        have e64 := Rx.Ext.new (H := H51) (o := (HO.tup [V.int x44.1, V.int x44.2])) n67
        have hp65 : upd H51 p63 (HO.tup [V.int x44.1, V.int x44.2]) p63 = some (HO.tup [V.int x44.1, V.int x44.2]) := upd_same
        generalize upd H51 p63 (HO.tup [V.int x44.1, V.int x44.2]) = H68 at e64 hp65 ⊢
        have h66 : rep (L33 :: (L11 :: ms)) H68 (D.tup [(D.v (V.int x44.1)), (D.v (V.int x44.2))]) (.ref p63) := rep_tup_mk hW n67 e64 hp65 (repL_cons rep_v (repL_cons rep_v repL_nil))
        replace h_rounds := rep_ext e64 h_rounds
        replace hk16 := keep_ext e64 hk16
        replace h24 := rep_ext e64 h24
        replace hk38 := keep_ext e64 hk38
        replace h46 := rep_ext e64 h46
        replace mu52 := mo_ext e64 mu52
        replace mu39 := mo_ext e64 mu39
        replace hp := Rx.Ext.keep e64 hp
        replace hW := hW.ret0 e64
        refine mo_end mu39 hn (by rw [List.length_map]; exact ln40) fun vs69 hr70 => ?_
        have mk72 := mo_setL mu39 (repL_snoc (e := (fun y_ : (Int × Int) => (D.tup [(D.v (V.int y_.1)), (D.v (V.int y_.2))]))) (xs := ys36) (y := (x44.1, x44.2)) hr70 h66)
        replace mu52 := mo_put (o := .lst (vs69 ++ [(V.ref p63)])) mu39.im ne50 mu52
        replace h_rounds := rep_put (o := .lst (vs69 ++ [(V.ref p63)])) mu39.im h_rounds
        replace hk16 := keep_put (o := .lst (vs69 ++ [(V.ref p63)])) mu39.im hk16
        replace h24 := rep_put (o := .lst (vs69 ++ [(V.ref p63)])) mu39.im h24
        replace hk38 := keep_put (o := .lst (vs69 ++ [(V.ref p63)])) mu39.im hk38
        replace h46 := rep_put (o := .lst (vs69 ++ [(V.ref p63)])) mu39.im h46
        replace h66 := rep_put (o := .lst (vs69 ++ [(V.ref p63)])) mu39.im h66
        replace hp := at_put (o := .lst (vs69 ++ [(V.ref p63)])) hp mu39
        replace hW := wd_put (o := .lst (vs69 ++ [(V.ref p63)])) hW mu39
        replace mu39 := mk72
        generalize upd H68 L33 (.lst (vs69 ++ [(V.ref p63)])) = H73 at *
        replace mu39 : MutO (L33 :: (L11 :: ms)) [] H_0 H73 L33 (D.lst ((ys36 ++ [(x44.1, x44.2)]).map (fun y_ : (Int × Int) => (D.tup [(D.v (V.int y_.1)), (D.v (V.int y_.2))])))) := mu39
        clear mk72
        exact hN41 (x44.1, x44.2) _ hM ⟨hW, hk38, mu39, by rw [List.length_append]; exact Nat.add_le_add_right ln40 1, mu52, hp⟩
      · skip
        clear mu17
        rintro n35 ys74 H75 hM ⟨hW, hk38, mu39, ln40, mu76, hp⟩
        replace h_rounds := rep_keep hk38 (rep_new nl34 h_rounds)
        replace hk16 := Keep.trans (Keep.new hk16) hk38
        replace h24 := rep_keep hk38 (rep_new nl34 h24)
        clear hk38 ln40
        have h77 := mo_rep_dr dr_here nm48 mu39
        replace hW := wd_dr dr_here mu39.hp hW
        replace h_rounds := rep_dr dr_here h_rounds
        replace hk16 := keep_dr dr_here kn49 hk16
        replace h24 := rep_dr dr_here h24
        replace mu76 := mo_dr dr_here ne50 mu76
        clear mu39
        apply rep_sortP (xs := ys74) h77
        intro ys78 zs81 hpm79 hst80 hr82
        replace hM := hM ys78 hpm79 hst80
        intro p83 n87
        have e84 := Rx.Ext.new (H := H75) (o := (HO.lst (zs81))) n87
        have hp85 : upd H75 p83 (HO.lst (zs81)) p83 = some (HO.lst (zs81)) := upd_same
        generalize upd H75 p83 (HO.lst (zs81)) = H88 at e84 hp85 ⊢
        have h86 : rep (L11 :: ms) H88 (D.lst (ys78.map (fun y_ : (Int × Int) => (D.tup [(D.v (V.int y_.1)), (D.v (V.int y_.2))])))) (.ref p83) := rep_lst_mk hW n87 e84 hp85 hr82
        replace h_rounds := rep_ext e84 h_rounds
        replace hk16 := keep_ext e84 hk16
        replace h24 := rep_ext e84 h24
        replace h77 := rep_ext e84 h77
        replace mu76 := mo_ext e84 mu76
        replace hp := Rx.Ext.keep e84 hp
        replace hW := hW.ret0 e84
        refine mo_end mu76 hn (by rw [List.length_map]; exact ln18) fun vs89 hr90 => ?_
        have mk92 := mo_setL mu76 (repL_snoc (e := (fun y_ : (List (Int × Int)) => (D.lst (y_.map (fun y_ : (Int × Int) => (D.tup [(D.v (V.int y_.1)), (D.v (V.int y_.2))])))))) (xs := ys14) (y := ys78) hr90 h86)
        replace h_rounds := rep_put (o := .lst (vs89 ++ [(V.ref p83)])) mu76.im h_rounds
        replace hk16 := keep_put (o := .lst (vs89 ++ [(V.ref p83)])) mu76.im hk16
        replace h24 := rep_put (o := .lst (vs89 ++ [(V.ref p83)])) mu76.im h24
        replace h77 := rep_put (o := .lst (vs89 ++ [(V.ref p83)])) mu76.im h77
        replace h86 := rep_put (o := .lst (vs89 ++ [(V.ref p83)])) mu76.im h86
        replace hp := at_put (o := .lst (vs89 ++ [(V.ref p83)])) hp mu76
        replace hW := wd_put (o := .lst (vs89 ++ [(V.ref p83)])) hW mu76
        replace mu76 := mk92
        generalize upd H88 L11 (.lst (vs89 ++ [(V.ref p83)])) = H93 at *
        replace mu76 : MutO (L11 :: ms) [] H_0 H93 L11 (D.lst ((ys14 ++ [ys78]).map (fun y_ : (List (Int × Int)) => (D.lst (y_.map (fun y_ : (Int × Int) => (D.tup [(D.v (V.int y_.1)), (D.v (V.int y_.2))]))))))) := mu76
        clear mk92
        exact hN19 ys78 _ hM ⟨hW, hk16, mu76, by rw [List.length_append]; exact Nat.add_le_add_right ln18 1, hp⟩
    · skip
      rintro n13 ys94 H95 hM ⟨hW, hk16, mu17, ln18, hp⟩
      replace h_rounds := rep_keep hk16 (rep_new nl12 h_rounds)
      clear hk16 ln18
      have h96 := mo_rep_dr dr_here nm26 mu17
      replace hW := wd_dr dr_here mu17.hp hW
      replace h_rounds := rep_dr dr_here h_rounds
      clear mu17
      refine ⟨_, rfl, p_, A.c_Table, dx_, _, rfl, hp, T.cl_Table, T.na_Table__rounds, (by first | decide | simp), ?_⟩
      have z97 : putF ("_rounds" : Str) ((V.ref L11)) (List.zip ([] : List Str) ([] : List V)) = List.zip [("_rounds" : Str)] [(V.ref L11)] := putF_zip (ns := ([] : List Str)) (us := ([] : List V)) rfl (nin_of (by decide +kernel))
      replace h_rounds := rep_put (o := .ins A.c_Table dx_ (putF ("_rounds" : Str) ((V.ref L11)) (List.zip ([] : List Str) ([] : List V)))) pm_ h_rounds
      replace h96 := rep_put (o := .ins A.c_Table dx_ (putF ("_rounds" : Str) ((V.ref L11)) (List.zip ([] : List Str) ([] : List V)))) pm_ h96
      replace hK := ki_put (o := .ins A.c_Table dx_ (putF ("_rounds" : Str) ((V.ref L11)) (List.zip ([] : List Str) ([] : List V)))) hK hW
      replace hW := wd_at (p := p_) (o := .ins A.c_Table dx_ (putF ("_rounds" : Str) ((V.ref L11)) (List.zip ([] : List Str) ([] : List V)))) hW
      replace hp : upd H95 p_ (.ins A.c_Table dx_ (putF ("_rounds" : Str) ((V.ref L11)) (List.zip ([] : List Str) ([] : List V)))) p_ = some (.ins A.c_Table dx_ (putF ("_rounds" : Str) ((V.ref L11)) (List.zip ([] : List Str) ([] : List V)))) := upd_same
      generalize upd H95 p_ (.ins A.c_Table dx_ (putF ("_rounds" : Str) ((V.ref L11)) (List.zip ([] : List Str) ([] : List V)))) = H98 at *
      rw [z97] at hp
      exact hQ ys94 [(V.ref L11)] _ hM (ki_wd hK hW) hp rfl (repL_cons h96 repL_nil)
theorem make_Table_init_nlltii {ms : List Addr} {ps : List PEn} {cs : List (Addr × List V)} {H0 H : Hp} {A : Ad} {v_rounds : V} {x_rounds : (List (List (Int × Int)))} {KM : (List (List (Int × Int))) → Prop} {Q : Addr → Hp → Prop} {E : XK} (hW : Wd ms ps cs H0 H) (h_rounds : rep ms H (D.lst (x_rounds.map (fun y_ : (List (Int × Int)) => (D.lst (y_.map (fun y_ : (Int × Int) => (D.tup [(D.v (V.int y_.1)), (D.v (V.int y_.2))]))))))) v_rounds) (hM : M_Table_init_nlltii x_rounds KM)
    (k : ∀ (x : Addr) (H1 : Hp) (r : (List (List (Int × Int)))), KM r → Rx.Ext H H1 → rep ms H1 (eTable A r) (.ref x) → Q x H1) :
    ∀ x dx, H x = none → H dx = none → dx ≠ x → sp_Table_init_nlltii A (.ref x :: ([v_rounds] ++ [])) (upd (upd H dx (.own x)) x (.ins A.c_Table dx [])) (fun v H2 => v = .non ∧ Q x H2) E := by
  intro x dx nx ndx ne
  exact ⟨x :: ms, x, dx, v_rounds, x_rounds, KM, rfl, wd_new hW nx ndx, List.mem_cons_self, upd_same, mem_new nx h_rounds ndx, hM, fun r us H1 hr hK hp hl hu => ⟨rfl, k x H1 r hr (ext_new hK nx ndx) (rep_insW hW nx hp hl hu)⟩⟩
def M_is_count (x_value : Int) (KM : Bool → Prop) : Prop :=
  (M_is_integer x_value fun r1 => (if r1 = true then (KM (decide ((0 : Int) ≤ x_value))) else (KM false)))
def sp_is_count (A : Ad) : Sp := fun vs H Q _ => ∃ (ms : List Addr) (x_value : Int) (KM : Bool → Prop), vs = [V.int x_value] ∧ Wd ms [] [] H H ∧ M_is_count x_value KM ∧ ∀ (r : Bool) (u : V) (H1 : Hp), KM r → Ret [] H H1 → rep ms H1 (D.v (V.bl r)) u → Q u H1
set_option maxHeartbeats 16000000 in
theorem ok_is_count {P : Program} {w : World} {K : PySem.W.Frag} {mg : Str → Option Value} {base : Heap} {A : Ad} (T : Txt w K mg A) : FnOk P w K mg base CX0 2 A.a_is_count A.d_is_count ["value"] (sp_is_count A) := by
  refine T.F_is_count.ok sc_is_count (fun vs H Q E h => ?_) (fun cdv A_ outer s_ H_0 vs Q E hr h => ?_)
  · obtain ⟨ms, x_value, KM, rfl, _⟩ := h
    rfl
  · obtain ⟨ms, x_value, KM, rfl, hW, hM, hQ⟩ := h
    unfold M_is_count at hM
    refine ⟨_, (pss_one (ps_ret (pe_and (pe_call (ok_is_integer T) (hr.mono (by decide)) (by rfl) T.g_is_integer T.F_is_integer.kp T.b_is_integer .nil pass0 (pa_cons (pv 0) pa_nil)) (pe_one (pe_cmpR op_ge (pv 0) pe_int (nomark _)))))), ?_⟩
    refine ⟨_, rfl, ?_⟩
    refine ⟨ms, x_value, _, rfl, hW.enter0, hM, fun r1 u4 H5 hM e3 h2 => ?_⟩
    replace hW := hW.ret0 e3
    obtain rfl := of_v h2
    refine ⟨_, rfl, ?_⟩
    refine ite3 hM (fun hM => ?_) (fun hM => ?_)
    · skip
      refine ⟨_, rfl, ?_⟩
      refine ⟨_, _, rfl, rfl, ?_⟩
      exact hQ (decide ((0 : Int) ≤ x_value)) _ _ hM hW.out rep_v
    · skip
      exact hQ false _ _ hM hW.out rep_v
def M_check_team (x_team : Int) (x_teams : Int) (KM : Unit → Prop) : Prop :=
  (M_is_count x_team fun r1 => (if (!r1) = true then False else (if (decide (x_teams ≤ x_team)) = true then False else (KM ()))))
def sp_check_team (A : Ad) : Sp := fun vs H Q _ => ∃ (ms : List Addr) (x_team : Int) (x_teams : Int) (KM : Unit → Prop), vs = [V.int x_team, V.int x_teams] ∧ Wd ms [] [] H H ∧ M_check_team x_team x_teams KM ∧ ∀ (r : Unit) (u : V) (H1 : Hp), KM r → Ret [] H H1 → rep ms H1 (D.v V.non) u → Q u H1
set_option maxHeartbeats 16000000 in
theorem ok_check_team {P : Program} {w : World} {K : PySem.W.Frag} {mg : Str → Option Value} {base : Heap} {A : Ad} (T : Txt w K mg A) : FnOk P w K mg base CX0 3 A.a_check_team A.d_check_team ["team", "teams"] (sp_check_team A) := by
  refine T.F_check_team.ok sc_check_team (fun vs H Q E h => ?_) (fun cdv A_ outer s_ H_0 vs Q E hr h => ?_)
  · obtain ⟨ms, x_team, x_teams, KM, rfl, _⟩ := h
    rfl
  · obtain ⟨ms, x_team, x_teams, KM, rfl, hW, hM, hQ⟩ := h
    unfold M_check_team at hM
    refine ⟨_, (pss_one (ps_if (PW.pt (pw_or (pt_not (pt_val (pe_call (ok_is_count T) (hr.mono (by decide)) (by rfl) T.g_is_count T.F_is_count.kp T.b_is_count .nil pass0 (pa_cons (pv 0) pa_nil)))) (pw_or1 (pt_cmpR op_ge (pv 0) (pv 1) (nomark _))))) (pss_one ps_never) pss_nil)), ?_⟩
    refine ⟨_, rfl, ?_⟩
    refine ⟨ms, x_team, _, rfl, hW.enter0, hM, fun r1 u4 H5 hM e3 h2 => ?_⟩
    replace hW := hW.ret0 e3
    obtain rfl := of_v h2
    refine ⟨_, rfl, ?_⟩
    refine ite3 hM (fun hM => ?_) (fun hM => ?_)
    · skip
      refine iteT ?_
      exact hM
    · skip
      refine ⟨_, rfl, ?_⟩
      refine ⟨_, rfl, ?_⟩
      refine ⟨_, _, rfl, rfl, ?_⟩
      refine ⟨_, rfl, ?_⟩
      refine ite3 hM (fun hM => ?_) (fun hM => ?_)
      · skip
        exact hM
      · skip
        exact hQ () _ _ hM hW.out rep_v
def M_check_pair (x_one : Int) (x_other : Int) (x_teams : Int) (KM : Unit → Prop) : Prop :=
  (M_check_team x_one x_teams fun r1 => (M_check_team x_other x_teams fun r6 => (if (decide (V.int x_one = V.int x_other)) = true then False else (KM ()))))
def sp_check_pair (A : Ad) : Sp := fun vs H Q _ => ∃ (ms : List Addr) (x_one : Int) (x_other : Int) (x_teams : Int) (KM : Unit → Prop), vs = [V.int x_one, V.int x_other, V.int x_teams] ∧ Wd ms [] [] H H ∧ M_check_pair x_one x_other x_teams KM ∧ ∀ (r : Unit) (u : V) (H1 : Hp), KM r → Ret [] H H1 → rep ms H1 (D.v V.non) u → Q u H1
set_option maxHeartbeats 16000000 in
theorem ok_check_pair {P : Program} {w : World} {K : PySem.W.Frag} {mg : Str → Option Value} {base : Heap} {A : Ad} (T : Txt w K mg A) : FnOk P w K mg base CX0 4 A.a_check_pair A.d_check_pair ["one", "other", "teams"] (sp_check_pair A) := by
  refine T.F_check_pair.ok sc_check_pair (fun vs H Q E h => ?_) (fun cdv A_ outer s_ H_0 vs Q E hr h => ?_)
  · obtain ⟨ms, x_one, x_other, x_teams, KM, rfl, _⟩ := h
    rfl
  · obtain ⟨ms, x_one, x_other, x_teams, KM, rfl, hW, hM, hQ⟩ := h
    unfold M_check_pair at hM
    refine ⟨_, (pss_cons (ps_expr (pe_call (ok_check_team T) (hr.mono (by decide)) (by rfl) T.g_check_team T.F_check_team.kp T.b_check_team .nil pass0 (pa_cons (pv 0) (pa_cons (pv 2) pa_nil)))) (pss_cons (ps_expr (pe_call (ok_check_team T) (hr.mono (by decide)) (by rfl) T.g_check_team T.F_check_team.kp T.b_check_team .nil pass0 (pa_cons (pv 1) (pa_cons (pv 2) pa_nil)))) (pss_one (ps_if (pt_cmpR op_eq (pv 0) (pv 1) (nomark _)) (pss_one ps_never) pss_nil)))), ?_⟩
    refine ⟨_, rfl, ?_⟩
    refine ⟨_, rfl, ?_⟩
    refine ⟨ms, x_one, x_teams, _, rfl, hW.enter0, hM, fun r1 u4 H5 hM e3 h2 => ?_⟩
    replace hW := hW.ret0 e3
    obtain rfl := of_v h2
    refine ⟨_, rfl, ?_⟩
    refine ⟨_, rfl, ?_⟩
    refine ⟨ms, x_other, x_teams, _, rfl, hW.enter0, hM, fun r6 u9 H10 hM e8 h7 => ?_⟩
    replace hW := hW.ret0 e8
    obtain rfl := of_v h7
    refine ⟨_, rfl, ?_⟩
    refine ⟨_, rfl, ?_⟩
    refine ⟨rfl, ?_⟩
    refine ⟨_, rfl, ?_⟩
    refine ite3 hM (fun hM => ?_) (fun hM => ?_)
    · skip
      exact hM
    · skip
      exact hQ () _ _ hM hW.out rep_v
def M_Table_met_in (x_self : (List (List (Int × Int)))) (x_one : Int) (x_other : Int) (KM : (List Int) → Prop) : Prop :=
  (M_Table_size x_self fun r2 => (M_check_pair x_one x_other r2 fun r7 => (((rangeI 0 (x_self.length : Int)).zip x_self).length < 100000 ∧ filC (fun (x30 : (Int × (List (Int × Int)))) (k23 : Option Int → Prop) => ((plainD (D.tup [(D.v (V.int (x_one, x_other).1)), (D.v (V.int (x_one, x_other).2))]) = true ∧ plainD (D.lst (x30.2.map (fun y_ : (Int × Int) => (D.tup [(D.v (V.int y_.1)), (D.v (V.int y_.2))])))) = true ∧ SeqAt.shaped (pyOf (D.tup [(D.v (V.int (x_one, x_other).1)), (D.v (V.int (x_one, x_other).2))])) = true ∧ SeqAt.shaped (pyOf (D.lst (x30.2.map (fun y_ : (Int × Int) => (D.tup [(D.v (V.int y_.1)), (D.v (V.int y_.2))]))))) = true) ∧ (if (inDv (D.tup [(D.v (V.int (x_one, x_other).1)), (D.v (V.int (x_one, x_other).2))]) (x30.2.map (fun y_ : (Int × Int) => (D.tup [(D.v (V.int y_.1)), (D.v (V.int y_.2))])))) = true then (k23 (some x30.1)) else ((plainD (D.tup [(D.v (V.int (x_other, x_one).1)), (D.v (V.int (x_other, x_one).2))]) = true ∧ plainD (D.lst (x30.2.map (fun y_ : (Int × Int) => (D.tup [(D.v (V.int y_.1)), (D.v (V.int y_.2))])))) = true ∧ SeqAt.shaped (pyOf (D.tup [(D.v (V.int (x_other, x_one).1)), (D.v (V.int (x_other, x_one).2))])) = true ∧ SeqAt.shaped (pyOf (D.lst (x30.2.map (fun y_ : (Int × Int) => (D.tup [(D.v (V.int y_.1)), (D.v (V.int y_.2))]))))) = true) ∧ (if (inDv (D.tup [(D.v (V.int (x_other, x_one).1)), (D.v (V.int (x_other, x_one).2))]) (x30.2.map (fun y_ : (Int × Int) => (D.tup [(D.v (V.int y_.1)), (D.v (V.int y_.2))])))) = true then (k23 (some x30.1)) else (k23 none)))))) ((rangeI 0 (x_self.length : Int)).zip x_self) [] fun ys72 => (KM ys72))))
def sp_Table_met_in (A : Ad) : Sp := fun vs H Q _ => ∃ (ms : List Addr) (v_self : V) (x_self : (List (List (Int × Int)))) (x_one : Int) (x_other : Int) (KM : (List Int) → Prop), vs = [v_self, V.int x_one, V.int x_other] ∧ Wd ms [] [] H H ∧ rep ms H (eTable A x_self) v_self ∧ M_Table_met_in x_self x_one x_other KM ∧ ∀ (r : (List Int)) (u : V) (H1 : Hp), KM r → Ret [] H H1 → rep ms H1 (D.lst (r.map (fun y_ : Int => (D.v (V.int y_))))) u → Q u H1
set_option maxHeartbeats 16000000 in
theorem ok_Table_met_in {P : Program} {w : World} {K : PySem.W.Frag} {mg : Str → Option Value} {base : Heap} {A : Ad} (T : Txt w K mg A) : FnOk P w K mg base CX0 5 A.a_Table_met_in A.d_Table_met_in ["self", "one", "other"] (sp_Table_met_in A) := by
  refine T.F_Table_met_in.ok sc_Table_met_in (fun vs H Q E h => ?_) (fun cdv A_ outer s_ H_0 vs Q E hr h => ?_)
  · obtain ⟨ms, v_self, x_self, x_one, x_other, KM, rfl, _⟩ := h
    rfl
  · obtain ⟨ms, v_self, x_self, x_one, x_other, KM, rfl, hW, h_self, hM, hQ⟩ := h
    unfold M_Table_met_in at hM
    refine ⟨_, (pss_cons (ps_expr (pe_call (ok_check_pair T) (hr.mono (by decide)) (by rfl) T.g_check_pair T.F_check_pair.kp T.b_check_pair .nil pass0 (pa_cons (pv 1) (pa_cons (pv 2) (pa_cons (pe_prop (pv 0) T.cl_Table T.p_Table_size (ok_Table_size T) (hr.mono (by decide)) T.b_Table_size .nil pass0 rfl) pa_nil))))) (pss_one (ps_ret (pe_lc (own := [("day", 3), ("meetings", 4)]) (g := (gTup K 2 (gCons (gName 3) (gCons (gName 4) gNil)))) rfl sc_Table_met_in.nd (pi_enum (by rfl) T.z_enumerate (pa_cons (pe_fld (pv 0) rfl) pa_nil)) (blkOk_by (N := ["self", "one", "other", "day", "meetings"]) (sc := defScope s_Table_met_in) (by decide +kernel)) (fun _ _ _ _ _ => (pg_tup rfl (pgs_cons (pg_name (i := 3) sc_Table_met_in.nd rfl (by first | exact Or.inl rfl | exact Or.inr rfl)) (pgs_cons (pg_name (i := 4) sc_Table_met_in.nd rfl (by first | exact Or.inl rfl | exact Or.inr rfl)) pgs_nil)))) (fun _ _ _ _ _ => (pts_one (PW.pt (pw_or (pt_cmpR (op_inDK (K := K) rfl (units65 hr)) (pe_tup (pa_cons (pv 1) (pa_cons (pv 2) pa_nil))) (pv 4) (by rfl)) (pw_or1 (pt_cmpR (op_inDK (K := K) rfl (units65 hr)) (pe_tup (pa_cons (pv 2) (pa_cons (pv 1) pa_nil))) (pv 4) (by rfl))))))) (fun _ _ _ _ _ => (pv 3)))))), ?_⟩
    refine ⟨_, rfl, ?_⟩
    refine ⟨_, rfl, ?_⟩
    refine ⟨_, rfl, ?_⟩
    apply rep_prop h_self
    intro _ h1
    refine ⟨ms, _, x_self, _, rfl, hW.enter0, h1, hM, fun r2 u5 H6 hM e4 h3 => ?_⟩
    replace h_self := rep_ext e4 h_self
    replace hW := hW.ret0 e4
    obtain rfl := of_v h3
    refine ⟨ms, x_one, x_other, r2, _, rfl, hW.enter0, hM, fun r7 u10 H11 hM e9 h8 => ?_⟩
    replace h_self := rep_ext e9 h_self
    replace hW := hW.ret0 e9
    obtain rfl := of_v h8
    refine ⟨_, rfl, ?_⟩
    apply rep_fld (j := 0) h_self T.cl_Table T.na_Table__rounds nd_Table rfl rfl
    intro u13 h12
    apply rep_iterE h12
    intro a14 xs15 _ an16 hp17 hl18
    refine fun L19 nl20 => ?_
    have nm34 := nm_new hW nl20
    refine lf_pairG (L := L19) (fun n_ ys_ h_ => Wd (L19 :: ms) [] [] H_0 h_ ∧ Keep (L19 :: ms) H11 h_ ∧ MutO (L19 :: ms) [] H_0 h_ L19 (D.lst (ys_.map (fun y_ : Int => (D.v (V.int y_))))) ∧ ys_.length ≤ n_) (e := fun i_ => .v (.int i_)) (e2 := (fun y_ : (List (Int × Int)) => (D.lst (y_.map (fun y_ : (Int × Int) => (D.tup [(D.v (V.int y_.1)), (D.v (V.int y_.2))])))))) (pair_enum (K := K) (items := x_self) (e2 := (fun y_ : (List (Int × Int)) => (D.lst (y_.map (fun y_ : (Int × Int) => (D.tup [(D.v (V.int y_.1)), (D.v (V.int y_.2))])))))) (nin_new nl20 an16 hp17) hp17 (repL_new nl20 hl18)) (fun _ _ _ q_ => q_.2.1) (fun _ _ _ q_ => q_.1.tr) hM ⟨wd_cell hW nl20, keep_cell nl20 Keep.refl, mo_newL (ds := []) hW nl20 repL_nil, Nat.le_refl _⟩ ?_ ?_
    · skip
      rintro x30 u31 n21 ys22 k23 H35 H36 hn ⟨hW, hk24, mu25, ln26⟩ ex37 h32 hM Nx29 hN27 hNn28
      replace h_self := rep_keep hk24 (rep_new nl20 h_self)
      replace h12 := rep_keep hk24 (rep_new nl20 h12)
      replace h_self := rep_ext ex37 h_self
      replace h12 := rep_ext ex37 h12
      replace hk24 := keep_ext ex37 hk24
      replace mu25 := mo_ext ex37 mu25
      replace hW := hW.ret0 ex37
      apply rep_gtup h32 rfl
      intro vs38 hv39
      obtain ⟨u40, us41, rfl, h42, hv43⟩ := repL_uncons hv39
      obtain rfl := of_v h42
      obtain ⟨u44, us45, rfl, h46, hv47⟩ := repL_uncons hv43
      obtain rfl := repL_empty hv47
      refine ⟨_, _, rfl, ?_⟩
      refine ⟨_, _, rfl, ?_⟩
      refine ⟨rfl, ?_⟩
      refine ⟨rfl, ?_⟩
      refine ⟨_, rfl, ?_⟩
      refine ⟨_, rfl, ?_⟩
      refine ⟨(by show 2 ≤ sizeLine; decide), ?_⟩
      intro p48 n52
      have e49 := Rx.Ext.new (H := H36) (o := (HO.tup [V.int x_one, V.int x_other])) n52
      have hp50 : upd H36 p48 (HO.tup [V.int x_one, V.int x_other]) p48 = some (HO.tup [V.int x_one, V.int x_other]) := upd_same
      generalize upd H36 p48 (HO.tup [V.int x_one, V.int x_other]) = H53 at e49 hp50 ⊢
      have h51 : rep (L19 :: ms) H53 (D.tup [(D.v (V.int x_one)), (D.v (V.int x_other))]) (.ref p48) := rep_tup_mk hW n52 e49 hp50 (repL_cons rep_v (repL_cons rep_v repL_nil))
      replace h_self := rep_ext e49 h_self
      replace h12 := rep_ext e49 h12
      replace hk24 := keep_ext e49 hk24
      replace h32 := rep_ext e49 h32
      replace h46 := rep_ext e49 h46
      replace mu25 := mo_ext e49 mu25
      replace hW := hW.ret0 e49
      refine ⟨_, rfl, ?_⟩
      obtain ⟨g54, hM⟩ := hM
      apply rep_inD (d := (D.tup [(D.v (V.int (x_one, x_other).1)), (D.v (V.int (x_one, x_other).2))])) (es := (x30.2.map (fun y_ : (Int × Int) => (D.tup [(D.v (V.int y_.1)), (D.v (V.int y_.2))])))) h51 h46 g54.1 g54.2.1 g54.2.2.1 g54.2.2.2
      refine ⟨_, rfl, ?_⟩
      refine ite3 hM (fun hM => ?_) (fun hM => ?_)
      · skip
        refine iteT ?_
        refine ⟨_, rfl, ?_⟩
        refine mo_end mu25 hn (by rw [List.length_map]; exact ln26) fun vs55 hr56 => ?_
        have mk58 := mo_setL mu25 (repL_snoc (e := (fun y_ : Int => (D.v (V.int y_)))) (xs := ys22) (y := x30.1) hr56 rep_v)
        replace h_self := rep_put (o := .lst (vs55 ++ [V.int x30.1])) mu25.im h_self
        replace h12 := rep_put (o := .lst (vs55 ++ [V.int x30.1])) mu25.im h12
        replace hk24 := keep_put (o := .lst (vs55 ++ [V.int x30.1])) mu25.im hk24
        replace h32 := rep_put (o := .lst (vs55 ++ [V.int x30.1])) mu25.im h32
        replace h46 := rep_put (o := .lst (vs55 ++ [V.int x30.1])) mu25.im h46
        replace h51 := rep_put (o := .lst (vs55 ++ [V.int x30.1])) mu25.im h51
        replace hW := wd_put (o := .lst (vs55 ++ [V.int x30.1])) hW mu25
        replace mu25 := mk58
        generalize upd H53 L19 (.lst (vs55 ++ [V.int x30.1])) = H59 at *
        replace mu25 : MutO (L19 :: ms) [] H_0 H59 L19 (D.lst ((ys22 ++ [x30.1]).map (fun y_ : Int => (D.v (V.int y_))))) := mu25
        clear mk58
        exact hN27 x30.1 _ hM ⟨hW, hk24, mu25, by rw [List.length_append]; exact Nat.add_le_add_right ln26 1⟩
      · skip
        refine ⟨_, rfl, ?_⟩
        refine ⟨_, rfl, ?_⟩
        refine ⟨(by show 2 ≤ sizeLine; decide), ?_⟩
        intro p60 n64
        have e61 := Rx.Ext.new (H := H53) (o := (HO.tup [V.int x_other, V.int x_one])) n64
        have hp62 : upd H53 p60 (HO.tup [V.int x_other, V.int x_one]) p60 = some (HO.tup [V.int x_other, V.int x_one]) := upd_same
        generalize upd H53 p60 (HO.tup [V.int x_other, V.int x_one]) = H65 at e61 hp62 ⊢
        have h63 : rep (L19 :: ms) H65 (D.tup [(D.v (V.int x_other)), (D.v (V.int x_one))]) (.ref p60) := rep_tup_mk hW n64 e61 hp62 (repL_cons rep_v (repL_cons rep_v repL_nil))
        replace h_self := rep_ext e61 h_self
        replace h12 := rep_ext e61 h12
        replace hk24 := keep_ext e61 hk24
        replace h32 := rep_ext e61 h32
        replace h46 := rep_ext e61 h46
        replace h51 := rep_ext e61 h51
        replace mu25 := mo_ext e61 mu25
        replace hW := hW.ret0 e61
        refine ⟨_, rfl, ?_⟩
        obtain ⟨g66, hM⟩ := hM
        apply rep_inD (d := (D.tup [(D.v (V.int (x_other, x_one).1)), (D.v (V.int (x_other, x_one).2))])) (es := (x30.2.map (fun y_ : (Int × Int) => (D.tup [(D.v (V.int y_.1)), (D.v (V.int y_.2))])))) h63 h46 g66.1 g66.2.1 g66.2.2.1 g66.2.2.2
        refine ⟨_, rfl, ?_⟩
        refine ite3 hM (fun hM => ?_) (fun hM => ?_)
        · skip
          refine ⟨_, rfl, ?_⟩
          refine mo_end mu25 hn (by rw [List.length_map]; exact ln26) fun vs67 hr68 => ?_
          have mk70 := mo_setL mu25 (repL_snoc (e := (fun y_ : Int => (D.v (V.int y_)))) (xs := ys22) (y := x30.1) hr68 rep_v)
          replace h_self := rep_put (o := .lst (vs67 ++ [V.int x30.1])) mu25.im h_self
          replace h12 := rep_put (o := .lst (vs67 ++ [V.int x30.1])) mu25.im h12
          replace hk24 := keep_put (o := .lst (vs67 ++ [V.int x30.1])) mu25.im hk24
          replace h32 := rep_put (o := .lst (vs67 ++ [V.int x30.1])) mu25.im h32
          replace h46 := rep_put (o := .lst (vs67 ++ [V.int x30.1])) mu25.im h46
          replace h51 := rep_put (o := .lst (vs67 ++ [V.int x30.1])) mu25.im h51
          replace h63 := rep_put (o := .lst (vs67 ++ [V.int x30.1])) mu25.im h63
          replace hW := wd_put (o := .lst (vs67 ++ [V.int x30.1])) hW mu25
          replace mu25 := mk70
          generalize upd H65 L19 (.lst (vs67 ++ [V.int x30.1])) = H71 at *
          replace mu25 : MutO (L19 :: ms) [] H_0 H71 L19 (D.lst ((ys22 ++ [x30.1]).map (fun y_ : Int => (D.v (V.int y_))))) := mu25
          clear mk70
          exact hN27 x30.1 _ hM ⟨hW, hk24, mu25, by rw [List.length_append]; exact Nat.add_le_add_right ln26 1⟩
        · skip
          exact hNn28 _ hM ⟨hW, hk24, mu25, Nat.le_succ_of_le ln26⟩
    · skip
      rintro n21 ys72 H73 hM ⟨hW, hk24, mu25, ln26⟩
      replace h_self := rep_keep hk24 (rep_new nl20 h_self)
      replace h12 := rep_keep hk24 (rep_new nl20 h12)
      clear hk24 ln26
      have h74 := mo_rep_dr dr_here nm34 mu25
      replace hW := wd_dr dr_here mu25.hp hW
      replace h_self := rep_dr dr_here h_self
      replace h12 := rep_dr dr_here h12
      clear mu25
      exact hQ ys72 _ _ hM hW.out h74
def M_Table_len (x_self : (List (List (Int × Int)))) (KM : Int → Prop) : Prop :=
  (KM (x_self.length : Int))
def sp_Table_len (A : Ad) : Sp := fun vs H Q _ => ∃ (ms : List Addr) (v_self : V) (x_self : (List (List (Int × Int)))) (KM : Int → Prop), vs = [v_self] ∧ Wd ms [] [] H H ∧ rep ms H (eTable A x_self) v_self ∧ M_Table_len x_self KM ∧ ∀ (r : Int) (u : V) (H1 : Hp), KM r → Ret [] H H1 → rep ms H1 (D.v (V.int r)) u → Q u H1
set_option maxHeartbeats 16000000 in
theorem ok_Table_len {P : Program} {w : World} {K : PySem.W.Frag} {mg : Str → Option Value} {base : Heap} {A : Ad} (T : Txt w K mg A) : FnOk P w K mg base CX0 1 A.a_Table_len A.d_Table_len ["self"] (sp_Table_len A) := by
  refine T.F_Table_len.ok sc_Table_len (fun vs H Q E h => ?_) (fun cdv A_ outer s_ H_0 vs Q E hr h => ?_)
  · obtain ⟨ms, v_self, x_self, KM, rfl, _⟩ := h
    rfl
  · obtain ⟨ms, v_self, x_self, KM, rfl, hW, h_self, hM, hQ⟩ := h
    unfold M_Table_len at hM
    refine ⟨_, (pss_one (ps_ret (pe_callB (call_lenK (K := K) rfl) (by rfl) T.z_len PySem.boot_len (pa_cons (pe_fld (pv 0) rfl) pa_nil)))), ?_⟩
    refine ⟨_, rfl, ?_⟩
    apply rep_fld (j := 0) h_self T.cl_Table T.na_Table__rounds nd_Table rfl rfl
    intro u2 h1
    apply rep_lenL (e := (fun y_ : (List (Int × Int)) => (D.lst (y_.map (fun y_ : (Int × Int) => (D.tup [(D.v (V.int y_.1)), (D.v (V.int y_.2))])))))) (xs := x_self) h1
    exact hQ (x_self.length : Int) _ _ hM hW.out rep_v
def M_check_day (x_day : Int) (x_rounds : Int) (KM : Unit → Prop) : Prop :=
  (M_is_count x_day fun r1 => (if (!r1) = true then False else (if (decide (x_rounds ≤ x_day)) = true then False else (KM ()))))
def sp_check_day (A : Ad) : Sp := fun vs H Q _ => ∃ (ms : List Addr) (x_day : Int) (x_rounds : Int) (KM : Unit → Prop), vs = [V.int x_day, V.int x_rounds] ∧ Wd ms [] [] H H ∧ M_check_day x_day x_rounds KM ∧ ∀ (r : Unit) (u : V) (H1 : Hp), KM r → Ret [] H H1 → rep ms H1 (D.v V.non) u → Q u H1
set_option maxHeartbeats 16000000 in
theorem ok_check_day {P : Program} {w : World} {K : PySem.W.Frag} {mg : Str → Option Value} {base : Heap} {A : Ad} (T : Txt w K mg A) : FnOk P w K mg base CX0 3 A.a_check_day A.d_check_day ["day", "rounds"] (sp_check_day A) := by
  refine T.F_check_day.ok sc_check_day (fun vs H Q E h => ?_) (fun cdv A_ outer s_ H_0 vs Q E hr h => ?_)
  · obtain ⟨ms, x_day, x_rounds, KM, rfl, _⟩ := h
    rfl
  · obtain ⟨ms, x_day, x_rounds, KM, rfl, hW, hM, hQ⟩ := h
    unfold M_check_day at hM
    refine ⟨_, (pss_one (ps_if (PW.pt (pw_or (pt_not (pt_val (pe_call (ok_is_count T) (hr.mono (by decide)) (by rfl) T.g_is_count T.F_is_count.kp T.b_is_count .nil pass0 (pa_cons (pv 0) pa_nil)))) (pw_or1 (pt_cmpR op_ge (pv 0) (pv 1) (nomark _))))) (pss_one ps_never) pss_nil)), ?_⟩
    refine ⟨_, rfl, ?_⟩
    refine ⟨ms, x_day, _, rfl, hW.enter0, hM, fun r1 u4 H5 hM e3 h2 => ?_⟩
    replace hW := hW.ret0 e3
    obtain rfl := of_v h2
    refine ⟨_, rfl, ?_⟩
    refine ite3 hM (fun hM => ?_) (fun hM => ?_)
    · skip
      refine iteT ?_
      exact hM
    · skip
      refine ⟨_, rfl, ?_⟩
      refine ⟨_, rfl, ?_⟩
      refine ⟨_, _, rfl, rfl, ?_⟩
      refine ⟨_, rfl, ?_⟩
      refine ite3 hM (fun hM => ?_) (fun hM => ?_)
      · skip
        exact hM
      · skip
        exact hQ () _ _ hM hW.out rep_v
def M_Table_meetings (x_self : (List (List (Int × Int)))) (x_day : Int) (KM : (List (Int × Int)) → Prop) : Prop :=
  (M_check_day x_day (x_self.length : Int) fun r3 => (0 ≤ x_day ∧ ∃ g11 : Int.toNat x_day < x_self.length, ∀ x13, x13 = x_self[Int.toNat x_day]'g11 → (KM x13)))
def sp_Table_meetings (A : Ad) : Sp := fun vs H Q _ => ∃ (ms : List Addr) (v_self : V) (x_self : (List (List (Int × Int)))) (x_day : Int) (KM : (List (Int × Int)) → Prop), vs = [v_self, V.int x_day] ∧ Wd ms [] [] H H ∧ rep ms H (eTable A x_self) v_self ∧ M_Table_meetings x_self x_day KM ∧ ∀ (r : (List (Int × Int))) (u : V) (H1 : Hp), KM r → Ret [] H H1 → rep ms H1 (D.lst (r.map (fun y_ : (Int × Int) => (D.tup [(D.v (V.int y_.1)), (D.v (V.int y_.2))])))) u → Q u H1
set_option maxHeartbeats 16000000 in
theorem ok_Table_meetings {P : Program} {w : World} {K : PySem.W.Frag} {mg : Str → Option Value} {base : Heap} {A : Ad} (T : Txt w K mg A) : FnOk P w K mg base CX0 4 A.a_Table_meetings A.d_Table_meetings ["self", "day"] (sp_Table_meetings A) := by
  refine T.F_Table_meetings.ok sc_Table_meetings (fun vs H Q E h => ?_) (fun cdv A_ outer s_ H_0 vs Q E hr h => ?_)
  · obtain ⟨ms, v_self, x_self, x_day, KM, rfl, _⟩ := h
    rfl
  · obtain ⟨ms, v_self, x_self, x_day, KM, rfl, hW, h_self, hM, hQ⟩ := h
    unfold M_Table_meetings at hM
    refine ⟨_, (pss_cons (ps_expr (pe_call (ok_check_day T) (hr.mono (by decide)) (by rfl) T.g_check_day T.F_check_day.kp T.b_check_day .nil pass0 (pa_cons (pv 1) (pa_cons (pe_callB (call_lenK (K := K) rfl) (by rfl) T.z_len PySem.boot_len (pa_cons (pe_fld (pv 0) rfl) pa_nil)) pa_nil)))) (pss_one (ps_ret (pe_callTy (call_list_ofK (K := K) rfl) (by rfl) T.z_list (by decide +kernel) (pa_cons (pe_ix (ix_listK (K := K) rfl) (pe_fld (pv 0) rfl) (pv 1) (fun _ _ => rfl)) pa_nil))))), ?_⟩
    refine ⟨_, rfl, ?_⟩
    refine ⟨_, rfl, ?_⟩
    apply rep_fld (j := 0) h_self T.cl_Table T.na_Table__rounds nd_Table rfl rfl
    intro u2 h1
    apply rep_lenL (e := (fun y_ : (List (Int × Int)) => (D.lst (y_.map (fun y_ : (Int × Int) => (D.tup [(D.v (V.int y_.1)), (D.v (V.int y_.2))])))))) (xs := x_self) h1
    refine ⟨ms, x_day, (x_self.length : Int), _, rfl, hW.enter0, hM, fun r3 u6 H7 hM e5 h4 => ?_⟩
    replace h_self := rep_ext e5 h_self
    replace h1 := rep_ext e5 h1
    replace hW := hW.ret0 e5
    obtain rfl := of_v h4
    refine ⟨_, rfl, ?_⟩
    apply rep_fld (j := 0) h_self T.cl_Table T.na_Table__rounds nd_Table rfl rfl
    intro u9 h8
    refine ⟨_, rfl, ?_⟩
    obtain ⟨g10, g11, hM⟩ := hM
    apply rep_ixL (e := (fun y_ : (List (Int × Int)) => (D.lst (y_.map (fun y_ : (Int × Int) => (D.tup [(D.v (V.int y_.1)), (D.v (V.int y_.2))])))))) (xs := x_self) h8 g10 g11
    intro u14 h12
    obtain ⟨x13, x13e⟩ : ∃ x_, x_ = x_self[Int.toNat x_day]'g11 := ⟨_, rfl⟩
    rw [← x13e] at h12
    replace hM := hM x13 x13e
    apply rep_listL h12
    intro ys15 hr16
    intro p17 n18
    have e19 := Rx.Ext.new (H := H7) (o := (HO.lst ys15)) n18
    have hp20 : upd H7 p17 (HO.lst ys15) p17 = some (HO.lst ys15) := upd_same
    generalize upd H7 p17 (HO.lst ys15) = H23 at e19 hp20 ⊢
    have h21 : rep ms H23 (D.lst (x13.map (fun y_ : (Int × Int) => (D.tup [(D.v (V.int y_.1)), (D.v (V.int y_.2))])))) (.ref p17) := rep_lst_mk hW n18 e19 hp20 hr16
    replace h_self := rep_ext e19 h_self
    replace h1 := rep_ext e19 h1
    replace h8 := rep_ext e19 h8
    replace h12 := rep_ext e19 h12
    replace hW := hW.ret0 e19
    exact hQ x13 _ _ hM hW.out h21
def M_sorted (x_days_here : (List (List (Int × Int)))) (KM : (List (List (Int × Int))) → Prop) : Prop :=
  (x_days_here.length < 100000 ∧ mapC (fun (x17 : (List (Int × Int))) (k10 : (List (Int × Int)) → Prop) => (x17.length < 100000 ∧ mapC (fun (x39 : (Int × Int)) (k32 : (Int × Int) → Prop) => (k32 (x39.1, x39.2))) x17 [] fun ys69 => (∀ ys73 : List (Int × Int), ys73.Perm ys69 → ys73.Pairwise lePI → (k10 ys73)))) x_days_here [] fun ys89 => (KM ys89))
def sp_sorted (A : Ad) : Sp := fun vs H Q _ => ∃ (ms : List Addr) (v_days_here : V) (x_days_here : (List (List (Int × Int)))) (KM : (List (List (Int × Int))) → Prop), vs = [v_days_here] ∧ Wd ms [] [] H H ∧ rep ms H (D.lst (x_days_here.map (fun y_ : (List (Int × Int)) => (D.lst (y_.map (fun y_ : (Int × Int) => (D.tup [(D.v (V.int y_.1)), (D.v (V.int y_.2))]))))))) v_days_here ∧ M_sorted x_days_here KM ∧ ∀ (r : (List (List (Int × Int)))) (u : V) (H1 : Hp), KM r → Ret [] H H1 → rep ms H1 (D.lst (r.map (fun y_ : (List (Int × Int)) => (D.lst (y_.map (fun y_ : (Int × Int) => (D.tup [(D.v (V.int y_.1)), (D.v (V.int y_.2))]))))))) u → Q u H1
set_option maxHeartbeats 16000000 in
theorem ok_sorted {P : Program} {w : World} {K : PySem.W.Frag} {mg : Str → Option Value} {base : Heap} {A : Ad} (T : Txt w K mg A) : FnOk P w K mg base CX0 1 A.a_sorted A.d_sorted ["_law_days_here"] (sp_sorted A) := by
  refine T.F_sorted.ok sc_sorted (fun vs H Q E h => ?_) (fun cdv A_ outer s_ H_0 vs Q E hr h => ?_)
  · obtain ⟨ms, v_days_here, x_days_here, KM, rfl, _⟩ := h
    rfl
  · obtain ⟨ms, v_days_here, x_days_here, KM, rfl, hW, h_days_here, hM, hQ⟩ := h
    unfold M_sorted at hM
    refine ⟨_, (pss_one (ps_ret (pe_lc (own := [("_law_meets", 1)]) (g := gName 1) rfl sc_sorted.nd (pi_list (pv 0)) (blkOk_by (N := ["_law_days_here", "_law_meets", "_law_home", "_law_away"]) (sc := defScope s_sorted) (by decide +kernel)) (fun _ _ _ _ _ => pg_name (i := 1) sc_sorted.nd rfl (by first | exact Or.inl rfl | exact Or.inr rfl)) (fun _ _ _ _ _ => pts_nil) (fun _ _ _ _ _ => (pe_callB (cr_sortedPK (K := K) rfl) (by rfl) T.z_sorted (by decide +kernel) (pa_cons (pe_lc (own := [("_law_home", 2), ("_law_away", 3)]) (g := (gTup K 2 (gCons (gName 2) (gCons (gName 3) gNil)))) rfl sc_sorted.nd (pi_listK (K := K) rfl (pv 1)) (blkOk_rel (N := ["_law_days_here", "_law_meets", "_law_home", "_law_away"]) rfl (by kernel_rfl)) (fun _ _ _ _ _ => (pg_tup rfl (pgs_cons (pg_name (i := 2) sc_sorted.nd rfl (by first | exact Or.inl rfl | exact Or.inr rfl)) (pgs_cons (pg_name (i := 3) sc_sorted.nd rfl (by first | exact Or.inl rfl | exact Or.inr rfl)) pgs_nil)))) (fun _ _ _ _ _ => pts_nil) (fun _ _ _ _ _ => (pe_tup (pa_cons (pe_callTy call_int1 (by rfl) T.z_int (by decide +kernel) (pa_cons (pv 2) pa_nil)) (pa_cons (pe_callTy call_int1 (by rfl) T.z_int (by decide +kernel) (pa_cons (pv 3) pa_nil)) pa_nil))))) pa_nil)))))), ?_⟩
    refine ⟨_, rfl, ?_⟩
    apply rep_iter h_days_here
    intro a1 xs2 _ an3 hp4 hl5
    refine fun L6 nl7 => ?_
    have nm21 := nm_new hW nl7
    refine lc_listG (L := L6) (fun n_ ys_ h_ => Wd (L6 :: ms) [] [] H_0 h_ ∧ Keep (L6 :: ms) H_0 h_ ∧ MutO (L6 :: ms) [] H_0 h_ L6 (D.lst (ys_.map (fun y_ : (List (Int × Int)) => (D.lst (y_.map (fun y_ : (Int × Int) => (D.tup [(D.v (V.int y_.1)), (D.v (V.int y_.2))]))))))) ∧ ys_.length ≤ n_) (items := x_days_here) (e := (fun y_ : (List (Int × Int)) => (D.lst (y_.map (fun y_ : (Int × Int) => (D.tup [(D.v (V.int y_.1)), (D.v (V.int y_.2))])))))) an3 hp4 hl5 nl7 (fun _ _ _ q_ => q_.2.1) hM ⟨wd_cell hW nl7, keep_cell nl7 Keep.refl, mo_newL (ds := []) hW nl7 repL_nil, Nat.le_refl _⟩ ?_ ?_
    · skip
      rintro x17 u18 n8 ys9 k10 H22 hn ⟨hW, hk11, mu12, ln13⟩ h19 hM Nx16 hN14
      replace h_days_here := rep_keep hk11 (rep_new nl7 h_days_here)
      refine ⟨rfl, ?_⟩
      refine tyes_of ?_
      refine ⟨_, rfl, ?_⟩
      apply rep_iter h19
      intro a23 xs24 _ an25 hp26 hl27
      refine fun L28 nl29 => ?_
      have nm43 := nm_new hW nl29
      have kn44 := keep_none (w := hW) nl29 hk11
      have ne45 := mo_ne nl29 mu12
      refine lc_listG (L := L28) (fun n_ ys_ h_ => Wd (L28 :: (L6 :: ms)) [] [] H_0 h_ ∧ Keep (L28 :: (L6 :: ms)) H22 h_ ∧ MutO (L28 :: (L6 :: ms)) [] H_0 h_ L28 (D.lst (ys_.map (fun y_ : (Int × Int) => (D.tup [(D.v (V.int y_.1)), (D.v (V.int y_.2))])))) ∧ ys_.length ≤ n_ ∧ MutO (L28 :: (L6 :: ms)) [] H_0 h_ L6 (D.lst (ys9.map (fun y_ : (List (Int × Int)) => (D.lst (y_.map (fun y_ : (Int × Int) => (D.tup [(D.v (V.int y_.1)), (D.v (V.int y_.2))])))))))) (items := x17) (e := (fun y_ : (Int × Int) => (D.tup [(D.v (V.int y_.1)), (D.v (V.int y_.2))]))) an25 hp26 hl27 nl29 (fun _ _ _ q_ => q_.2.1) hM ⟨wd_cell hW nl29, keep_cell nl29 Keep.refl, mo_newL (ds := []) hW nl29 repL_nil, Nat.le_refl _, mo_cell nl29 mu12⟩ ?_ ?_
      · skip
        clear mu12
        rintro x39 u40 n30 ys31 k32 H46 hn ⟨hW, hk33, mu34, ln35, mu47⟩ h41 hM Nx38 hN36
        replace h_days_here := rep_keep hk33 (rep_new nl29 h_days_here)
        replace hk11 := Keep.trans (Keep.new hk11) hk33
        replace h19 := rep_keep hk33 (rep_new nl29 h19)
        apply rep_gtup h41 rfl
        intro vs48 hv49
        obtain ⟨u50, us51, rfl, h52, hv53⟩ := repL_uncons hv49
        obtain rfl := of_v h52
        obtain ⟨u54, us55, rfl, h56, hv57⟩ := repL_uncons hv53
        obtain rfl := of_v h56
        obtain rfl := repL_empty hv57
        refine ⟨_, _, rfl, ?_⟩
        refine ⟨_, _, rfl, ?_⟩
        refine ⟨rfl, ?_⟩
        refine ⟨rfl, ?_⟩
        refine tyes_of ?_
        refine ⟨_, rfl, ?_⟩
        refine .inl ⟨_, rfl, ?_⟩
        refine ⟨_, rfl, ?_⟩
        refine .inl ⟨_, rfl, ?_⟩
        refine ⟨(by show 2 ≤ sizeLine; decide), ?_⟩
        intro p58 n62
        have e59 := Rx.Ext.new (H := H46) (o := (HO.tup [V.int x39.1, V.int x39.2])) n62
        have hp60 : upd H46 p58 (HO.tup [V.int x39.1, V.int x39.2]) p58 = some (HO.tup [V.int x39.1, V.int x39.2]) := upd_same
        generalize upd H46 p58 (HO.tup [V.int x39.1, V.int x39.2]) = H63 at e59 hp60 ⊢
        have h61 : rep (L28 :: (L6 :: ms)) H63 (D.tup [(D.v (V.int x39.1)), (D.v (V.int x39.2))]) (.ref p58) := rep_tup_mk hW n62 e59 hp60 (repL_cons rep_v (repL_cons rep_v repL_nil))
        replace h_days_here := rep_ext e59 h_days_here
        replace hk11 := keep_ext e59 hk11
        replace h19 := rep_ext e59 h19
        replace hk33 := keep_ext e59 hk33
        replace h41 := rep_ext e59 h41
        replace mu47 := mo_ext e59 mu47
        replace mu34 := mo_ext e59 mu34
        replace hW := hW.ret0 e59
        refine mo_end mu34 hn (by rw [List.length_map]; exact ln35) fun vs64 hr65 => ?_
        have mk67 := mo_setL mu34 (repL_snoc (e := (fun y_ : (Int × Int) => (D.tup [(D.v (V.int y_.1)), (D.v (V.int y_.2))]))) (xs := ys31) (y := (x39.1, x39.2)) hr65 h61)
        replace mu47 := mo_put (o := .lst (vs64 ++ [(V.ref p58)])) mu34.im ne45 mu47
        replace h_days_here := rep_put (o := .lst (vs64 ++ [(V.ref p58)])) mu34.im h_days_here
        replace hk11 := keep_put (o := .lst (vs64 ++ [(V.ref p58)])) mu34.im hk11
        replace h19 := rep_put (o := .lst (vs64 ++ [(V.ref p58)])) mu34.im h19
        replace hk33 := keep_put (o := .lst (vs64 ++ [(V.ref p58)])) mu34.im hk33
        replace h41 := rep_put (o := .lst (vs64 ++ [(V.ref p58)])) mu34.im h41
        replace h61 := rep_put (o := .lst (vs64 ++ [(V.ref p58)])) mu34.im h61
        replace hW := wd_put (o := .lst (vs64 ++ [(V.ref p58)])) hW mu34
        replace mu34 := mk67
        generalize upd H63 L28 (.lst (vs64 ++ [(V.ref p58)])) = H68 at *
        replace mu34 : MutO (L28 :: (L6 :: ms)) [] H_0 H68 L28 (D.lst ((ys31 ++ [(x39.1, x39.2)]).map (fun y_ : (Int × Int) => (D.tup [(D.v (V.int y_.1)), (D.v (V.int y_.2))])))) := mu34
        clear mk67
        exact hN36 (x39.1, x39.2) _ hM ⟨hW, hk33, mu34, by rw [List.length_append]; exact Nat.add_le_add_right ln35 1, mu47⟩
      · skip
        clear mu12
        rintro n30 ys69 H70 hM ⟨hW, hk33, mu34, ln35, mu71⟩
        replace h_days_here := rep_keep hk33 (rep_new nl29 h_days_here)
        replace hk11 := Keep.trans (Keep.new hk11) hk33
        replace h19 := rep_keep hk33 (rep_new nl29 h19)
        clear hk33 ln35
        have h72 := mo_rep_dr dr_here nm43 mu34
        replace hW := wd_dr dr_here mu34.hp hW
        replace h_days_here := rep_dr dr_here h_days_here
        replace hk11 := keep_dr dr_here kn44 hk11
        replace h19 := rep_dr dr_here h19
        replace mu71 := mo_dr dr_here ne45 mu71
        clear mu34
        apply rep_sortP (xs := ys69) h72
        intro ys73 zs76 hpm74 hst75 hr77
        replace hM := hM ys73 hpm74 hst75
        intro p78 n82
        have e79 := Rx.Ext.new (H := H70) (o := (HO.lst (zs76))) n82
        have hp80 : upd H70 p78 (HO.lst (zs76)) p78 = some (HO.lst (zs76)) := upd_same
        generalize upd H70 p78 (HO.lst (zs76)) = H83 at e79 hp80 ⊢
        have h81 : rep (L6 :: ms) H83 (D.lst (ys73.map (fun y_ : (Int × Int) => (D.tup [(D.v (V.int y_.1)), (D.v (V.int y_.2))])))) (.ref p78) := rep_lst_mk hW n82 e79 hp80 hr77
        replace h_days_here := rep_ext e79 h_days_here
        replace hk11 := keep_ext e79 hk11
        replace h19 := rep_ext e79 h19
        replace h72 := rep_ext e79 h72
        replace mu71 := mo_ext e79 mu71
        replace hW := hW.ret0 e79
        refine mo_end mu71 hn (by rw [List.length_map]; exact ln13) fun vs84 hr85 => ?_
        have mk87 := mo_setL mu71 (repL_snoc (e := (fun y_ : (List (Int × Int)) => (D.lst (y_.map (fun y_ : (Int × Int) => (D.tup [(D.v (V.int y_.1)), (D.v (V.int y_.2))])))))) (xs := ys9) (y := ys73) hr85 h81)
        replace h_days_here := rep_put (o := .lst (vs84 ++ [(V.ref p78)])) mu71.im h_days_here
        replace hk11 := keep_put (o := .lst (vs84 ++ [(V.ref p78)])) mu71.im hk11
        replace h19 := rep_put (o := .lst (vs84 ++ [(V.ref p78)])) mu71.im h19
        replace h72 := rep_put (o := .lst (vs84 ++ [(V.ref p78)])) mu71.im h72
        replace h81 := rep_put (o := .lst (vs84 ++ [(V.ref p78)])) mu71.im h81
        replace hW := wd_put (o := .lst (vs84 ++ [(V.ref p78)])) hW mu71
        replace mu71 := mk87
        generalize upd H83 L6 (.lst (vs84 ++ [(V.ref p78)])) = H88 at *
        replace mu71 : MutO (L6 :: ms) [] H_0 H88 L6 (D.lst ((ys9 ++ [ys73]).map (fun y_ : (List (Int × Int)) => (D.lst (y_.map (fun y_ : (Int × Int) => (D.tup [(D.v (V.int y_.1)), (D.v (V.int y_.2))]))))))) := mu71
        clear mk87
        exact hN14 ys73 _ hM ⟨hW, hk11, mu71, by rw [List.length_append]; exact Nat.add_le_add_right ln13 1⟩
    · skip
      rintro n8 ys89 H90 hM ⟨hW, hk11, mu12, ln13⟩
      replace h_days_here := rep_keep hk11 (rep_new nl7 h_days_here)
      clear hk11 ln13
      have h91 := mo_rep_dr dr_here nm21 mu12
      replace hW := wd_dr dr_here mu12.hp hW
      replace h_days_here := rep_dr dr_here h_days_here
      clear mu12
      exact hQ ys89 _ _ hM hW.out h91
def M_Table_repr (x_self : (List (List (Int × Int)))) (KM : Str → Prop) : Prop :=
  ((Str.empty ++ ("Table(" : Str)).length ≤ sizeLine ∧ ((plainD (D.lst (x_self.map (fun y_ : (List (Int × Int)) => (D.lst (y_.map (fun y_ : (Int × Int) => (D.tup [(D.v (V.int y_.1)), (D.v (V.int y_.2))]))))))) = true ∧ (pyOf (D.lst (x_self.map (fun y_ : (List (Int × Int)) => (D.lst (y_.map (fun y_ : (Int × Int) => (D.tup [(D.v (V.int y_.1)), (D.v (V.int y_.2))])))))))).showable = true ∧ (pyOf (D.lst (x_self.map (fun y_ : (List (Int × Int)) => (D.lst (y_.map (fun y_ : (Int × Int) => (D.tup [(D.v (V.int y_.1)), (D.v (V.int y_.2))])))))))).hasDict = false ∧ (pyOf (D.lst (x_self.map (fun y_ : (List (Int × Int)) => (D.lst (y_.map (fun y_ : (Int × Int) => (D.tup [(D.v (V.int y_.1)), (D.v (V.int y_.2))])))))))).depth ≤ 60 ∧ (pyOf (D.lst (x_self.map (fun y_ : (List (Int × Int)) => (D.lst (y_.map (fun y_ : (Int × Int) => (D.tup [(D.v (V.int y_.1)), (D.v (V.int y_.2))])))))))).shown.length ≤ sizeLine) ∧ (((Str.empty ++ ("Table(" : Str)) ++ (pyOf (D.lst (x_self.map (fun y_ : (List (Int × Int)) => (D.lst (y_.map (fun y_ : (Int × Int) => (D.tup [(D.v (V.int y_.1)), (D.v (V.int y_.2))])))))))).shown).length ≤ sizeLine ∧ ((((Str.empty ++ ("Table(" : Str)) ++ (pyOf (D.lst (x_self.map (fun y_ : (List (Int × Int)) => (D.lst (y_.map (fun y_ : (Int × Int) => (D.tup [(D.v (V.int y_.1)), (D.v (V.int y_.2))])))))))).shown) ++ (")" : Str)).length ≤ sizeLine ∧ (KM (((Str.empty ++ ("Table(" : Str)) ++ (pyOf (D.lst (x_self.map (fun y_ : (List (Int × Int)) => (D.lst (y_.map (fun y_ : (Int × Int) => (D.tup [(D.v (V.int y_.1)), (D.v (V.int y_.2))])))))))).shown) ++ (")" : Str)))))))
def sp_Table_repr (A : Ad) : Sp := fun vs H Q _ => ∃ (ms : List Addr) (v_self : V) (x_self : (List (List (Int × Int)))) (KM : Str → Prop), vs = [v_self] ∧ Wd ms [] [] H H ∧ rep ms H (eTable A x_self) v_self ∧ M_Table_repr x_self KM ∧ ∀ (r : Str) (u : V) (H1 : Hp), KM r → Ret [] H H1 → rep ms H1 (D.v (V.str r)) u → Q u H1
set_option maxHeartbeats 16000000 in
theorem ok_Table_repr {P : Program} {w : World} {K : PySem.W.Frag} {mg : Str → Option Value} {base : Heap} {A : Ad} (T : Txt w K mg A) : FnG P w K mg base 1 A.a_Table_repr A.d_Table_repr ["self"] (sp_Table_repr A) := by
  refine okG T.F_Table_repr sc_Table_repr (fun vs H Q E h => ?_) (fun cdv A_ outer s_ H_0 vs Q E gu hr h => ?_)
  · obtain ⟨ms, v_self, x_self, KM, rfl, _⟩ := h
    rfl
  · obtain ⟨ms, v_self, x_self, KM, rfl, hW, h_self, hM, hQ⟩ := h
    unfold M_Table_repr at hM
    refine ⟨_, (pss_one (ps_ret (pe_joinedF (.cons pe_str (.cons (pe_fmtD (K := K) rfl gu hr (pe_fld (pv 0) rfl)) (.cons pe_str .nil)))))), ?_⟩
    obtain ⟨g1, hM⟩ := hM
    refine ⟨_, rfl, g1, ?_⟩
    refine ⟨_, rfl, ?_⟩
    apply rep_fld (j := 0) h_self T.cl_Table T.na_Table__rounds nd_Table rfl rfl
    intro u3 h2
    obtain ⟨g4, hM⟩ := hM
    apply rep_fmtD (d := (D.lst (x_self.map (fun y_ : (List (Int × Int)) => (D.lst (y_.map (fun y_ : (Int × Int) => (D.tup [(D.v (V.int y_.1)), (D.v (V.int y_.2))])))))))) h2 (rep_refL h2) g4
    obtain ⟨g5, hM⟩ := hM
    refine ⟨_, rfl, g5, ?_⟩
    obtain ⟨g6, hM⟩ := hM
    refine ⟨_, rfl, g6, ?_⟩
    exact hQ (((Str.empty ++ ("Table(" : Str)) ++ (pyOf (D.lst (x_self.map (fun y_ : (List (Int × Int)) => (D.lst (y_.map (fun y_ : (Int × Int) => (D.tup [(D.v (V.int y_.1)), (D.v (V.int y_.2))])))))))).shown) ++ (")" : Str)) _ _ hM hW.out rep_v
def M_mark_in (x_meetings : (List (Int × Int))) (x_team : Int) (KM : Str → Prop) : Prop :=
  (∃ KB1 : Str → Prop, (x_meetings.length < 100000 ∧ mapC (fun (x20 : (Int × Int)) (k13 : Int → Prop) => (k13 x20.1)) x_meetings [] fun ys34 => (if (inV (V.int x_team) (ys34.map V.int)) = true then (KB1 ("h" : Str)) else (KB1 ("a" : Str)))) ∧ ∀ r37 : Str, KB1 r37 → (KM r37))
def sp_mark_in (A : Ad) : Sp := fun vs H Q _ => ∃ (ms : List Addr) (v_meetings : V) (x_meetings : (List (Int × Int))) (x_team : Int) (KM : Str → Prop), vs = [v_meetings, V.int x_team] ∧ Wd ms [] [] H H ∧ rep ms H (D.lst (x_meetings.map (fun y_ : (Int × Int) => (D.tup [(D.v (V.int y_.1)), (D.v (V.int y_.2))])))) v_meetings ∧ M_mark_in x_meetings x_team KM ∧ ∀ (r : Str) (u : V) (H1 : Hp), KM r → Ret [] H H1 → rep ms H1 (D.v (V.str r)) u → Q u H1
set_option maxHeartbeats 16000000 in
theorem ok_mark_in {P : Program} {w : World} {K : PySem.W.Frag} {mg : Str → Option Value} {base : Heap} {A : Ad} (T : Txt w K mg A) : FnOk P w K mg base CX0 1 A.a_mark_in A.d_mark_in ["meetings", "team"] (sp_mark_in A) := by
  refine T.F_mark_in.ok sc_mark_in (fun vs H Q E h => ?_) (fun cdv A_ outer s_ H_0 vs Q E hr h => ?_)
  · obtain ⟨ms, v_meetings, x_meetings, x_team, KM, rfl, _⟩ := h
    rfl
  · obtain ⟨ms, v_meetings, x_meetings, x_team, KM, rfl, hW, h_meetings, hM, hQ⟩ := h
    unfold M_mark_in at hM
    refine ⟨_, (pss_one (ps_ret (pe_up (pe_ifExp (pt_cmpR (op_inSK (K := K) rfl) (pv 1) (pe_lc (own := [("meeting", 2)]) (g := gName 2) rfl sc_mark_in.nd (pi_list (pv 0)) (blkOk_by (N := ["meetings", "team", "meeting"]) (sc := defScope s_mark_in) (by decide +kernel)) (fun _ _ _ _ _ => pg_name (i := 2) sc_mark_in.nd rfl (by first | exact Or.inl rfl | exact Or.inr rfl)) (fun _ _ _ _ _ => pts_nil) (fun _ _ _ _ _ => (pe_ix (ix_tupK (K := K) rfl) (pv 2) pe_int (fun _ _ => rfl)))) (by rfl)) pe_str pe_str)))), ?_⟩
    obtain ⟨KB1, hM, hKKB1⟩ := hM
    refine ⟨fun v H1 => ∃ r : Str, KB1 r ∧ Wd ms [] [] H_0 H1 ∧ Keep ms H_0 H1 ∧ rep ms H1 (D.v (V.str r)) v, ?_, ?_⟩
    · skip
      have hj3 := Keep.refl (ms := ms) (H := H_0)
      refine ⟨_, rfl, ?_⟩
      refine ⟨_, rfl, ?_⟩
      apply rep_iter h_meetings
      intro a4 xs5 _ an6 hp7 hl8
      refine fun L9 nl10 => ?_
      have nm24 := nm_new hW nl10
      have kn25 := keep_none (w := hW) nl10 hj3
      refine lc_listG (L := L9) (fun n_ ys_ h_ => Wd (L9 :: ms) [] [] H_0 h_ ∧ Keep (L9 :: ms) H_0 h_ ∧ MutO (L9 :: ms) [] H_0 h_ L9 (D.lst (ys_.map (fun y_ : Int => (D.v (V.int y_))))) ∧ ys_.length ≤ n_) (items := x_meetings) (e := (fun y_ : (Int × Int) => (D.tup [(D.v (V.int y_.1)), (D.v (V.int y_.2))]))) an6 hp7 hl8 nl10 (fun _ _ _ q_ => q_.2.1) hM ⟨wd_cell hW nl10, keep_cell nl10 Keep.refl, mo_newL (ds := []) hW nl10 repL_nil, Nat.le_refl _⟩ ?_ ?_
      · skip
        rintro x20 u21 n11 ys12 k13 H26 hn ⟨hW, hk14, mu15, ln16⟩ h22 hM Nx19 hN17
        replace h_meetings := rep_keep hk14 (rep_new nl10 h_meetings)
        replace hj3 := Keep.trans (Keep.new hj3) hk14
        refine ⟨rfl, ?_⟩
        refine tyes_of ?_
        refine ⟨_, rfl, ?_⟩
        apply rep_ixT 0 h22 rfl rfl
        intro u28 h27
        obtain rfl := of_v h27
        refine mo_end mu15 hn (by rw [List.length_map]; exact ln16) fun vs29 hr30 => ?_
        have mk32 := mo_setL mu15 (repL_snoc (e := (fun y_ : Int => (D.v (V.int y_)))) (xs := ys12) (y := x20.1) hr30 rep_v)
        replace h_meetings := rep_put (o := .lst (vs29 ++ [V.int x20.1])) mu15.im h_meetings
        replace hj3 := keep_put (o := .lst (vs29 ++ [V.int x20.1])) mu15.im hj3
        replace hk14 := keep_put (o := .lst (vs29 ++ [V.int x20.1])) mu15.im hk14
        replace h22 := rep_put (o := .lst (vs29 ++ [V.int x20.1])) mu15.im h22
        replace hW := wd_put (o := .lst (vs29 ++ [V.int x20.1])) hW mu15
        replace mu15 := mk32
        generalize upd H26 L9 (.lst (vs29 ++ [V.int x20.1])) = H33 at *
        replace mu15 : MutO (L9 :: ms) [] H_0 H33 L9 (D.lst ((ys12 ++ [x20.1]).map (fun y_ : Int => (D.v (V.int y_))))) := mu15
        clear mk32
        exact hN17 x20.1 _ hM ⟨hW, hk14, mu15, by rw [List.length_append]; exact Nat.add_le_add_right ln16 1⟩
      · skip
        rintro n11 ys34 H35 hM ⟨hW, hk14, mu15, ln16⟩
        replace h_meetings := rep_keep hk14 (rep_new nl10 h_meetings)
        replace hj3 := Keep.trans (Keep.new hj3) hk14
        clear hk14 ln16
        have h36 := mo_rep_dr dr_here nm24 mu15
        replace hW := wd_dr dr_here mu15.hp hW
        replace h_meetings := rep_dr dr_here h_meetings
        replace hj3 := keep_dr dr_here kn25 hj3
        clear mu15
        apply rep_inL (f := V.int) (xs := ys34) h36 rfl (fun _ => rfl)
        refine ⟨_, rfl, ?_⟩
        refine ite3 hM (fun hM => ?_) (fun hM => ?_)
        · skip
          exact ⟨("h" : Str), hM, hW, hj3, rep_v⟩
        · skip
          exact ⟨("a" : Str), hM, hW, hj3, rep_v⟩
    · skip
      rintro u39 Hj2 ⟨r37, hr, hW, hj3, h38⟩
      replace hM := hKKB1 r37 hr
      replace h_meetings := rep_keep hj3 h_meetings
      obtain rfl := of_v h38
      exact hQ r37 _ _ hM hW.out rep_v
def M_Table_row_of (x_self : (List (List (Int × Int)))) (x_team : Int) (KM : Str → Prop) : Prop :=
  (M_Table_size x_self fun r2 => (M_check_team x_team r2 fun r7 => (x_self.length < 100000 ∧ mapC (fun (x30 : (List (Int × Int))) (k23 : Str → Prop) => (M_mark_in x30 x_team fun r36 => (k23 r36))) x_self [] fun ys46 => ((ys46.map (·.length)).sum + ys46.length * ("" : Str).length ≤ 16777216 ∧ (KM (Txt.join ("" : Str) ys46))))))
def sp_Table_row_of (A : Ad) : Sp := fun vs H Q _ => ∃ (ms : List Addr) (v_self : V) (x_self : (List (List (Int × Int)))) (x_team : Int) (KM : Str → Prop), vs = [v_self, V.int x_team] ∧ Wd ms [] [] H H ∧ rep ms H (eTable A x_self) v_self ∧ M_Table_row_of x_self x_team KM ∧ ∀ (r : Str) (u : V) (H1 : Hp), KM r → Ret [] H H1 → rep ms H1 (D.v (V.str r)) u → Q u H1
set_option maxHeartbeats 16000000 in
theorem ok_Table_row_of {P : Program} {w : World} {K : PySem.W.Frag} {mg : Str → Option Value} {base : Heap} {A : Ad} (T : Txt w K mg A) : FnOk P w K mg base CX0 4 A.a_Table_row_of A.d_Table_row_of ["self", "team"] (sp_Table_row_of A) := by
  refine T.F_Table_row_of.ok sc_Table_row_of (fun vs H Q E h => ?_) (fun cdv A_ outer s_ H_0 vs Q E hr h => ?_)
  · obtain ⟨ms, v_self, x_self, x_team, KM, rfl, _⟩ := h
    rfl
  · obtain ⟨ms, v_self, x_self, x_team, KM, rfl, hW, h_self, hM, hQ⟩ := h
    unfold M_Table_row_of at hM
    refine ⟨_, (pss_cons (ps_expr (pe_call (ok_check_team T) (hr.mono (by decide)) (by rfl) T.g_check_team T.F_check_team.kp T.b_check_team .nil pass0 (pa_cons (pv 1) (pa_cons (pe_prop (pv 0) T.cl_Table T.p_Table_size (ok_Table_size T) (hr.mono (by decide)) T.b_Table_size .nil pass0 rfl) pa_nil)))) (pss_one (ps_ret (pe_joinK (K := K) rfl pe_str (pe_lc (own := [("meetings", 2)]) (g := gName 2) rfl sc_Table_row_of.nd (pi_list (pe_fld (pv 0) rfl)) (blkOk_by (N := ["self", "team", "meetings"]) (sc := defScope s_Table_row_of) (by decide +kernel)) (fun _ _ _ _ _ => pg_name (i := 2) sc_Table_row_of.nd rfl (by first | exact Or.inl rfl | exact Or.inr rfl)) (fun _ _ _ _ _ => pts_nil) (fun _ _ _ _ _ => (pe_call (ok_mark_in T) (hr.mono (by decide)) (by rfl) T.g_mark_in T.F_mark_in.kp T.b_mark_in .nil pass0 (pa_cons (pv 2) (pa_cons (pv 1) pa_nil))))))))), ?_⟩
    refine ⟨_, rfl, ?_⟩
    refine ⟨_, rfl, ?_⟩
    apply rep_prop h_self
    intro _ h1
    refine ⟨ms, _, x_self, _, rfl, hW.enter0, h1, hM, fun r2 u5 H6 hM e4 h3 => ?_⟩
    replace h_self := rep_ext e4 h_self
    replace hW := hW.ret0 e4
    obtain rfl := of_v h3
    refine ⟨ms, x_team, r2, _, rfl, hW.enter0, hM, fun r7 u10 H11 hM e9 h8 => ?_⟩
    replace h_self := rep_ext e9 h_self
    replace hW := hW.ret0 e9
    obtain rfl := of_v h8
    refine ⟨⟨_, rfl⟩, ?_⟩
    refine ⟨_, rfl, ?_⟩
    apply rep_fld (j := 0) h_self T.cl_Table T.na_Table__rounds nd_Table rfl rfl
    intro u13 h12
    apply rep_iter h12
    intro a14 xs15 _ an16 hp17 hl18
    refine fun L19 nl20 => ?_
    have nm34 := nm_new hW nl20
    refine lc_listG (L := L19) (fun n_ ys_ h_ => Wd (L19 :: ms) [] [] H_0 h_ ∧ Keep (L19 :: ms) H11 h_ ∧ MutO (L19 :: ms) [] H_0 h_ L19 (D.lst (ys_.map (fun y_ : Str => (D.v (V.str y_))))) ∧ ys_.length ≤ n_) (items := x_self) (e := (fun y_ : (List (Int × Int)) => (D.lst (y_.map (fun y_ : (Int × Int) => (D.tup [(D.v (V.int y_.1)), (D.v (V.int y_.2))])))))) an16 hp17 hl18 nl20 (fun _ _ _ q_ => q_.2.1) hM ⟨wd_cell hW nl20, keep_cell nl20 Keep.refl, mo_newL (ds := []) hW nl20 repL_nil, Nat.le_refl _⟩ ?_ ?_
    · skip
      rintro x30 u31 n21 ys22 k23 H35 hn ⟨hW, hk24, mu25, ln26⟩ h32 hM Nx29 hN27
      replace h_self := rep_keep hk24 (rep_new nl20 h_self)
      replace h12 := rep_keep hk24 (rep_new nl20 h12)
      refine ⟨rfl, ?_⟩
      refine tyes_of ?_
      refine ⟨_, rfl, ?_⟩
      refine ⟨_, rfl, ?_⟩
      refine ⟨(L19 :: ms), _, x30, x_team, _, rfl, hW.enter0, h32, hM, fun r36 u39 H40 hM e38 h37 => ?_⟩
      replace h_self := rep_ext e38 h_self
      replace h12 := rep_ext e38 h12
      replace hk24 := keep_ext e38 hk24
      replace h32 := rep_ext e38 h32
      replace mu25 := mo_ext e38 mu25
      replace hW := hW.ret0 e38
      obtain rfl := of_v h37
      refine mo_end mu25 hn (by rw [List.length_map]; exact ln26) fun vs41 hr42 => ?_
      have mk44 := mo_setL mu25 (repL_snoc (e := (fun y_ : Str => (D.v (V.str y_)))) (xs := ys22) (y := r36) hr42 rep_v)
      replace h_self := rep_put (o := .lst (vs41 ++ [V.str r36])) mu25.im h_self
      replace h12 := rep_put (o := .lst (vs41 ++ [V.str r36])) mu25.im h12
      replace hk24 := keep_put (o := .lst (vs41 ++ [V.str r36])) mu25.im hk24
      replace h32 := rep_put (o := .lst (vs41 ++ [V.str r36])) mu25.im h32
      replace hW := wd_put (o := .lst (vs41 ++ [V.str r36])) hW mu25
      replace mu25 := mk44
      generalize upd H40 L19 (.lst (vs41 ++ [V.str r36])) = H45 at *
      replace mu25 : MutO (L19 :: ms) [] H_0 H45 L19 (D.lst ((ys22 ++ [r36]).map (fun y_ : Str => (D.v (V.str y_))))) := mu25
      clear mk44
      exact hN27 r36 _ hM ⟨hW, hk24, mu25, by rw [List.length_append]; exact Nat.add_le_add_right ln26 1⟩
    · skip
      rintro n21 ys46 H47 hM ⟨hW, hk24, mu25, ln26⟩
      replace h_self := rep_keep hk24 (rep_new nl20 h_self)
      replace h12 := rep_keep hk24 (rep_new nl20 h12)
      clear hk24 ln26
      have h48 := mo_rep_dr dr_here nm34 mu25
      replace hW := wd_dr dr_here mu25.hp hW
      replace h_self := rep_dr dr_here h_self
      replace h12 := rep_dr dr_here h12
      clear mu25
      obtain ⟨g49, hM⟩ := hM
      apply rep_join (a := ("" : Str)) (ys := ys46) h48 g49
      exact hQ (Txt.join ("" : Str) ys46) _ _ hM hW.out rep_v
def M_row (x_days_here : (List (List (Int × Int)))) (x_who : Int) (KM : Str → Prop) : Prop :=
  (x_days_here.length < 100000 ∧ mapC (fun (x17 : (List (Int × Int))) (k10 : Str → Prop) => (∃ KB23 : Str → Prop, (x17.length < 100000 ∧ mapC (fun (x42 : (Int × Int)) (k35 : Int → Prop) => (k35 x42.1)) x17 [] fun ys67 => (if (inV (V.int x_who) (ys67.map V.int)) = true then (KB23 ("h" : Str)) else (KB23 ("a" : Str)))) ∧ ∀ r71 : Str, KB23 r71 → (k10 r71))) x_days_here [] fun ys80 => ((ys80.map (·.length)).sum + ys80.length * ("" : Str).length ≤ 16777216 ∧ (KM (Txt.join ("" : Str) ys80))))
def sp_row (A : Ad) : Sp := fun vs H Q _ => ∃ (ms : List Addr) (v_days_here : V) (x_days_here : (List (List (Int × Int)))) (x_who : Int) (KM : Str → Prop), vs = [v_days_here, V.int x_who] ∧ Wd ms [] [] H H ∧ rep ms H (D.lst (x_days_here.map (fun y_ : (List (Int × Int)) => (D.lst (y_.map (fun y_ : (Int × Int) => (D.tup [(D.v (V.int y_.1)), (D.v (V.int y_.2))]))))))) v_days_here ∧ M_row x_days_here x_who KM ∧ ∀ (r : Str) (u : V) (H1 : Hp), KM r → Ret [] H H1 → rep ms H1 (D.v (V.str r)) u → Q u H1
set_option maxHeartbeats 16000000 in
theorem ok_row {P : Program} {w : World} {K : PySem.W.Frag} {mg : Str → Option Value} {base : Heap} {A : Ad} (T : Txt w K mg A) : FnOk P w K mg base CX0 1 A.a_row A.d_row ["_law_days_here", "_law_who"] (sp_row A) := by
  refine T.F_row.ok sc_row (fun vs H Q E h => ?_) (fun cdv A_ outer s_ H_0 vs Q E hr h => ?_)
  · obtain ⟨ms, v_days_here, x_days_here, x_who, KM, rfl, _⟩ := h
    rfl
  · obtain ⟨ms, v_days_here, x_days_here, x_who, KM, rfl, hW, h_days_here, hM, hQ⟩ := h
    unfold M_row at hM
    refine ⟨_, (pss_one (ps_ret (pe_joinK (K := K) rfl pe_str (pe_lc (own := [("_law_meets", 2)]) (g := gName 2) rfl sc_row.nd (pi_list (pv 0)) (blkOk_by (N := ["_law_days_here", "_law_who", "_law_meets", "_law_home", "_law_away"]) (sc := defScope s_row) (by decide +kernel)) (fun _ _ _ _ _ => pg_name (i := 2) sc_row.nd rfl (by first | exact Or.inl rfl | exact Or.inr rfl)) (fun _ _ _ _ _ => pts_nil) (fun _ _ _ _ _ => (pe_up (pe_ifExp (pt_cmpR (op_inSK (K := K) rfl) (pv 1) (pe_lc (own := [("_law_home", 3), ("_law_away", 4)]) (g := (gTup K 2 (gCons (gName 3) (gCons (gName 4) gNil)))) rfl sc_row.nd (pi_listK (K := K) rfl (pv 2)) (blkOk_rel (N := ["_law_days_here", "_law_who", "_law_meets", "_law_home", "_law_away"]) rfl (by kernel_rfl)) (fun _ _ _ _ _ => (pg_tup rfl (pgs_cons (pg_name (i := 3) sc_row.nd rfl (by first | exact Or.inl rfl | exact Or.inr rfl)) (pgs_cons (pg_name (i := 4) sc_row.nd rfl (by first | exact Or.inl rfl | exact Or.inr rfl)) pgs_nil)))) (fun _ _ _ _ _ => pts_nil) (fun _ _ _ _ _ => (pv 3))) (by rfl)) pe_str pe_str))))))), ?_⟩
    refine ⟨⟨_, rfl⟩, ?_⟩
    refine ⟨_, rfl, ?_⟩
    apply rep_iter h_days_here
    intro a1 xs2 _ an3 hp4 hl5
    refine fun L6 nl7 => ?_
    have nm21 := nm_new hW nl7
    refine lc_listG (L := L6) (fun n_ ys_ h_ => Wd (L6 :: ms) [] [] H_0 h_ ∧ Keep (L6 :: ms) H_0 h_ ∧ MutO (L6 :: ms) [] H_0 h_ L6 (D.lst (ys_.map (fun y_ : Str => (D.v (V.str y_))))) ∧ ys_.length ≤ n_) (items := x_days_here) (e := (fun y_ : (List (Int × Int)) => (D.lst (y_.map (fun y_ : (Int × Int) => (D.tup [(D.v (V.int y_.1)), (D.v (V.int y_.2))])))))) an3 hp4 hl5 nl7 (fun _ _ _ q_ => q_.2.1) hM ⟨wd_cell hW nl7, keep_cell nl7 Keep.refl, mo_newL (ds := []) hW nl7 repL_nil, Nat.le_refl _⟩ ?_ ?_
    · skip
      rintro x17 u18 n8 ys9 k10 H22 hn ⟨hW, hk11, mu12, ln13⟩ h19 hM Nx16 hN14
      replace h_days_here := rep_keep hk11 (rep_new nl7 h_days_here)
      refine ⟨rfl, ?_⟩
      refine tyes_of ?_
      obtain ⟨KB23, hM, hKKB23⟩ := hM
      refine ⟨fun v H1 => ∃ r : Str, KB23 r ∧ Wd (L6 :: ms) [] [] H_0 H1 ∧ Keep (L6 :: ms) H22 H1 ∧ rep (L6 :: ms) H1 (D.v (V.str r)) v ∧ MutO (L6 :: ms) [] H_0 H1 L6 (D.lst (ys9.map (fun y_ : Str => (D.v (V.str y_))))), ?_, ?_⟩
      · skip
        have hj25 := Keep.refl (ms := (L6 :: ms)) (H := H22)
        refine ⟨_, rfl, ?_⟩
        refine ⟨_, rfl, ?_⟩
        apply rep_iter h19
        intro a26 xs27 _ an28 hp29 hl30
        refine fun L31 nl32 => ?_
        have nm46 := nm_new hW nl32
        have kn47 := keep_none (w := hW) nl32 hk11
        have kn48 := keep_none (w := hW) nl32 hj25
        have ne49 := mo_ne nl32 mu12
        refine lc_listG (L := L31) (fun n_ ys_ h_ => Wd (L31 :: (L6 :: ms)) [] [] H_0 h_ ∧ Keep (L31 :: (L6 :: ms)) H22 h_ ∧ MutO (L31 :: (L6 :: ms)) [] H_0 h_ L31 (D.lst (ys_.map (fun y_ : Int => (D.v (V.int y_))))) ∧ ys_.length ≤ n_ ∧ MutO (L31 :: (L6 :: ms)) [] H_0 h_ L6 (D.lst (ys9.map (fun y_ : Str => (D.v (V.str y_)))))) (items := x17) (e := (fun y_ : (Int × Int) => (D.tup [(D.v (V.int y_.1)), (D.v (V.int y_.2))]))) an28 hp29 hl30 nl32 (fun _ _ _ q_ => q_.2.1) hM ⟨wd_cell hW nl32, keep_cell nl32 Keep.refl, mo_newL (ds := []) hW nl32 repL_nil, Nat.le_refl _, mo_cell nl32 mu12⟩ ?_ ?_
        · skip
          clear mu12
          rintro x42 u43 n33 ys34 k35 H50 hn ⟨hW, hk36, mu37, ln38, mu51⟩ h44 hM Nx41 hN39
          replace h_days_here := rep_keep hk36 (rep_new nl32 h_days_here)
          replace hk11 := Keep.trans (Keep.new hk11) hk36
          replace h19 := rep_keep hk36 (rep_new nl32 h19)
          replace hj25 := Keep.trans (Keep.new hj25) hk36
          apply rep_gtup h44 rfl
          intro vs52 hv53
          obtain ⟨u54, us55, rfl, h56, hv57⟩ := repL_uncons hv53
          obtain rfl := of_v h56
          obtain ⟨u58, us59, rfl, h60, hv61⟩ := repL_uncons hv57
          obtain rfl := of_v h60
          obtain rfl := repL_empty hv61
          refine ⟨_, _, rfl, ?_⟩
          refine ⟨_, _, rfl, ?_⟩
          refine ⟨rfl, ?_⟩
          refine ⟨rfl, ?_⟩
          refine tyes_of ?_
          refine ⟨_, rfl, ?_⟩
          refine mo_end mu37 hn (by rw [List.length_map]; exact ln38) fun vs62 hr63 => ?_
          have mk65 := mo_setL mu37 (repL_snoc (e := (fun y_ : Int => (D.v (V.int y_)))) (xs := ys34) (y := x42.1) hr63 rep_v)
          replace mu51 := mo_put (o := .lst (vs62 ++ [V.int x42.1])) mu37.im ne49 mu51
          replace h_days_here := rep_put (o := .lst (vs62 ++ [V.int x42.1])) mu37.im h_days_here
          replace hk11 := keep_put (o := .lst (vs62 ++ [V.int x42.1])) mu37.im hk11
          replace h19 := rep_put (o := .lst (vs62 ++ [V.int x42.1])) mu37.im h19
          replace hj25 := keep_put (o := .lst (vs62 ++ [V.int x42.1])) mu37.im hj25
          replace hk36 := keep_put (o := .lst (vs62 ++ [V.int x42.1])) mu37.im hk36
          replace h44 := rep_put (o := .lst (vs62 ++ [V.int x42.1])) mu37.im h44
          replace hW := wd_put (o := .lst (vs62 ++ [V.int x42.1])) hW mu37
          replace mu37 := mk65
          generalize upd H50 L31 (.lst (vs62 ++ [V.int x42.1])) = H66 at *
          replace mu37 : MutO (L31 :: (L6 :: ms)) [] H_0 H66 L31 (D.lst ((ys34 ++ [x42.1]).map (fun y_ : Int => (D.v (V.int y_))))) := mu37
          clear mk65
          exact hN39 x42.1 _ hM ⟨hW, hk36, mu37, by rw [List.length_append]; exact Nat.add_le_add_right ln38 1, mu51⟩
        · skip
          clear mu12
          rintro n33 ys67 H68 hM ⟨hW, hk36, mu37, ln38, mu69⟩
          replace h_days_here := rep_keep hk36 (rep_new nl32 h_days_here)
          replace hk11 := Keep.trans (Keep.new hk11) hk36
          replace h19 := rep_keep hk36 (rep_new nl32 h19)
          replace hj25 := Keep.trans (Keep.new hj25) hk36
          clear hk36 ln38
          have h70 := mo_rep_dr dr_here nm46 mu37
          replace hW := wd_dr dr_here mu37.hp hW
          replace h_days_here := rep_dr dr_here h_days_here
          replace hk11 := keep_dr dr_here kn47 hk11
          replace h19 := rep_dr dr_here h19
          replace hj25 := keep_dr dr_here kn48 hj25
          replace mu69 := mo_dr dr_here ne49 mu69
          clear mu37
          apply rep_inL (f := V.int) (xs := ys67) h70 rfl (fun _ => rfl)
          refine ⟨_, rfl, ?_⟩
          refine ite3 hM (fun hM => ?_) (fun hM => ?_)
          · skip
            exact ⟨("h" : Str), hM, hW, hj25, rep_v, mu69⟩
          · skip
            exact ⟨("a" : Str), hM, hW, hj25, rep_v, mu69⟩
      · skip
        clear mu12
        rintro u73 Hj24 ⟨r71, hr, hW, hj25, h72, mu74⟩
        replace hM := hKKB23 r71 hr
        replace h_days_here := rep_keep hj25 h_days_here
        replace hk11 := Keep.trans hk11 hj25
        replace h19 := rep_keep hj25 h19
        obtain rfl := of_v h72
        refine mo_end mu74 hn (by rw [List.length_map]; exact ln13) fun vs75 hr76 => ?_
        have mk78 := mo_setL mu74 (repL_snoc (e := (fun y_ : Str => (D.v (V.str y_)))) (xs := ys9) (y := r71) hr76 rep_v)
        replace h_days_here := rep_put (o := .lst (vs75 ++ [V.str r71])) mu74.im h_days_here
        replace hk11 := keep_put (o := .lst (vs75 ++ [V.str r71])) mu74.im hk11
        replace h19 := rep_put (o := .lst (vs75 ++ [V.str r71])) mu74.im h19
        replace hW := wd_put (o := .lst (vs75 ++ [V.str r71])) hW mu74
        replace mu74 := mk78
        generalize upd Hj24 L6 (.lst (vs75 ++ [V.str r71])) = H79 at *
        replace mu74 : MutO (L6 :: ms) [] H_0 H79 L6 (D.lst ((ys9 ++ [r71]).map (fun y_ : Str => (D.v (V.str y_))))) := mu74
        clear mk78
        exact hN14 r71 _ hM ⟨hW, hk11, mu74, by rw [List.length_append]; exact Nat.add_le_add_right ln13 1⟩
    · skip
      rintro n8 ys80 H81 hM ⟨hW, hk11, mu12, ln13⟩
      replace h_days_here := rep_keep hk11 (rep_new nl7 h_days_here)
      clear hk11 ln13
      have h82 := mo_rep_dr dr_here nm21 mu12
      replace hW := wd_dr dr_here mu12.hp hW
      replace h_days_here := rep_dr dr_here h_days_here
      clear mu12
      obtain ⟨g83, hM⟩ := hM
      apply rep_join (a := ("" : Str)) (ys := ys80) h82 g83
      exact hQ (Txt.join ("" : Str) ys80) _ _ hM hW.out rep_v
def M_is (x_made : (List (List (Int × Int)))) (x_days_here : (List (List (Int × Int)))) (x_many_here : Int) (KM : Bool → Prop) : Prop :=
  (M_Table_size x_made fun r2 => (M_Table_len x_made fun r7 => ((0 ≤ r7 ∧ r7 < 4611686018427387904) ∧ (M_Table_rounds x_made fun r13 => ((rangeI (0 : Int) (x_days_here.length : Int)).length < 100000 ∧ mapC (fun (x29 : Int) (k22 : (List (Int × Int)) → Prop) => (M_Table_meetings x_made x29 fun r35 => (k22 r35))) (rangeI (0 : Int) (x_days_here.length : Int)) [] fun ys45 => ((plainX (D.lst (([(D.v (V.int r2)), (D.v (V.int r7)), (D.lst (r13.map (fun y_ : (List (Int × Int)) => (D.lst (y_.map (fun y_ : (Int × Int) => (D.tup [(D.v (V.int y_.1)), (D.v (V.int y_.2))]))))))), (D.lst (ys45.map (fun y_ : (List (Int × Int)) => (D.lst (y_.map (fun y_ : (Int × Int) => (D.tup [(D.v (V.int y_.1)), (D.v (V.int y_.2))])))))))] : List D).map (fun y_ : D => y_))) = true ∧ (pyX (D.lst (([(D.v (V.int r2)), (D.v (V.int r7)), (D.lst (r13.map (fun y_ : (List (Int × Int)) => (D.lst (y_.map (fun y_ : (Int × Int) => (D.tup [(D.v (V.int y_.1)), (D.v (V.int y_.2))]))))))), (D.lst (ys45.map (fun y_ : (List (Int × Int)) => (D.lst (y_.map (fun y_ : (Int × Int) => (D.tup [(D.v (V.int y_.1)), (D.v (V.int y_.2))])))))))] : List D).map (fun y_ : D => y_)))).showable = true ∧ (pyX (D.lst (([(D.v (V.int r2)), (D.v (V.int r7)), (D.lst (r13.map (fun y_ : (List (Int × Int)) => (D.lst (y_.map (fun y_ : (Int × Int) => (D.tup [(D.v (V.int y_.1)), (D.v (V.int y_.2))]))))))), (D.lst (ys45.map (fun y_ : (List (Int × Int)) => (D.lst (y_.map (fun y_ : (Int × Int) => (D.tup [(D.v (V.int y_.1)), (D.v (V.int y_.2))])))))))] : List D).map (fun y_ : D => y_)))).depth ≤ 60 ∧ (pyX (D.lst (([(D.v (V.int r2)), (D.v (V.int r7)), (D.lst (r13.map (fun y_ : (List (Int × Int)) => (D.lst (y_.map (fun y_ : (Int × Int) => (D.tup [(D.v (V.int y_.1)), (D.v (V.int y_.2))]))))))), (D.lst (ys45.map (fun y_ : (List (Int × Int)) => (D.lst (y_.map (fun y_ : (Int × Int) => (D.tup [(D.v (V.int y_.1)), (D.v (V.int y_.2))])))))))] : List D).map (fun y_ : D => y_)))).shown.length ≤ sizeLine) ∧ (M_sorted x_days_here fun r55 => (M_sorted x_days_here fun r60 => ((plainX (D.lst (([(D.v (V.int x_many_here)), (D.v (V.int (x_days_here.length : Int))), (D.lst (r55.map (fun y_ : (List (Int × Int)) => (D.lst (y_.map (fun y_ : (Int × Int) => (D.tup [(D.v (V.int y_.1)), (D.v (V.int y_.2))]))))))), (D.lst (r60.map (fun y_ : (List (Int × Int)) => (D.lst (y_.map (fun y_ : (Int × Int) => (D.tup [(D.v (V.int y_.1)), (D.v (V.int y_.2))])))))))] : List D).map (fun y_ : D => y_))) = true ∧ (pyX (D.lst (([(D.v (V.int x_many_here)), (D.v (V.int (x_days_here.length : Int))), (D.lst (r55.map (fun y_ : (List (Int × Int)) => (D.lst (y_.map (fun y_ : (Int × Int) => (D.tup [(D.v (V.int y_.1)), (D.v (V.int y_.2))]))))))), (D.lst (r60.map (fun y_ : (List (Int × Int)) => (D.lst (y_.map (fun y_ : (Int × Int) => (D.tup [(D.v (V.int y_.1)), (D.v (V.int y_.2))])))))))] : List D).map (fun y_ : D => y_)))).showable = true ∧ (pyX (D.lst (([(D.v (V.int x_many_here)), (D.v (V.int (x_days_here.length : Int))), (D.lst (r55.map (fun y_ : (List (Int × Int)) => (D.lst (y_.map (fun y_ : (Int × Int) => (D.tup [(D.v (V.int y_.1)), (D.v (V.int y_.2))]))))))), (D.lst (r60.map (fun y_ : (List (Int × Int)) => (D.lst (y_.map (fun y_ : (Int × Int) => (D.tup [(D.v (V.int y_.1)), (D.v (V.int y_.2))])))))))] : List D).map (fun y_ : D => y_)))).depth ≤ 60 ∧ (pyX (D.lst (([(D.v (V.int x_many_here)), (D.v (V.int (x_days_here.length : Int))), (D.lst (r55.map (fun y_ : (List (Int × Int)) => (D.lst (y_.map (fun y_ : (Int × Int) => (D.tup [(D.v (V.int y_.1)), (D.v (V.int y_.2))]))))))), (D.lst (r60.map (fun y_ : (List (Int × Int)) => (D.lst (y_.map (fun y_ : (Int × Int) => (D.tup [(D.v (V.int y_.1)), (D.v (V.int y_.2))])))))))] : List D).map (fun y_ : D => y_)))).shown.length ≤ sizeLine) ∧ (if (!(decide (V.str (pyX (D.lst (([(D.v (V.int r2)), (D.v (V.int r7)), (D.lst (r13.map (fun y_ : (List (Int × Int)) => (D.lst (y_.map (fun y_ : (Int × Int) => (D.tup [(D.v (V.int y_.1)), (D.v (V.int y_.2))]))))))), (D.lst (ys45.map (fun y_ : (List (Int × Int)) => (D.lst (y_.map (fun y_ : (Int × Int) => (D.tup [(D.v (V.int y_.1)), (D.v (V.int y_.2))])))))))] : List D).map (fun y_ : D => y_)))).shown = V.str (pyX (D.lst (([(D.v (V.int x_many_here)), (D.v (V.int (x_days_here.length : Int))), (D.lst (r55.map (fun y_ : (List (Int × Int)) => (D.lst (y_.map (fun y_ : (Int × Int) => (D.tup [(D.v (V.int y_.1)), (D.v (V.int y_.2))]))))))), (D.lst (r60.map (fun y_ : (List (Int × Int)) => (D.lst (y_.map (fun y_ : (Int × Int) => (D.tup [(D.v (V.int y_.1)), (D.v (V.int y_.2))])))))))] : List D).map (fun y_ : D => y_)))).shown))) = true then (KM false) else (M_Table_repr x_made fun r72 => (M_sorted x_days_here fun r77 => ((plainD (D.lst (r77.map (fun y_ : (List (Int × Int)) => (D.lst (y_.map (fun y_ : (Int × Int) => (D.tup [(D.v (V.int y_.1)), (D.v (V.int y_.2))]))))))) = true ∧ (pyOf (D.lst (r77.map (fun y_ : (List (Int × Int)) => (D.lst (y_.map (fun y_ : (Int × Int) => (D.tup [(D.v (V.int y_.1)), (D.v (V.int y_.2))])))))))).showable = true ∧ (pyOf (D.lst (r77.map (fun y_ : (List (Int × Int)) => (D.lst (y_.map (fun y_ : (Int × Int) => (D.tup [(D.v (V.int y_.1)), (D.v (V.int y_.2))])))))))).hasDict = false ∧ (pyOf (D.lst (r77.map (fun y_ : (List (Int × Int)) => (D.lst (y_.map (fun y_ : (Int × Int) => (D.tup [(D.v (V.int y_.1)), (D.v (V.int y_.2))])))))))).depth ≤ 60 ∧ (pyOf (D.lst (r77.map (fun y_ : (List (Int × Int)) => (D.lst (y_.map (fun y_ : (Int × Int) => (D.tup [(D.v (V.int y_.1)), (D.v (V.int y_.2))])))))))).shown.length ≤ sizeLine) ∧ ((("Table(" : Str).length + (pyOf (D.lst (r77.map (fun y_ : (List (Int × Int)) => (D.lst (y_.map (fun y_ : (Int × Int) => (D.tup [(D.v (V.int y_.1)), (D.v (V.int y_.2))])))))))).shown.length ≤ sizeLine) ∧ (((("Table(" : Str) ++ (pyOf (D.lst (r77.map (fun y_ : (List (Int × Int)) => (D.lst (y_.map (fun y_ : (Int × Int) => (D.tup [(D.v (V.int y_.1)), (D.v (V.int y_.2))])))))))).shown).length + (")" : Str).length ≤ sizeLine) ∧ (if (!(decide (V.str r72 = V.str ((("Table(" : Str) ++ (pyOf (D.lst (r77.map (fun y_ : (List (Int × Int)) => (D.lst (y_.map (fun y_ : (Int × Int) => (D.tup [(D.v (V.int y_.1)), (D.v (V.int y_.2))])))))))).shown) ++ (")" : Str))))) = true then (KM false) else ((rangeI (0 : Int) x_many_here).length < 100000 ∧ mapC (fun (x96 : Int) (k89 : Str → Prop) => (M_Table_row_of x_made x96 fun r102 => (k89 r102))) (rangeI (0 : Int) x_many_here) [] fun ys112 => ((rangeI (0 : Int) x_many_here).length < 100000 ∧ mapC (fun (x126 : Int) (k119 : Str → Prop) => (M_row x_days_here x126 fun r132 => (k119 r132))) (rangeI (0 : Int) x_many_here) [] fun ys142 => (((plainD (D.lst (ys112.map (fun y_ : Str => (D.v (V.str y_))))) = true ∧ plainD (D.lst (ys142.map (fun y_ : Str => (D.v (V.str y_))))) = true ∧ SeqAt.shaped (pyOf (D.lst (ys112.map (fun y_ : Str => (D.v (V.str y_)))))) = true ∧ SeqAt.shaped (pyOf (D.lst (ys142.map (fun y_ : Str => (D.v (V.str y_)))))) = true)) ∧ (KM (PyData.eqv (pyOf (D.lst (ys112.map (fun y_ : Str => (D.v (V.str y_)))))) (pyOf (D.lst (ys142.map (fun y_ : Str => (D.v (V.str y_)))))))))))))))))))))))))))
def sp_is (A : Ad) : Sp := fun vs H Q _ => ∃ (ms : List Addr) (v_made : V) (v_days_here : V) (x_made : (List (List (Int × Int)))) (x_days_here : (List (List (Int × Int)))) (x_many_here : Int) (KM : Bool → Prop), vs = [v_made, v_days_here, V.int x_many_here] ∧ Wd ms [] [] H H ∧ rep ms H (eTable A x_made) v_made ∧ rep ms H (D.lst (x_days_here.map (fun y_ : (List (Int × Int)) => (D.lst (y_.map (fun y_ : (Int × Int) => (D.tup [(D.v (V.int y_.1)), (D.v (V.int y_.2))]))))))) v_days_here ∧ M_is x_made x_days_here x_many_here KM ∧ ∀ (r : Bool) (u : V) (H1 : Hp), KM r → Ret [] H H1 → rep ms H1 (D.v (V.bl r)) u → Q u H1
set_option maxHeartbeats 16000000 in
theorem ok_is {P : Program} {w : World} {K : PySem.W.Frag} {mg : Str → Option Value} {base : Heap} {A : Ad} (T : Txt w K mg A) : FnG P w K mg base 5 A.a_is A.d_is ["_law_made", "_law_days_here", "_law_many_here"] (sp_is A) := by
  refine okG T.F_is sc_is (fun vs H Q E h => ?_) (fun cdv A_ outer s_ H_0 vs Q E gu hr h => ?_)
  · obtain ⟨ms, v_made, v_days_here, x_made, x_days_here, x_many_here, KM, rfl, _⟩ := h
    rfl
  · obtain ⟨ms, v_made, v_days_here, x_made, x_days_here, x_many_here, KM, rfl, hW, h_made, h_days_here, hM, hQ⟩ := h
    unfold M_is at hM
    refine ⟨_, (pss_cons (ps_set (i := 3) sc_is.nd rfl (by first | exact Or.inl rfl | exact Or.inr rfl) (pe_lst (pa_cons (pe_prop (pv 0) T.cl_Table T.p_Table_size (ok_Table_size T) (hr.mono (by decide)) T.b_Table_size .nil pass0 rfl) (pa_cons (pe_callB (call_lenOwn (ok_Table_len T) (hr.mono (by decide)) T.ow_Table_len T.b_Table_len pass0) (by rfl) T.z_len PySem.boot_len (pa_cons (pv 0) pa_nil)) (pa_cons (pe_meth0 (pv 0) T.cl_Table T.m_Table_rounds (ok_Table_rounds T) (hr.mono (by decide)) T.b_Table_rounds .nil pass0) (pa_cons (pe_lc (own := [("_law_at", 4)]) (g := gName 4) rfl sc_is.nd (pi_rangeW1 (by rfl) T.z_range (pa_cons (pe_callB (call_lenK (K := K) rfl) (by rfl) T.z_len PySem.boot_len (pa_cons (pv 1) pa_nil)) pa_nil)) (blkOk_by (N := ["_law_made", "_law_days_here", "_law_many_here", "_law_told", "_law_at", "_law_who"]) (sc := defScope s_is) (by decide +kernel)) (fun _ _ _ _ _ => pg_name (i := 4) sc_is.nd rfl (by first | exact Or.inl rfl | exact Or.inr rfl)) (fun _ _ _ _ _ => pts_nil) (fun _ _ _ _ _ => (pe_meth (pv 0) T.cl_Table T.m_Table_meetings (ok_Table_meetings T) (hr.mono (by decide)) T.b_Table_meetings .nil pass0 (pa_cons (pv 4) pa_nil)))) pa_nil)))))) (pss_cons (ps_if (pt_cmpR op_ne (pe_callB (call_reprY (by exact gu) (by have h_ := units65 hr; exact h_)) (by rfl) T.z_repr (by decide +kernel) (pa_cons (pv 3) pa_nil)) (pe_callB (call_reprY (by exact gu) (by have h_ := units65 hr; exact h_)) (by rfl) T.z_repr (by decide +kernel) (pa_cons (pe_lst (pa_cons (pv 2) (pa_cons (pe_callB (call_lenK (K := K) rfl) (by rfl) T.z_len PySem.boot_len (pa_cons (pv 1) pa_nil)) (pa_cons (pe_call (ok_sorted T) (hr.mono (by decide)) (by rfl) T.g_sorted T.F_sorted.kp T.b_sorted .nil pass0 (pa_cons (pv 1) pa_nil)) (pa_cons (pe_call (ok_sorted T) (hr.mono (by decide)) (by rfl) T.g_sorted T.F_sorted.kp T.b_sorted .nil pass0 (pa_cons (pv 1) pa_nil)) pa_nil))))) pa_nil)) (nomark _)) (pss_one (ps_ret pe_bl)) pss_nil) (pss_cons (ps_if (pt_cmpR op_ne (pe_callB (call_reprOwnG (ok_Table_repr T) gu (hr.mono (by decide)) T.ow_Table_repr T.b_Table_repr) (by rfl) T.z_repr (by decide +kernel) (pa_cons (pv 0) pa_nil)) (pe_op op_add_str (pe_op op_add_str pe_str (pe_callB (call_reprAK (K := K) rfl gu hr) (by rfl) T.z_repr (by decide +kernel) (pa_cons (pe_call (ok_sorted T) (hr.mono (by decide)) (by rfl) T.g_sorted T.F_sorted.kp T.b_sorted .nil pass0 (pa_cons (pv 1) pa_nil)) pa_nil))) pe_str) (nomark _)) (pss_one (ps_ret pe_bl)) pss_nil) (pss_one (ps_ret (pe_cmpR (op_eqDK (K := K) rfl hr.units) (pe_lc (own := [("_law_who", 5)]) (g := gName 5) rfl sc_is.nd (pi_rangeW1 (by rfl) T.z_range (pa_cons (pv 2) pa_nil)) (blkOk_by (N := ["_law_made", "_law_days_here", "_law_many_here", "_law_told", "_law_at", "_law_who"]) (sc := defScope s_is) (by decide +kernel)) (fun _ _ _ _ _ => pg_name (i := 5) sc_is.nd rfl (by first | exact Or.inl rfl | exact Or.inr rfl)) (fun _ _ _ _ _ => pts_nil) (fun _ _ _ _ _ => (pe_meth (pv 0) T.cl_Table T.m_Table_row_of (ok_Table_row_of T) (hr.mono (by decide)) T.b_Table_row_of .nil pass0 (pa_cons (pv 5) pa_nil)))) (pe_lc (own := [("_law_who", 5)]) (g := gName 5) rfl sc_is.nd (pi_rangeW1 (by rfl) T.z_range (pa_cons (pv 2) pa_nil)) (blkOk_by (N := ["_law_made", "_law_days_here", "_law_many_here", "_law_told", "_law_at", "_law_who"]) (sc := defScope s_is) (by decide +kernel)) (fun _ _ _ _ _ => pg_name (i := 5) sc_is.nd rfl (by first | exact Or.inl rfl | exact Or.inr rfl)) (fun _ _ _ _ _ => pts_nil) (fun _ _ _ _ _ => (pe_call (ok_row T) (hr.mono (by decide)) (by rfl) T.g_row T.F_row.kp T.b_row .nil pass0 (pa_cons (pv 1) (pa_cons (pv 5) pa_nil))))) (nomark _))))))), ?_⟩
    refine ⟨_, rfl, ?_⟩
    apply rep_prop h_made
    intro _ h1
    refine ⟨ms, _, x_made, _, rfl, hW.enter0, h1, hM, fun r2 u5 H6 hM e4 h3 => ?_⟩
    replace h_made := rep_ext e4 h_made
    replace h_days_here := rep_ext e4 h_days_here
    replace hW := hW.ret0 e4
    obtain rfl := of_v h3
    refine ⟨_, rfl, ?_⟩
    apply rep_ownLen h_made
    refine ⟨ms, _, x_made, _, rfl, hW.enter0, h_made, hM, fun r7 u10 H11 hM e9 h8 => ?_⟩
    replace h_made := rep_ext e9 h_made
    replace h_days_here := rep_ext e9 h_days_here
    replace hW := hW.ret0 e9
    obtain rfl := of_v h8
    obtain ⟨g12, hM⟩ := hM
    refine ⟨_, rfl, g12, ?_⟩
    refine ⟨_, rfl, ?_⟩
    apply rep_meth (m := "rounds") h_made (by decide +kernel)
    refine ⟨ms, _, x_made, _, rfl, hW.enter0, h_made, hM, fun r13 u16 H17 hM e15 h14 => ?_⟩
    replace h_made := rep_ext e15 h_made
    replace h_days_here := rep_ext e15 h_days_here
    replace hW := hW.ret0 e15
    refine ⟨_, rfl, ?_⟩
    apply rep_lenL (e := (fun y_ : (List (Int × Int)) => (D.lst (y_.map (fun y_ : (Int × Int) => (D.tup [(D.v (V.int y_.1)), (D.v (V.int y_.2))])))))) (xs := x_days_here) h_days_here
    refine ⟨_, rfl, ?_⟩
    refine fun L18 nl19 => ?_
    have nm33 := nm_new hW nl19
    refine lc_rangeG (L := L18) (fun n_ ys_ h_ => Wd (L18 :: ms) [] [] H_0 h_ ∧ Keep (L18 :: ms) H17 h_ ∧ MutO (L18 :: ms) [] H_0 h_ L18 (D.lst (ys_.map (fun y_ : (List (Int × Int)) => (D.lst (y_.map (fun y_ : (Int × Int) => (D.tup [(D.v (V.int y_.1)), (D.v (V.int y_.2))]))))))) ∧ ys_.length ≤ n_) (lo := (0 : Int)) (hi := (x_days_here.length : Int)) (N := Int.toNat (x_days_here.length : Int)) (by simp) hM ⟨wd_cell hW nl19, keep_cell nl19 Keep.refl, mo_newL (ds := []) hW nl19 repL_nil, Nat.le_refl _⟩ ?_ ?_
    · skip
      rintro x29  n20 ys21 k22 H34 hn ⟨hW, hk23, mu24, ln25⟩ hM Nx28 hN26
      replace h_made := rep_keep hk23 (rep_new nl19 h_made)
      replace h_days_here := rep_keep hk23 (rep_new nl19 h_days_here)
      replace h14 := rep_keep hk23 (rep_new nl19 h14)
      refine ⟨rfl, ?_⟩
      refine tyes_of ?_
      refine ⟨_, rfl, ?_⟩
      apply rep_meth (m := "meetings") h_made (by decide +kernel)
      refine ⟨_, rfl, ?_⟩
      refine ⟨(L18 :: ms), _, x_made, x29, _, rfl, hW.enter0, h_made, hM, fun r35 u38 H39 hM e37 h36 => ?_⟩
      replace h_made := rep_ext e37 h_made
      replace h_days_here := rep_ext e37 h_days_here
      replace h14 := rep_ext e37 h14
      replace hk23 := keep_ext e37 hk23
      replace mu24 := mo_ext e37 mu24
      replace hW := hW.ret0 e37
      refine mo_end mu24 hn (by rw [List.length_map]; exact ln25) fun vs40 hr41 => ?_
      have mk43 := mo_setL mu24 (repL_snoc (e := (fun y_ : (List (Int × Int)) => (D.lst (y_.map (fun y_ : (Int × Int) => (D.tup [(D.v (V.int y_.1)), (D.v (V.int y_.2))])))))) (xs := ys21) (y := r35) hr41 h36)
      replace h_made := rep_put (o := .lst (vs40 ++ [u38])) mu24.im h_made
      replace h_days_here := rep_put (o := .lst (vs40 ++ [u38])) mu24.im h_days_here
      replace h14 := rep_put (o := .lst (vs40 ++ [u38])) mu24.im h14
      replace hk23 := keep_put (o := .lst (vs40 ++ [u38])) mu24.im hk23
      replace h36 := rep_put (o := .lst (vs40 ++ [u38])) mu24.im h36
      replace hW := wd_put (o := .lst (vs40 ++ [u38])) hW mu24
      replace mu24 := mk43
      generalize upd H39 L18 (.lst (vs40 ++ [u38])) = H44 at *
      replace mu24 : MutO (L18 :: ms) [] H_0 H44 L18 (D.lst ((ys21 ++ [r35]).map (fun y_ : (List (Int × Int)) => (D.lst (y_.map (fun y_ : (Int × Int) => (D.tup [(D.v (V.int y_.1)), (D.v (V.int y_.2))]))))))) := mu24
      clear mk43
      exact hN26 r35 _ hM ⟨hW, hk23, mu24, by rw [List.length_append]; exact Nat.add_le_add_right ln25 1⟩
    · skip
      rintro n20 ys45 H46 hM ⟨hW, hk23, mu24, ln25⟩
      replace h_made := rep_keep hk23 (rep_new nl19 h_made)
      replace h_days_here := rep_keep hk23 (rep_new nl19 h_days_here)
      replace h14 := rep_keep hk23 (rep_new nl19 h14)
      clear hk23 ln25
      have h47 := mo_rep_dr dr_here nm33 mu24
      replace hW := wd_dr dr_here mu24.hp hW
      replace h_made := rep_dr dr_here h_made
      replace h_days_here := rep_dr dr_here h_days_here
      replace h14 := rep_dr dr_here h14
      clear mu24
      refine ⟨(by show 4 ≤ sizeLine; decide), ?_⟩
      intro p48 n52
      have e49 := Rx.Ext.new (H := H46) (o := (HO.lst [V.int r2, V.int r7, u16, (V.ref L18)])) n52
      have hp50 : upd H46 p48 (HO.lst [V.int r2, V.int r7, u16, (V.ref L18)]) p48 = some (HO.lst [V.int r2, V.int r7, u16, (V.ref L18)]) := upd_same
      generalize upd H46 p48 (HO.lst [V.int r2, V.int r7, u16, (V.ref L18)]) = H53 at e49 hp50 ⊢
      have h51 : rep ms H53 (D.lst (([(D.v (V.int r2)), (D.v (V.int r7)), (D.lst (r13.map (fun y_ : (List (Int × Int)) => (D.lst (y_.map (fun y_ : (Int × Int) => (D.tup [(D.v (V.int y_.1)), (D.v (V.int y_.2))]))))))), (D.lst (ys45.map (fun y_ : (List (Int × Int)) => (D.lst (y_.map (fun y_ : (Int × Int) => (D.tup [(D.v (V.int y_.1)), (D.v (V.int y_.2))])))))))] : List D).map (fun y_ : D => y_))) (.ref p48) := rep_lst_mk hW n52 e49 hp50 (repL_cons rep_v (repL_cons rep_v (repL_cons h14 (repL_cons h47 repL_nil))))
      replace h_made := rep_ext e49 h_made
      replace h_days_here := rep_ext e49 h_days_here
      replace h14 := rep_ext e49 h14
      replace h47 := rep_ext e49 h47
      replace hW := hW.ret0 e49
      refine ⟨_, rfl, ?_⟩
      obtain ⟨g54, hM⟩ := hM
      refine rep_reprY (d := (D.lst (([(D.v (V.int r2)), (D.v (V.int r7)), (D.lst (r13.map (fun y_ : (List (Int × Int)) => (D.lst (y_.map (fun y_ : (Int × Int) => (D.tup [(D.v (V.int y_.1)), (D.v (V.int y_.2))]))))))), (D.lst (ys45.map (fun y_ : (List (Int × Int)) => (D.lst (y_.map (fun y_ : (Int × Int) => (D.tup [(D.v (V.int y_.1)), (D.v (V.int y_.2))])))))))] : List D).map (fun y_ : D => y_)))) h51 g54 ?_
      refine ⟨_, rfl, ?_⟩
      refine ⟨_, rfl, ?_⟩
      apply rep_lenL (e := (fun y_ : (List (Int × Int)) => (D.lst (y_.map (fun y_ : (Int × Int) => (D.tup [(D.v (V.int y_.1)), (D.v (V.int y_.2))])))))) (xs := x_days_here) h_days_here
      refine ⟨_, rfl, ?_⟩
      refine ⟨ms, _, x_days_here, _, rfl, hW.enter0, h_days_here, hM, fun r55 u58 H59 hM e57 h56 => ?_⟩
      replace h_made := rep_ext e57 h_made
      replace h_days_here := rep_ext e57 h_days_here
      replace h14 := rep_ext e57 h14
      replace h47 := rep_ext e57 h47
      replace h51 := rep_ext e57 h51
      replace hW := hW.ret0 e57
      refine ⟨_, rfl, ?_⟩
      refine ⟨ms, _, x_days_here, _, rfl, hW.enter0, h_days_here, hM, fun r60 u63 H64 hM e62 h61 => ?_⟩
      replace h_made := rep_ext e62 h_made
      replace h_days_here := rep_ext e62 h_days_here
      replace h14 := rep_ext e62 h14
      replace h47 := rep_ext e62 h47
      replace h51 := rep_ext e62 h51
      replace h56 := rep_ext e62 h56
      replace hW := hW.ret0 e62
      refine ⟨(by show 4 ≤ sizeLine; decide), ?_⟩
      intro p65 n69
      have e66 := Rx.Ext.new (H := H64) (o := (HO.lst [V.int x_many_here, V.int (x_days_here.length : Int), u58, u63])) n69
      have hp67 : upd H64 p65 (HO.lst [V.int x_many_here, V.int (x_days_here.length : Int), u58, u63]) p65 = some (HO.lst [V.int x_many_here, V.int (x_days_here.length : Int), u58, u63]) := upd_same
      generalize upd H64 p65 (HO.lst [V.int x_many_here, V.int (x_days_here.length : Int), u58, u63]) = H70 at e66 hp67 ⊢
      have h68 : rep ms H70 (D.lst (([(D.v (V.int x_many_here)), (D.v (V.int (x_days_here.length : Int))), (D.lst (r55.map (fun y_ : (List (Int × Int)) => (D.lst (y_.map (fun y_ : (Int × Int) => (D.tup [(D.v (V.int y_.1)), (D.v (V.int y_.2))]))))))), (D.lst (r60.map (fun y_ : (List (Int × Int)) => (D.lst (y_.map (fun y_ : (Int × Int) => (D.tup [(D.v (V.int y_.1)), (D.v (V.int y_.2))])))))))] : List D).map (fun y_ : D => y_))) (.ref p65) := rep_lst_mk hW n69 e66 hp67 (repL_cons rep_v (repL_cons rep_v (repL_cons h56 (repL_cons h61 repL_nil))))
      replace h_made := rep_ext e66 h_made
      replace h_days_here := rep_ext e66 h_days_here
      replace h14 := rep_ext e66 h14
      replace h47 := rep_ext e66 h47
      replace h51 := rep_ext e66 h51
      replace h56 := rep_ext e66 h56
      replace h61 := rep_ext e66 h61
      replace hW := hW.ret0 e66
      obtain ⟨g71, hM⟩ := hM
      refine rep_reprY (d := (D.lst (([(D.v (V.int x_many_here)), (D.v (V.int (x_days_here.length : Int))), (D.lst (r55.map (fun y_ : (List (Int × Int)) => (D.lst (y_.map (fun y_ : (Int × Int) => (D.tup [(D.v (V.int y_.1)), (D.v (V.int y_.2))]))))))), (D.lst (r60.map (fun y_ : (List (Int × Int)) => (D.lst (y_.map (fun y_ : (Int × Int) => (D.tup [(D.v (V.int y_.1)), (D.v (V.int y_.2))])))))))] : List D).map (fun y_ : D => y_)))) h68 g71 ?_
      refine ⟨rfl, ?_⟩
      refine ⟨_, rfl, ?_⟩
      refine ite3 hM (fun hM => ?_) (fun hM => ?_)
      · skip
        exact hQ false _ _ hM hW.out rep_v
      · skip
        refine ⟨_, rfl, ?_⟩
        apply rep_ownText h_made
        refine ⟨ms, _, x_made, _, rfl, hW.enter0, h_made, hM, fun r72 u75 H76 hM e74 h73 => ?_⟩
        replace h_made := rep_ext e74 h_made
        replace h_days_here := rep_ext e74 h_days_here
        replace h14 := rep_ext e74 h14
        replace h47 := rep_ext e74 h47
        replace h51 := rep_ext e74 h51
        replace h56 := rep_ext e74 h56
        replace h61 := rep_ext e74 h61
        replace h68 := rep_ext e74 h68
        replace hW := hW.ret0 e74
        obtain rfl := of_v h73
        refine ⟨_, rfl, ?_⟩
        refine ⟨_, rfl, ?_⟩
        refine ⟨ms, _, x_days_here, _, rfl, hW.enter0, h_days_here, hM, fun r77 u80 H81 hM e79 h78 => ?_⟩
        replace h_made := rep_ext e79 h_made
        replace h_days_here := rep_ext e79 h_days_here
        replace h14 := rep_ext e79 h14
        replace h47 := rep_ext e79 h47
        replace h51 := rep_ext e79 h51
        replace h56 := rep_ext e79 h56
        replace h61 := rep_ext e79 h61
        replace h68 := rep_ext e79 h68
        replace hW := hW.ret0 e79
        obtain ⟨g82, hM⟩ := hM
        apply rep_repr (d := (D.lst (r77.map (fun y_ : (List (Int × Int)) => (D.lst (y_.map (fun y_ : (Int × Int) => (D.tup [(D.v (V.int y_.1)), (D.v (V.int y_.2))])))))))) h78 g82.1 g82.2.1 g82.2.2.1 g82.2.2.2.1 g82.2.2.2.2
        obtain ⟨g83, hM⟩ := hM
        refine ⟨_, _, rfl, rfl, g83, ?_⟩
        obtain ⟨g84, hM⟩ := hM
        refine ⟨_, _, rfl, rfl, g84, ?_⟩
        refine ⟨rfl, ?_⟩
        refine ⟨_, rfl, ?_⟩
        refine ite3 hM (fun hM => ?_) (fun hM => ?_)
        · skip
          exact hQ false _ _ hM hW.out rep_v
        · skip
          refine ⟨_, rfl, ?_⟩
          refine ⟨_, rfl, ?_⟩
          refine fun L85 nl86 => ?_
          have nm100 := nm_new hW nl86
          refine lc_rangeG (L := L85) (fun n_ ys_ h_ => Wd (L85 :: ms) [] [] H_0 h_ ∧ Keep (L85 :: ms) H81 h_ ∧ MutO (L85 :: ms) [] H_0 h_ L85 (D.lst (ys_.map (fun y_ : Str => (D.v (V.str y_))))) ∧ ys_.length ≤ n_) (lo := (0 : Int)) (hi := x_many_here) (N := Int.toNat x_many_here) (by simp) hM ⟨wd_cell hW nl86, keep_cell nl86 Keep.refl, mo_newL (ds := []) hW nl86 repL_nil, Nat.le_refl _⟩ ?_ ?_
          · skip
            rintro x96  n87 ys88 k89 H101 hn ⟨hW, hk90, mu91, ln92⟩ hM Nx95 hN93
            replace h_made := rep_keep hk90 (rep_new nl86 h_made)
            replace h_days_here := rep_keep hk90 (rep_new nl86 h_days_here)
            replace h14 := rep_keep hk90 (rep_new nl86 h14)
            replace h47 := rep_keep hk90 (rep_new nl86 h47)
            replace h51 := rep_keep hk90 (rep_new nl86 h51)
            replace h56 := rep_keep hk90 (rep_new nl86 h56)
            replace h61 := rep_keep hk90 (rep_new nl86 h61)
            replace h68 := rep_keep hk90 (rep_new nl86 h68)
            replace h78 := rep_keep hk90 (rep_new nl86 h78)
            refine ⟨rfl, ?_⟩
            refine tyes_of ?_
            refine ⟨_, rfl, ?_⟩
            apply rep_meth (m := "row_of") h_made (by decide +kernel)
            refine ⟨_, rfl, ?_⟩
            refine ⟨(L85 :: ms), _, x_made, x96, _, rfl, hW.enter0, h_made, hM, fun r102 u105 H106 hM e104 h103 => ?_⟩
            replace h_made := rep_ext e104 h_made
            replace h_days_here := rep_ext e104 h_days_here
            replace h14 := rep_ext e104 h14
            replace h47 := rep_ext e104 h47
            replace h51 := rep_ext e104 h51
            replace h56 := rep_ext e104 h56
            replace h61 := rep_ext e104 h61
            replace h68 := rep_ext e104 h68
            replace h78 := rep_ext e104 h78
            replace hk90 := keep_ext e104 hk90
            replace mu91 := mo_ext e104 mu91
            replace hW := hW.ret0 e104
            obtain rfl := of_v h103
            refine mo_end mu91 hn (by rw [List.length_map]; exact ln92) fun vs107 hr108 => ?_
            have mk110 := mo_setL mu91 (repL_snoc (e := (fun y_ : Str => (D.v (V.str y_)))) (xs := ys88) (y := r102) hr108 rep_v)
            replace h_made := rep_put (o := .lst (vs107 ++ [V.str r102])) mu91.im h_made
            replace h_days_here := rep_put (o := .lst (vs107 ++ [V.str r102])) mu91.im h_days_here
            replace h14 := rep_put (o := .lst (vs107 ++ [V.str r102])) mu91.im h14
            replace h47 := rep_put (o := .lst (vs107 ++ [V.str r102])) mu91.im h47
            replace h51 := rep_put (o := .lst (vs107 ++ [V.str r102])) mu91.im h51
            replace h56 := rep_put (o := .lst (vs107 ++ [V.str r102])) mu91.im h56
            replace h61 := rep_put (o := .lst (vs107 ++ [V.str r102])) mu91.im h61
            replace h68 := rep_put (o := .lst (vs107 ++ [V.str r102])) mu91.im h68
            replace h78 := rep_put (o := .lst (vs107 ++ [V.str r102])) mu91.im h78
            replace hk90 := keep_put (o := .lst (vs107 ++ [V.str r102])) mu91.im hk90
            replace hW := wd_put (o := .lst (vs107 ++ [V.str r102])) hW mu91
            replace mu91 := mk110
            generalize upd H106 L85 (.lst (vs107 ++ [V.str r102])) = H111 at *
            replace mu91 : MutO (L85 :: ms) [] H_0 H111 L85 (D.lst ((ys88 ++ [r102]).map (fun y_ : Str => (D.v (V.str y_))))) := mu91
            clear mk110
            exact hN93 r102 _ hM ⟨hW, hk90, mu91, by rw [List.length_append]; exact Nat.add_le_add_right ln92 1⟩
          · skip
            rintro n87 ys112 H113 hM ⟨hW, hk90, mu91, ln92⟩
            replace h_made := rep_keep hk90 (rep_new nl86 h_made)
            replace h_days_here := rep_keep hk90 (rep_new nl86 h_days_here)
            replace h14 := rep_keep hk90 (rep_new nl86 h14)
            replace h47 := rep_keep hk90 (rep_new nl86 h47)
            replace h51 := rep_keep hk90 (rep_new nl86 h51)
            replace h56 := rep_keep hk90 (rep_new nl86 h56)
            replace h61 := rep_keep hk90 (rep_new nl86 h61)
            replace h68 := rep_keep hk90 (rep_new nl86 h68)
            replace h78 := rep_keep hk90 (rep_new nl86 h78)
            clear hk90 ln92
            have h114 := mo_rep_dr dr_here nm100 mu91
            replace hW := wd_dr dr_here mu91.hp hW
            replace h_made := rep_dr dr_here h_made
            replace h_days_here := rep_dr dr_here h_days_here
            replace h14 := rep_dr dr_here h14
            replace h47 := rep_dr dr_here h47
            replace h51 := rep_dr dr_here h51
            replace h56 := rep_dr dr_here h56
            replace h61 := rep_dr dr_here h61
            replace h68 := rep_dr dr_here h68
            replace h78 := rep_dr dr_here h78
            clear mu91
            refine ⟨_, rfl, ?_⟩
            refine ⟨_, rfl, ?_⟩
            refine fun L115 nl116 => ?_
            have nm130 := nm_new hW nl116
            refine lc_rangeG (L := L115) (fun n_ ys_ h_ => Wd (L115 :: ms) [] [] H_0 h_ ∧ Keep (L115 :: ms) H113 h_ ∧ MutO (L115 :: ms) [] H_0 h_ L115 (D.lst (ys_.map (fun y_ : Str => (D.v (V.str y_))))) ∧ ys_.length ≤ n_) (lo := (0 : Int)) (hi := x_many_here) (N := Int.toNat x_many_here) (by simp) hM ⟨wd_cell hW nl116, keep_cell nl116 Keep.refl, mo_newL (ds := []) hW nl116 repL_nil, Nat.le_refl _⟩ ?_ ?_
            · skip
              rintro x126  n117 ys118 k119 H131 hn ⟨hW, hk120, mu121, ln122⟩ hM Nx125 hN123
              replace h_made := rep_keep hk120 (rep_new nl116 h_made)
              replace h_days_here := rep_keep hk120 (rep_new nl116 h_days_here)
              replace h14 := rep_keep hk120 (rep_new nl116 h14)
              replace h47 := rep_keep hk120 (rep_new nl116 h47)
              replace h51 := rep_keep hk120 (rep_new nl116 h51)
              replace h56 := rep_keep hk120 (rep_new nl116 h56)
              replace h61 := rep_keep hk120 (rep_new nl116 h61)
              replace h68 := rep_keep hk120 (rep_new nl116 h68)
              replace h78 := rep_keep hk120 (rep_new nl116 h78)
              replace h114 := rep_keep hk120 (rep_new nl116 h114)
              refine ⟨rfl, ?_⟩
              refine tyes_of ?_
              refine ⟨_, rfl, ?_⟩
              refine ⟨_, rfl, ?_⟩
              refine ⟨(L115 :: ms), _, x_days_here, x126, _, rfl, hW.enter0, h_days_here, hM, fun r132 u135 H136 hM e134 h133 => ?_⟩
              replace h_made := rep_ext e134 h_made
              replace h_days_here := rep_ext e134 h_days_here
              replace h14 := rep_ext e134 h14
              replace h47 := rep_ext e134 h47
              replace h51 := rep_ext e134 h51
              replace h56 := rep_ext e134 h56
              replace h61 := rep_ext e134 h61
              replace h68 := rep_ext e134 h68
              replace h78 := rep_ext e134 h78
              replace h114 := rep_ext e134 h114
              replace hk120 := keep_ext e134 hk120
              replace mu121 := mo_ext e134 mu121
              replace hW := hW.ret0 e134
              obtain rfl := of_v h133
              refine mo_end mu121 hn (by rw [List.length_map]; exact ln122) fun vs137 hr138 => ?_
              have mk140 := mo_setL mu121 (repL_snoc (e := (fun y_ : Str => (D.v (V.str y_)))) (xs := ys118) (y := r132) hr138 rep_v)
              replace h_made := rep_put (o := .lst (vs137 ++ [V.str r132])) mu121.im h_made
              replace h_days_here := rep_put (o := .lst (vs137 ++ [V.str r132])) mu121.im h_days_here
              replace h14 := rep_put (o := .lst (vs137 ++ [V.str r132])) mu121.im h14
              replace h47 := rep_put (o := .lst (vs137 ++ [V.str r132])) mu121.im h47
              replace h51 := rep_put (o := .lst (vs137 ++ [V.str r132])) mu121.im h51
              replace h56 := rep_put (o := .lst (vs137 ++ [V.str r132])) mu121.im h56
              replace h61 := rep_put (o := .lst (vs137 ++ [V.str r132])) mu121.im h61
              replace h68 := rep_put (o := .lst (vs137 ++ [V.str r132])) mu121.im h68
              replace h78 := rep_put (o := .lst (vs137 ++ [V.str r132])) mu121.im h78
              replace h114 := rep_put (o := .lst (vs137 ++ [V.str r132])) mu121.im h114
              replace hk120 := keep_put (o := .lst (vs137 ++ [V.str r132])) mu121.im hk120
              replace hW := wd_put (o := .lst (vs137 ++ [V.str r132])) hW mu121
              replace mu121 := mk140
              generalize upd H136 L115 (.lst (vs137 ++ [V.str r132])) = H141 at *
              replace mu121 : MutO (L115 :: ms) [] H_0 H141 L115 (D.lst ((ys118 ++ [r132]).map (fun y_ : Str => (D.v (V.str y_))))) := mu121
              clear mk140
              exact hN123 r132 _ hM ⟨hW, hk120, mu121, by rw [List.length_append]; exact Nat.add_le_add_right ln122 1⟩
            · skip
              rintro n117 ys142 H143 hM ⟨hW, hk120, mu121, ln122⟩
              replace h_made := rep_keep hk120 (rep_new nl116 h_made)
              replace h_days_here := rep_keep hk120 (rep_new nl116 h_days_here)
              replace h14 := rep_keep hk120 (rep_new nl116 h14)
              replace h47 := rep_keep hk120 (rep_new nl116 h47)
              replace h51 := rep_keep hk120 (rep_new nl116 h51)
              replace h56 := rep_keep hk120 (rep_new nl116 h56)
              replace h61 := rep_keep hk120 (rep_new nl116 h61)
              replace h68 := rep_keep hk120 (rep_new nl116 h68)
              replace h78 := rep_keep hk120 (rep_new nl116 h78)
              replace h114 := rep_keep hk120 (rep_new nl116 h114)
              clear hk120 ln122
              have h144 := mo_rep_dr dr_here nm130 mu121
              replace hW := wd_dr dr_here mu121.hp hW
              replace h_made := rep_dr dr_here h_made
              replace h_days_here := rep_dr dr_here h_days_here
              replace h14 := rep_dr dr_here h14
              replace h47 := rep_dr dr_here h47
              replace h51 := rep_dr dr_here h51
              replace h56 := rep_dr dr_here h56
              replace h61 := rep_dr dr_here h61
              replace h68 := rep_dr dr_here h68
              replace h78 := rep_dr dr_here h78
              replace h114 := rep_dr dr_here h114
              clear mu121
              obtain ⟨g145, hM⟩ := hM
              apply rep_eqD (d := (D.lst (ys112.map (fun y_ : Str => (D.v (V.str y_)))))) (e := (D.lst (ys142.map (fun y_ : Str => (D.v (V.str y_)))))) h114 h144 g145.1 g145.2.1 g145.2.2.1 g145.2.2.2
              exact hQ (PyData.eqv (pyOf (D.lst (ys112.map (fun y_ : Str => (D.v (V.str y_)))))) (pyOf (D.lst (ys142.map (fun y_ : Str => (D.v (V.str y_))))))) _ _ hM hW.out rep_v
def M_days_right (x_days_here : (List (List (Int × Int)))) (x_many_here : Int) (KM : Bool → Prop) : Prop :=
  (M_passed x_days_here fun r1 => (M_Table_init r1 fun r9 => (M_due x_days_here x_many_here fun r11 => (M_first_odd_pair r9 fun r32 => (M_is_single r9 fun r37 => ((plainX (D.lst (([(encO (fun y_ : (Int × Int × Int) => (D.tup [(D.v (V.int y_.1)), (D.v (V.int y_.2.1)), (D.v (V.int y_.2.2))])) r32), (D.v (V.bl r37))] : List D).map (fun y_ : D => y_))) = true ∧ (pyX (D.lst (([(encO (fun y_ : (Int × Int × Int) => (D.tup [(D.v (V.int y_.1)), (D.v (V.int y_.2.1)), (D.v (V.int y_.2.2))])) r32), (D.v (V.bl r37))] : List D).map (fun y_ : D => y_)))).showable = true ∧ (pyX (D.lst (([(encO (fun y_ : (Int × Int × Int) => (D.tup [(D.v (V.int y_.1)), (D.v (V.int y_.2.1)), (D.v (V.int y_.2.2))])) r32), (D.v (V.bl r37))] : List D).map (fun y_ : D => y_)))).depth ≤ 60 ∧ (pyX (D.lst (([(encO (fun y_ : (Int × Int × Int) => (D.tup [(D.v (V.int y_.1)), (D.v (V.int y_.2.1)), (D.v (V.int y_.2.2))])) r32), (D.v (V.bl r37))] : List D).map (fun y_ : D => y_)))).shown.length ≤ sizeLine) ∧ ((plainX (D.lst (([(encO (fun y_ : (Int × Int × Int) => (D.tup [(D.v (V.int y_.1)), (D.v (V.int y_.2.1)), (D.v (V.int y_.2.2))])) r11), (D.v (V.bl (Option.isNone r11)))] : List D).map (fun y_ : D => y_))) = true ∧ (pyX (D.lst (([(encO (fun y_ : (Int × Int × Int) => (D.tup [(D.v (V.int y_.1)), (D.v (V.int y_.2.1)), (D.v (V.int y_.2.2))])) r11), (D.v (V.bl (Option.isNone r11)))] : List D).map (fun y_ : D => y_)))).showable = true ∧ (pyX (D.lst (([(encO (fun y_ : (Int × Int × Int) => (D.tup [(D.v (V.int y_.1)), (D.v (V.int y_.2.1)), (D.v (V.int y_.2.2))])) r11), (D.v (V.bl (Option.isNone r11)))] : List D).map (fun y_ : D => y_)))).depth ≤ 60 ∧ (pyX (D.lst (([(encO (fun y_ : (Int × Int × Int) => (D.tup [(D.v (V.int y_.1)), (D.v (V.int y_.2.1)), (D.v (V.int y_.2.2))])) r11), (D.v (V.bl (Option.isNone r11)))] : List D).map (fun y_ : D => y_)))).shown.length ≤ sizeLine) ∧ (if (!(decide (V.str (pyX (D.lst (([(encO (fun y_ : (Int × Int × Int) => (D.tup [(D.v (V.int y_.1)), (D.v (V.int y_.2.1)), (D.v (V.int y_.2.2))])) r32), (D.v (V.bl r37))] : List D).map (fun y_ : D => y_)))).shown = V.str (pyX (D.lst (([(encO (fun y_ : (Int × Int × Int) => (D.tup [(D.v (V.int y_.1)), (D.v (V.int y_.2.1)), (D.v (V.int y_.2.2))])) r11), (D.v (V.bl (Option.isNone r11)))] : List D).map (fun y_ : D => y_)))).shown))) = true then (KM false) else (M_any_way x_days_here fun r56 => (M_Table_init_nlltii r56 fun r64 => (M_first_odd_pair r64 fun r66 => (M_is_single r64 fun r71 => ((plainX (D.lst (([(encO (fun y_ : (Int × Int × Int) => (D.tup [(D.v (V.int y_.1)), (D.v (V.int y_.2.1)), (D.v (V.int y_.2.2))])) r66), (D.v (V.bl r71))] : List D).map (fun y_ : D => y_))) = true ∧ (pyX (D.lst (([(encO (fun y_ : (Int × Int × Int) => (D.tup [(D.v (V.int y_.1)), (D.v (V.int y_.2.1)), (D.v (V.int y_.2.2))])) r66), (D.v (V.bl r71))] : List D).map (fun y_ : D => y_)))).showable = true ∧ (pyX (D.lst (([(encO (fun y_ : (Int × Int × Int) => (D.tup [(D.v (V.int y_.1)), (D.v (V.int y_.2.1)), (D.v (V.int y_.2.2))])) r66), (D.v (V.bl r71))] : List D).map (fun y_ : D => y_)))).depth ≤ 60 ∧ (pyX (D.lst (([(encO (fun y_ : (Int × Int × Int) => (D.tup [(D.v (V.int y_.1)), (D.v (V.int y_.2.1)), (D.v (V.int y_.2.2))])) r66), (D.v (V.bl r71))] : List D).map (fun y_ : D => y_)))).shown.length ≤ sizeLine) ∧ ((plainX (D.lst (([(encO (fun y_ : (Int × Int × Int) => (D.tup [(D.v (V.int y_.1)), (D.v (V.int y_.2.1)), (D.v (V.int y_.2.2))])) r11), (D.v (V.bl (Option.isNone r11)))] : List D).map (fun y_ : D => y_))) = true ∧ (pyX (D.lst (([(encO (fun y_ : (Int × Int × Int) => (D.tup [(D.v (V.int y_.1)), (D.v (V.int y_.2.1)), (D.v (V.int y_.2.2))])) r11), (D.v (V.bl (Option.isNone r11)))] : List D).map (fun y_ : D => y_)))).showable = true ∧ (pyX (D.lst (([(encO (fun y_ : (Int × Int × Int) => (D.tup [(D.v (V.int y_.1)), (D.v (V.int y_.2.1)), (D.v (V.int y_.2.2))])) r11), (D.v (V.bl (Option.isNone r11)))] : List D).map (fun y_ : D => y_)))).depth ≤ 60 ∧ (pyX (D.lst (([(encO (fun y_ : (Int × Int × Int) => (D.tup [(D.v (V.int y_.1)), (D.v (V.int y_.2.1)), (D.v (V.int y_.2.2))])) r11), (D.v (V.bl (Option.isNone r11)))] : List D).map (fun y_ : D => y_)))).shown.length ≤ sizeLine) ∧ (if (!(decide (V.str (pyX (D.lst (([(encO (fun y_ : (Int × Int × Int) => (D.tup [(D.v (V.int y_.1)), (D.v (V.int y_.2.1)), (D.v (V.int y_.2.2))])) r66), (D.v (V.bl r71))] : List D).map (fun y_ : D => y_)))).shown = V.str (pyX (D.lst (([(encO (fun y_ : (Int × Int × Int) => (D.tup [(D.v (V.int y_.1)), (D.v (V.int y_.2.1)), (D.v (V.int y_.2.2))])) r11), (D.v (V.bl (Option.isNone r11)))] : List D).map (fun y_ : D => y_)))).shown))) = true then (KM false) else (M_mixed x_days_here fun r90 => (M_Table_init_nlltii r90 fun r98 => (M_first_odd_pair r98 fun r100 => (M_is_single r98 fun r105 => ((plainX (D.lst (([(encO (fun y_ : (Int × Int × Int) => (D.tup [(D.v (V.int y_.1)), (D.v (V.int y_.2.1)), (D.v (V.int y_.2.2))])) r100), (D.v (V.bl r105))] : List D).map (fun y_ : D => y_))) = true ∧ (pyX (D.lst (([(encO (fun y_ : (Int × Int × Int) => (D.tup [(D.v (V.int y_.1)), (D.v (V.int y_.2.1)), (D.v (V.int y_.2.2))])) r100), (D.v (V.bl r105))] : List D).map (fun y_ : D => y_)))).showable = true ∧ (pyX (D.lst (([(encO (fun y_ : (Int × Int × Int) => (D.tup [(D.v (V.int y_.1)), (D.v (V.int y_.2.1)), (D.v (V.int y_.2.2))])) r100), (D.v (V.bl r105))] : List D).map (fun y_ : D => y_)))).depth ≤ 60 ∧ (pyX (D.lst (([(encO (fun y_ : (Int × Int × Int) => (D.tup [(D.v (V.int y_.1)), (D.v (V.int y_.2.1)), (D.v (V.int y_.2.2))])) r100), (D.v (V.bl r105))] : List D).map (fun y_ : D => y_)))).shown.length ≤ sizeLine) ∧ ((plainX (D.lst (([(encO (fun y_ : (Int × Int × Int) => (D.tup [(D.v (V.int y_.1)), (D.v (V.int y_.2.1)), (D.v (V.int y_.2.2))])) r11), (D.v (V.bl (Option.isNone r11)))] : List D).map (fun y_ : D => y_))) = true ∧ (pyX (D.lst (([(encO (fun y_ : (Int × Int × Int) => (D.tup [(D.v (V.int y_.1)), (D.v (V.int y_.2.1)), (D.v (V.int y_.2.2))])) r11), (D.v (V.bl (Option.isNone r11)))] : List D).map (fun y_ : D => y_)))).showable = true ∧ (pyX (D.lst (([(encO (fun y_ : (Int × Int × Int) => (D.tup [(D.v (V.int y_.1)), (D.v (V.int y_.2.1)), (D.v (V.int y_.2.2))])) r11), (D.v (V.bl (Option.isNone r11)))] : List D).map (fun y_ : D => y_)))).depth ≤ 60 ∧ (pyX (D.lst (([(encO (fun y_ : (Int × Int × Int) => (D.tup [(D.v (V.int y_.1)), (D.v (V.int y_.2.1)), (D.v (V.int y_.2.2))])) r11), (D.v (V.bl (Option.isNone r11)))] : List D).map (fun y_ : D => y_)))).shown.length ≤ sizeLine) ∧ (if (!(decide (V.str (pyX (D.lst (([(encO (fun y_ : (Int × Int × Int) => (D.tup [(D.v (V.int y_.1)), (D.v (V.int y_.2.1)), (D.v (V.int y_.2.2))])) r100), (D.v (V.bl r105))] : List D).map (fun y_ : D => y_)))).shown = V.str (pyX (D.lst (([(encO (fun y_ : (Int × Int × Int) => (D.tup [(D.v (V.int y_.1)), (D.v (V.int y_.2.1)), (D.v (V.int y_.2.2))])) r11), (D.v (V.bl (Option.isNone r11)))] : List D).map (fun y_ : D => y_)))).shown))) = true then (KM false) else (forC (fun (x124 : Int) (s126 : Int) (k127 : Int → Prop) => ((rangeI (0 : Int) x124).length < 100000 ∧ mapC (fun (x145 : Int) (k138 : Int → Prop) => (M_Table_met_in r9 x124 x145 fun r152 => (k138 (r152.length : Int)))) (rangeI (0 : Int) x124) [] fun ys162 => (k127 ((s126 + (List.sum ys162)))))) (rangeI (0 : Int) x_many_here) ((0 : Int)) fun s165 => (CMulW (x_days_here.length : Int) x_many_here ∧ (if (decide (V.int s165 = V.int (((x_days_here.length : Int) * x_many_here) / (2 : Int)))) = true then (M_is r9 x_days_here x_many_here fun r170 => (KM r170)) else (KM false))))))))))))))))))))))))))
def sp_days_right (A : Ad) : Sp := fun vs H Q _ => ∃ (ms : List Addr) (ap : Addr) (v_days_here : V) (x_days_here : (List (List (Int × Int)))) (x_many_here : Int) (KM : Bool → Prop), vs = [.ref ap, v_days_here, V.int x_many_here] ∧ Wd ms [(ap, none)] [] H H ∧ rep ms H (D.lst (x_days_here.map (fun y_ : (List (Int × Int)) => (D.lst (y_.map (fun y_ : (Int × Int) => (D.tup [(D.v (V.int y_.1)), (D.v (V.int y_.2))]))))))) v_days_here ∧ M_days_right x_days_here x_many_here KM ∧ ∀ (r : Bool) (u : V) (H1 : Hp), KM r → Ret [(ap, none)] H H1 → rep ms H1 (D.v (V.bl r)) u → Q u H1
set_option maxHeartbeats 16000000 in
theorem ok_days_right {P : Program} {w : World} {K : PySem.W.Frag} {mg : Str → Option Value} {base : Heap} {A : Ad} (T : Txt w K mg A) : FnG P w K mg base 7 A.a_days_right A.d_days_right ["_law_pot_here", "_law_days_here", "_law_many_here"] (sp_days_right A) := by
  refine okG T.F_days_right sc_days_right (fun vs H Q E h => ?_) (fun cdv A_ outer s_ H_0 vs Q E gu hr h => ?_)
  · obtain ⟨ms, ap, v_days_here, x_days_here, x_many_here, KM, rfl, _⟩ := h
    rfl
  · obtain ⟨ms, ap, v_days_here, x_days_here, x_many_here, KM, rfl, hW, h_days_here, hM, hQ⟩ := h
    unfold M_days_right at hM
    refine ⟨_, (pss_cons (ps_asg (pe_tup (pa_cons (pe_make T.mk_Table (ok_Table_init T) (hr.mono (by decide)) (by rfl) T.g_Table T.b_Table_init .nil pass0 (pa_cons (pe_call (ok_passed T) (hr.mono (by decide)) (by rfl) T.g_passed T.F_passed.kp T.b_passed .nil pass0 (pa_cons (pv 0) (pa_cons (pv 1) pa_nil))) pa_nil)) (pa_cons (pe_call (ok_due T) (hr.mono (by decide)) (by rfl) T.g_due T.F_due.kp T.b_due .nil pass0 (pa_cons (pv 1) (pa_cons (pv 2) pa_nil))) pa_nil))) (pg_tup rfl (pgs_cons (pg_name (i := 3) sc_days_right.nd rfl (by first | exact Or.inl rfl | exact Or.inr rfl)) (pgs_cons (pg_name (i := 4) sc_days_right.nd rfl (by first | exact Or.inl rfl | exact Or.inr rfl)) pgs_nil)))) (pss_cons (ps_if (pt_cmpR op_ne (pe_callB (call_reprY (by exact gu) (by have h_ := units65 hr; exact h_)) (by rfl) T.z_repr (by decide +kernel) (pa_cons (pe_lst (pa_cons (pe_call (ok_first_odd_pair T) (hr.mono (by decide)) (by rfl) T.g_first_odd_pair T.F_first_odd_pair.kp T.b_first_odd_pair .nil pass0 (pa_cons (pv 3) pa_nil)) (pa_cons (pe_call (ok_is_single T) (hr.mono (by decide)) (by rfl) T.g_is_single T.F_is_single.kp T.b_is_single .nil pass0 (pa_cons (pv 3) pa_nil)) pa_nil))) pa_nil)) (pe_callB (call_reprY (by exact gu) (by have h_ := units65 hr; exact h_)) (by rfl) T.z_repr (by decide +kernel) (pa_cons (pe_lst (pa_cons (pv 4) (pa_cons (pe_cmpR op_isN (pv 4) pe_non (nomark _)) pa_nil))) pa_nil)) (nomark _)) (pss_one (ps_ret pe_bl)) pss_nil) (pss_cons (ps_set (i := 5) sc_days_right.nd rfl (by first | exact Or.inl rfl | exact Or.inr rfl) (pe_make T.mk_Table (ok_Table_init_nlltii T) (hr.mono (by decide)) (by rfl) T.g_Table T.b_Table_init .nil pass0 (pa_cons (pe_call (ok_any_way T) (hr.mono (by decide)) (by rfl) T.g_any_way T.F_any_way.kp T.b_any_way .nil pass0 (pa_cons (pv 0) (pa_cons (pv 1) pa_nil))) pa_nil))) (pss_cons (ps_if (pt_cmpR op_ne (pe_callB (call_reprY (by exact gu) (by have h_ := units65 hr; exact h_)) (by rfl) T.z_repr (by decide +kernel) (pa_cons (pe_lst (pa_cons (pe_callKw (ok_first_odd_pair T) (hr.mono (by decide)) (by rfl) T.g_first_odd_pair T.F_first_odd_pair.kp T.k_first_odd_pair_table pass0 (pk_cons (pv 5) pk_nil)) (pa_cons (pe_callKw (ok_is_single T) (hr.mono (by decide)) (by rfl) T.g_is_single T.F_is_single.kp T.k_is_single_table pass0 (pk_cons (pv 5) pk_nil)) pa_nil))) pa_nil)) (pe_callB (call_reprY (by exact gu) (by have h_ := units65 hr; exact h_)) (by rfl) T.z_repr (by decide +kernel) (pa_cons (pe_lst (pa_cons (pv 4) (pa_cons (pe_cmpR op_isN (pv 4) pe_non (nomark _)) pa_nil))) pa_nil)) (nomark _)) (pss_one (ps_ret pe_bl)) pss_nil) (pss_cons (ps_set (i := 6) sc_days_right.nd rfl (by first | exact Or.inl rfl | exact Or.inr rfl) (pe_make T.mk_Table (ok_Table_init_nlltii T) (hr.mono (by decide)) (by rfl) T.g_Table T.b_Table_init .nil pass0 (pa_cons (pe_call (ok_mixed T) (hr.mono (by decide)) (by rfl) T.g_mixed T.F_mixed.kp T.b_mixed .nil pass0 (pa_cons (pv 0) (pa_cons (pv 1) pa_nil))) pa_nil))) (pss_cons (ps_if (pt_cmpR op_ne (pe_callB (call_reprY (by exact gu) (by have h_ := units65 hr; exact h_)) (by rfl) T.z_repr (by decide +kernel) (pa_cons (pe_lst (pa_cons (pe_call (ok_first_odd_pair T) (hr.mono (by decide)) (by rfl) T.g_first_odd_pair T.F_first_odd_pair.kp T.b_first_odd_pair .nil pass0 (pa_cons (pv 6) pa_nil)) (pa_cons (pe_call (ok_is_single T) (hr.mono (by decide)) (by rfl) T.g_is_single T.F_is_single.kp T.b_is_single .nil pass0 (pa_cons (pv 6) pa_nil)) pa_nil))) pa_nil)) (pe_callB (call_reprY (by exact gu) (by have h_ := units65 hr; exact h_)) (by rfl) T.z_repr (by decide +kernel) (pa_cons (pe_lst (pa_cons (pv 4) (pa_cons (pe_cmpR op_isN (pv 4) pe_non (nomark _)) pa_nil))) pa_nil)) (nomark _)) (pss_one (ps_ret pe_bl)) pss_nil) (pss_cons (ps_set (i := 7) sc_days_right.nd rfl (by first | exact Or.inl rfl | exact Or.inr rfl) pe_int) (pss_cons (ps_for PassesOwn.never rfl (pi_rangeW1 (by rfl) T.z_range (pa_cons (pv 2) pa_nil)) (pg_name (i := 8) sc_days_right.nd rfl (by first | exact Or.inl rfl | exact Or.inr rfl)) (pss_one (ps_set (i := 7) sc_days_right.nd rfl (by first | exact Or.inl rfl | exact Or.inr rfl) (pe_op op_add (pv 7) (pe_callB (cr_sumK (K := K) rfl rfl) (by rfl) T.z_sum (by decide +kernel) (pa_cons (pe_lc (own := [("_law_mate", 9)]) (g := gName 9) rfl sc_days_right.nd (pi_rangeW1 (by rfl) T.z_range (pa_cons (pv 8) pa_nil)) (blkOk_by (N := ["_law_pot_here", "_law_days_here", "_law_many_here", "_law_made", "_law_due_here", "_law_near", "_law_far", "_law_total", "_law_who", "_law_mate"]) (sc := defScope s_days_right) (by decide +kernel)) (fun _ _ _ _ _ => pg_name (i := 9) sc_days_right.nd rfl (by first | exact Or.inl rfl | exact Or.inr rfl)) (fun _ _ _ _ _ => pts_nil) (fun _ _ _ _ _ => (pe_callB (call_lenK (K := K) rfl) (by rfl) T.z_len PySem.boot_len (pa_cons (pe_meth (pv 3) T.cl_Table T.m_Table_met_in (ok_Table_met_in T) (hr.mono (by decide)) T.b_Table_met_in .nil pass0 (pa_cons (pv 8) (pa_cons (pv 9) pa_nil))) pa_nil)))) pa_nil)))))) (pss_one (ps_ret (pe_and (pe_cmpR op_eq (pv 7) (pe_op op_fdivW (pe_op op_mulW (pe_callB (call_lenK (K := K) rfl) (by rfl) T.z_len PySem.boot_len (pa_cons (pv 1) pa_nil)) (pv 2)) pe_int) (nomark _)) (pe_one (pe_callG (ok_is T) gu (hr.mono (by decide)) (by rfl) T.g_is T.F_is.kp T.b_is (pa_cons (pv 3) (pa_cons (pv 1) (pa_cons (pv 2) pa_nil)))))))))))))))), ?_⟩
    refine ⟨_, rfl, ?_⟩
    refine ⟨_, rfl, ?_⟩
    refine ⟨ms, ap, _, x_days_here, _, rfl, hW.enterP, h_days_here, hM, fun r1 u4 H5 hM e3 h2 => ?_⟩
    replace h_days_here := rep_ret hW e3 h_days_here
    replace hW := hW.retP e3
    conv => whnf
    apply make_Table_init (ms := ms) hW h2 hM
    intro p6 H10 r9 hM e8 h7
    replace h_days_here := rep_ext e8 h_days_here
    replace h2 := rep_ext e8 h2
    replace hW := hW.ret0 e8
    refine ⟨_, rfl, ?_⟩
    refine ⟨_, rfl, ?_⟩
    refine ⟨ms, _, x_days_here, x_many_here, _, rfl, hW.enter0, h_days_here, hM, fun r11 u14 H15 hM e13 h12 => ?_⟩
    replace h_days_here := rep_ext e13 h_days_here
    replace h2 := rep_ext e13 h2
    replace h7 := rep_ext e13 h7
    replace hW := hW.ret0 e13
    refine ⟨(by show 2 ≤ sizeLine; decide), ?_⟩
    intro p16 n20
    have e17 := Rx.Ext.new (H := H15) (o := (HO.tup [(V.ref p6), u14])) n20
    have hp18 : upd H15 p16 (HO.tup [(V.ref p6), u14]) p16 = some (HO.tup [(V.ref p6), u14]) := upd_same
    generalize upd H15 p16 (HO.tup [(V.ref p6), u14]) = H21 at e17 hp18 ⊢
    have h19 : rep ms H21 (D.tup [(eTable A r9), (encO (fun y_ : (Int × Int × Int) => (D.tup [(D.v (V.int y_.1)), (D.v (V.int y_.2.1)), (D.v (V.int y_.2.2))])) r11)]) (.ref p16) := rep_tup_mk hW n20 e17 hp18 (repL_cons h7 (repL_cons h12 repL_nil))
    replace h_days_here := rep_ext e17 h_days_here
    replace h2 := rep_ext e17 h2
    replace h7 := rep_ext e17 h7
    replace h12 := rep_ext e17 h12
    replace hW := hW.ret0 e17
    apply rep_gtup h19 rfl
    intro vs22 hv23
    obtain ⟨u24, us25, rfl, h26, hv27⟩ := repL_uncons hv23
    obtain ⟨u28, us29, rfl, h30, hv31⟩ := repL_uncons hv27
    obtain rfl := repL_empty hv31
    refine ⟨_, _, rfl, ?_⟩
    refine ⟨_, _, rfl, ?_⟩
    refine ⟨rfl, ?_⟩
    refine ⟨_, rfl, ?_⟩
    refine ⟨ms, _, r9, _, rfl, hW.enter0, h26, hM, fun r32 u35 H36 hM e34 h33 => ?_⟩
    replace h_days_here := rep_ext e34 h_days_here
    replace h2 := rep_ext e34 h2
    replace h7 := rep_ext e34 h7
    replace h12 := rep_ext e34 h12
    replace h19 := rep_ext e34 h19
    replace h26 := rep_ext e34 h26
    replace h30 := rep_ext e34 h30
    replace hW := hW.ret0 e34
    refine ⟨_, rfl, ?_⟩
    refine ⟨ms, _, r9, _, rfl, hW.enter0, h26, hM, fun r37 u40 H41 hM e39 h38 => ?_⟩
    replace h_days_here := rep_ext e39 h_days_here
    replace h2 := rep_ext e39 h2
    replace h7 := rep_ext e39 h7
    replace h12 := rep_ext e39 h12
    replace h19 := rep_ext e39 h19
    replace h26 := rep_ext e39 h26
    replace h30 := rep_ext e39 h30
    replace h33 := rep_ext e39 h33
    replace hW := hW.ret0 e39
    obtain rfl := of_v h38
    refine ⟨(by show 2 ≤ sizeLine; decide), ?_⟩
    intro p42 n46
    have e43 := Rx.Ext.new (H := H41) (o := (HO.lst [u35, V.bl r37])) n46
    have hp44 : upd H41 p42 (HO.lst [u35, V.bl r37]) p42 = some (HO.lst [u35, V.bl r37]) := upd_same
    generalize upd H41 p42 (HO.lst [u35, V.bl r37]) = H47 at e43 hp44 ⊢
    have h45 : rep ms H47 (D.lst (([(encO (fun y_ : (Int × Int × Int) => (D.tup [(D.v (V.int y_.1)), (D.v (V.int y_.2.1)), (D.v (V.int y_.2.2))])) r32), (D.v (V.bl r37))] : List D).map (fun y_ : D => y_))) (.ref p42) := rep_lst_mk hW n46 e43 hp44 (repL_cons h33 (repL_cons rep_v repL_nil))
    replace h_days_here := rep_ext e43 h_days_here
    replace h2 := rep_ext e43 h2
    replace h7 := rep_ext e43 h7
    replace h12 := rep_ext e43 h12
    replace h19 := rep_ext e43 h19
    replace h26 := rep_ext e43 h26
    replace h30 := rep_ext e43 h30
    replace h33 := rep_ext e43 h33
    replace hW := hW.ret0 e43
    obtain ⟨g48, hM⟩ := hM
    refine rep_reprY (d := (D.lst (([(encO (fun y_ : (Int × Int × Int) => (D.tup [(D.v (V.int y_.1)), (D.v (V.int y_.2.1)), (D.v (V.int y_.2.2))])) r32), (D.v (V.bl r37))] : List D).map (fun y_ : D => y_)))) h45 g48 ?_
    refine ⟨_, rfl, ?_⟩
    refine ⟨_, rfl, ?_⟩
    refine ⟨rfl, ?_⟩
    rw [rep_isN (fun _ => ⟨_, rfl⟩) h30]
    refine ⟨(by show 2 ≤ sizeLine; decide), ?_⟩
    intro p49 n53
    have e50 := Rx.Ext.new (H := H47) (o := (HO.lst [u28, V.bl (Option.isNone r11)])) n53
    have hp51 : upd H47 p49 (HO.lst [u28, V.bl (Option.isNone r11)]) p49 = some (HO.lst [u28, V.bl (Option.isNone r11)]) := upd_same
    generalize upd H47 p49 (HO.lst [u28, V.bl (Option.isNone r11)]) = H54 at e50 hp51 ⊢
    have h52 : rep ms H54 (D.lst (([(encO (fun y_ : (Int × Int × Int) => (D.tup [(D.v (V.int y_.1)), (D.v (V.int y_.2.1)), (D.v (V.int y_.2.2))])) r11), (D.v (V.bl (Option.isNone r11)))] : List D).map (fun y_ : D => y_))) (.ref p49) := rep_lst_mk hW n53 e50 hp51 (repL_cons h30 (repL_cons rep_v repL_nil))
    replace h_days_here := rep_ext e50 h_days_here
    replace h2 := rep_ext e50 h2
    replace h7 := rep_ext e50 h7
    replace h12 := rep_ext e50 h12
    replace h19 := rep_ext e50 h19
    replace h26 := rep_ext e50 h26
    replace h30 := rep_ext e50 h30
    replace h33 := rep_ext e50 h33
    replace h45 := rep_ext e50 h45
    replace hW := hW.ret0 e50
    obtain ⟨g55, hM⟩ := hM
    refine rep_reprY (d := (D.lst (([(encO (fun y_ : (Int × Int × Int) => (D.tup [(D.v (V.int y_.1)), (D.v (V.int y_.2.1)), (D.v (V.int y_.2.2))])) r11), (D.v (V.bl (Option.isNone r11)))] : List D).map (fun y_ : D => y_)))) h52 g55 ?_
    refine ⟨rfl, ?_⟩
    refine ⟨_, rfl, ?_⟩
    refine ite3 hM (fun hM => ?_) (fun hM => ?_)
    · skip
      exact hQ false _ _ hM hW.out rep_v
    · skip
      refine ⟨_, rfl, ?_⟩
      refine ⟨_, rfl, ?_⟩
      refine ⟨ms, ap, _, x_days_here, _, rfl, hW.enterP, h_days_here, hM, fun r56 u59 H60 hM e58 h57 => ?_⟩
      replace h_days_here := rep_ret hW e58 h_days_here
      replace h2 := rep_ret hW e58 h2
      replace h7 := rep_ret hW e58 h7
      replace h12 := rep_ret hW e58 h12
      replace h19 := rep_ret hW e58 h19
      replace h26 := rep_ret hW e58 h26
      replace h30 := rep_ret hW e58 h30
      replace h33 := rep_ret hW e58 h33
      replace h45 := rep_ret hW e58 h45
      replace h52 := rep_ret hW e58 h52
      replace hW := hW.retP e58
      conv => whnf
      apply make_Table_init_nlltii (ms := ms) hW h57 hM
      intro p61 H65 r64 hM e63 h62
      replace h_days_here := rep_ext e63 h_days_here
      replace h2 := rep_ext e63 h2
      replace h7 := rep_ext e63 h7
      replace h12 := rep_ext e63 h12
      replace h19 := rep_ext e63 h19
      replace h26 := rep_ext e63 h26
      replace h30 := rep_ext e63 h30
      replace h33 := rep_ext e63 h33
      replace h45 := rep_ext e63 h45
      replace h52 := rep_ext e63 h52
      replace h57 := rep_ext e63 h57
      replace hW := hW.ret0 e63
      refine ⟨_, rfl, ?_⟩
      refine ⟨rfl, ?_⟩
      refine ⟨ms, _, r64, _, rfl, hW.enter0, h62, hM, fun r66 u69 H70 hM e68 h67 => ?_⟩
      replace h_days_here := rep_ext e68 h_days_here
      replace h2 := rep_ext e68 h2
      replace h7 := rep_ext e68 h7
      replace h12 := rep_ext e68 h12
      replace h19 := rep_ext e68 h19
      replace h26 := rep_ext e68 h26
      replace h30 := rep_ext e68 h30
      replace h33 := rep_ext e68 h33
      replace h45 := rep_ext e68 h45
      replace h52 := rep_ext e68 h52
      replace h57 := rep_ext e68 h57
      replace h62 := rep_ext e68 h62
      replace hW := hW.ret0 e68
      refine ⟨_, rfl, ?_⟩
      refine ⟨rfl, ?_⟩
      refine ⟨ms, _, r64, _, rfl, hW.enter0, h62, hM, fun r71 u74 H75 hM e73 h72 => ?_⟩
      replace h_days_here := rep_ext e73 h_days_here
      replace h2 := rep_ext e73 h2
      replace h7 := rep_ext e73 h7
      replace h12 := rep_ext e73 h12
      replace h19 := rep_ext e73 h19
      replace h26 := rep_ext e73 h26
      replace h30 := rep_ext e73 h30
      replace h33 := rep_ext e73 h33
      replace h45 := rep_ext e73 h45
      replace h52 := rep_ext e73 h52
      replace h57 := rep_ext e73 h57
      replace h62 := rep_ext e73 h62
      replace h67 := rep_ext e73 h67
      replace hW := hW.ret0 e73
      obtain rfl := of_v h72
      refine ⟨(by show 2 ≤ sizeLine; decide), ?_⟩
      intro p76 n80
      have e77 := Rx.Ext.new (H := H75) (o := (HO.lst [u69, V.bl r71])) n80
      have hp78 : upd H75 p76 (HO.lst [u69, V.bl r71]) p76 = some (HO.lst [u69, V.bl r71]) := upd_same
      generalize upd H75 p76 (HO.lst [u69, V.bl r71]) = H81 at e77 hp78 ⊢
      have h79 : rep ms H81 (D.lst (([(encO (fun y_ : (Int × Int × Int) => (D.tup [(D.v (V.int y_.1)), (D.v (V.int y_.2.1)), (D.v (V.int y_.2.2))])) r66), (D.v (V.bl r71))] : List D).map (fun y_ : D => y_))) (.ref p76) := rep_lst_mk hW n80 e77 hp78 (repL_cons h67 (repL_cons rep_v repL_nil))
      replace h_days_here := rep_ext e77 h_days_here
      replace h2 := rep_ext e77 h2
      replace h7 := rep_ext e77 h7
      replace h12 := rep_ext e77 h12
      replace h19 := rep_ext e77 h19
      replace h26 := rep_ext e77 h26
      replace h30 := rep_ext e77 h30
      replace h33 := rep_ext e77 h33
      replace h45 := rep_ext e77 h45
      replace h52 := rep_ext e77 h52
      replace h57 := rep_ext e77 h57
      replace h62 := rep_ext e77 h62
      replace h67 := rep_ext e77 h67
      replace hW := hW.ret0 e77
      obtain ⟨g82, hM⟩ := hM
      refine rep_reprY (d := (D.lst (([(encO (fun y_ : (Int × Int × Int) => (D.tup [(D.v (V.int y_.1)), (D.v (V.int y_.2.1)), (D.v (V.int y_.2.2))])) r66), (D.v (V.bl r71))] : List D).map (fun y_ : D => y_)))) h79 g82 ?_
      refine ⟨_, rfl, ?_⟩
      refine ⟨_, rfl, ?_⟩
      refine ⟨rfl, ?_⟩
      rw [rep_isN (fun _ => ⟨_, rfl⟩) h30]
      refine ⟨(by show 2 ≤ sizeLine; decide), ?_⟩
      intro p83 n87
      have e84 := Rx.Ext.new (H := H81) (o := (HO.lst [u28, V.bl (Option.isNone r11)])) n87
      have hp85 : upd H81 p83 (HO.lst [u28, V.bl (Option.isNone r11)]) p83 = some (HO.lst [u28, V.bl (Option.isNone r11)]) := upd_same
      generalize upd H81 p83 (HO.lst [u28, V.bl (Option.isNone r11)]) = H88 at e84 hp85 ⊢
      have h86 : rep ms H88 (D.lst (([(encO (fun y_ : (Int × Int × Int) => (D.tup [(D.v (V.int y_.1)), (D.v (V.int y_.2.1)), (D.v (V.int y_.2.2))])) r11), (D.v (V.bl (Option.isNone r11)))] : List D).map (fun y_ : D => y_))) (.ref p83) := rep_lst_mk hW n87 e84 hp85 (repL_cons h30 (repL_cons rep_v repL_nil))
      replace h_days_here := rep_ext e84 h_days_here
      replace h2 := rep_ext e84 h2
      replace h7 := rep_ext e84 h7
      replace h12 := rep_ext e84 h12
      replace h19 := rep_ext e84 h19
      replace h26 := rep_ext e84 h26
      replace h30 := rep_ext e84 h30
      replace h33 := rep_ext e84 h33
      replace h45 := rep_ext e84 h45
      replace h52 := rep_ext e84 h52
      replace h57 := rep_ext e84 h57
      replace h62 := rep_ext e84 h62
      replace h67 := rep_ext e84 h67
      replace h79 := rep_ext e84 h79
      replace hW := hW.ret0 e84
      obtain ⟨g89, hM⟩ := hM
      refine rep_reprY (d := (D.lst (([(encO (fun y_ : (Int × Int × Int) => (D.tup [(D.v (V.int y_.1)), (D.v (V.int y_.2.1)), (D.v (V.int y_.2.2))])) r11), (D.v (V.bl (Option.isNone r11)))] : List D).map (fun y_ : D => y_)))) h86 g89 ?_
      refine ⟨rfl, ?_⟩
      refine ⟨_, rfl, ?_⟩
      refine ite3 hM (fun hM => ?_) (fun hM => ?_)
      · skip
        exact hQ false _ _ hM hW.out rep_v
      · skip
        refine ⟨_, rfl, ?_⟩
        refine ⟨_, rfl, ?_⟩
        refine ⟨ms, ap, _, x_days_here, _, rfl, hW.enterP, h_days_here, hM, fun r90 u93 H94 hM e92 h91 => ?_⟩
        replace h_days_here := rep_ret hW e92 h_days_here
        replace h2 := rep_ret hW e92 h2
        replace h7 := rep_ret hW e92 h7
        replace h12 := rep_ret hW e92 h12
        replace h19 := rep_ret hW e92 h19
        replace h26 := rep_ret hW e92 h26
        replace h30 := rep_ret hW e92 h30
        replace h33 := rep_ret hW e92 h33
        replace h45 := rep_ret hW e92 h45
        replace h52 := rep_ret hW e92 h52
        replace h57 := rep_ret hW e92 h57
        replace h62 := rep_ret hW e92 h62
        replace h67 := rep_ret hW e92 h67
        replace h79 := rep_ret hW e92 h79
        replace h86 := rep_ret hW e92 h86
        replace hW := hW.retP e92
        conv => whnf
        apply make_Table_init_nlltii (ms := ms) hW h91 hM
        intro p95 H99 r98 hM e97 h96
        replace h_days_here := rep_ext e97 h_days_here
        replace h2 := rep_ext e97 h2
        replace h7 := rep_ext e97 h7
        replace h12 := rep_ext e97 h12
        replace h19 := rep_ext e97 h19
        replace h26 := rep_ext e97 h26
        replace h30 := rep_ext e97 h30
        replace h33 := rep_ext e97 h33
        replace h45 := rep_ext e97 h45
        replace h52 := rep_ext e97 h52
        replace h57 := rep_ext e97 h57
        replace h62 := rep_ext e97 h62
        replace h67 := rep_ext e97 h67
        replace h79 := rep_ext e97 h79
        replace h86 := rep_ext e97 h86
        replace h91 := rep_ext e97 h91
        replace hW := hW.ret0 e97
        refine ⟨_, rfl, ?_⟩
        refine ⟨ms, _, r98, _, rfl, hW.enter0, h96, hM, fun r100 u103 H104 hM e102 h101 => ?_⟩
        replace h_days_here := rep_ext e102 h_days_here
        replace h2 := rep_ext e102 h2
        replace h7 := rep_ext e102 h7
        replace h12 := rep_ext e102 h12
        replace h19 := rep_ext e102 h19
        replace h26 := rep_ext e102 h26
        replace h30 := rep_ext e102 h30
        replace h33 := rep_ext e102 h33
        replace h45 := rep_ext e102 h45
        replace h52 := rep_ext e102 h52
        replace h57 := rep_ext e102 h57
        replace h62 := rep_ext e102 h62
        replace h67 := rep_ext e102 h67
        replace h79 := rep_ext e102 h79
        replace h86 := rep_ext e102 h86
        replace h91 := rep_ext e102 h91
        replace h96 := rep_ext e102 h96
        replace hW := hW.ret0 e102
        refine ⟨_, rfl, ?_⟩
        refine ⟨ms, _, r98, _, rfl, hW.enter0, h96, hM, fun r105 u108 H109 hM e107 h106 => ?_⟩
        replace h_days_here := rep_ext e107 h_days_here
        replace h2 := rep_ext e107 h2
        replace h7 := rep_ext e107 h7
        replace h12 := rep_ext e107 h12
        replace h19 := rep_ext e107 h19
        replace h26 := rep_ext e107 h26
        replace h30 := rep_ext e107 h30
        replace h33 := rep_ext e107 h33
        replace h45 := rep_ext e107 h45
        replace h52 := rep_ext e107 h52
        replace h57 := rep_ext e107 h57
        replace h62 := rep_ext e107 h62
        replace h67 := rep_ext e107 h67
        replace h79 := rep_ext e107 h79
        replace h86 := rep_ext e107 h86
        replace h91 := rep_ext e107 h91
        replace h96 := rep_ext e107 h96
        replace h101 := rep_ext e107 h101
        replace hW := hW.ret0 e107
        obtain rfl := of_v h106
        refine ⟨(by show 2 ≤ sizeLine; decide), ?_⟩
        intro p110 n114
        have e111 := Rx.Ext.new (H := H109) (o := (HO.lst [u103, V.bl r105])) n114
        have hp112 : upd H109 p110 (HO.lst [u103, V.bl r105]) p110 = some (HO.lst [u103, V.bl r105]) := upd_same
        generalize upd H109 p110 (HO.lst [u103, V.bl r105]) = H115 at e111 hp112 ⊢
        have h113 : rep ms H115 (D.lst (([(encO (fun y_ : (Int × Int × Int) => (D.tup [(D.v (V.int y_.1)), (D.v (V.int y_.2.1)), (D.v (V.int y_.2.2))])) r100), (D.v (V.bl r105))] : List D).map (fun y_ : D => y_))) (.ref p110) := rep_lst_mk hW n114 e111 hp112 (repL_cons h101 (repL_cons rep_v repL_nil))
        replace h_days_here := rep_ext e111 h_days_here
        replace h2 := rep_ext e111 h2
        replace h7 := rep_ext e111 h7
        replace h12 := rep_ext e111 h12
        replace h19 := rep_ext e111 h19
        replace h26 := rep_ext e111 h26
        replace h30 := rep_ext e111 h30
        replace h33 := rep_ext e111 h33
        replace h45 := rep_ext e111 h45
        replace h52 := rep_ext e111 h52
        replace h57 := rep_ext e111 h57
        replace h62 := rep_ext e111 h62
        replace h67 := rep_ext e111 h67
        replace h79 := rep_ext e111 h79
        replace h86 := rep_ext e111 h86
        replace h91 := rep_ext e111 h91
        replace h96 := rep_ext e111 h96
        replace h101 := rep_ext e111 h101
        replace hW := hW.ret0 e111
        obtain ⟨g116, hM⟩ := hM
        refine rep_reprY (d := (D.lst (([(encO (fun y_ : (Int × Int × Int) => (D.tup [(D.v (V.int y_.1)), (D.v (V.int y_.2.1)), (D.v (V.int y_.2.2))])) r100), (D.v (V.bl r105))] : List D).map (fun y_ : D => y_)))) h113 g116 ?_
        refine ⟨_, rfl, ?_⟩
        refine ⟨_, rfl, ?_⟩
        refine ⟨rfl, ?_⟩
        rw [rep_isN (fun _ => ⟨_, rfl⟩) h30]
        refine ⟨(by show 2 ≤ sizeLine; decide), ?_⟩
        intro p117 n121
        have e118 := Rx.Ext.new (H := H115) (o := (HO.lst [u28, V.bl (Option.isNone r11)])) n121
        have hp119 : upd H115 p117 (HO.lst [u28, V.bl (Option.isNone r11)]) p117 = some (HO.lst [u28, V.bl (Option.isNone r11)]) := upd_same
        generalize upd H115 p117 (HO.lst [u28, V.bl (Option.isNone r11)]) = H122 at e118 hp119 ⊢
        have h120 : rep ms H122 (D.lst (([(encO (fun y_ : (Int × Int × Int) => (D.tup [(D.v (V.int y_.1)), (D.v (V.int y_.2.1)), (D.v (V.int y_.2.2))])) r11), (D.v (V.bl (Option.isNone r11)))] : List D).map (fun y_ : D => y_))) (.ref p117) := rep_lst_mk hW n121 e118 hp119 (repL_cons h30 (repL_cons rep_v repL_nil))
        replace h_days_here := rep_ext e118 h_days_here
        replace h2 := rep_ext e118 h2
        replace h7 := rep_ext e118 h7
        replace h12 := rep_ext e118 h12
        replace h19 := rep_ext e118 h19
        replace h26 := rep_ext e118 h26
        replace h30 := rep_ext e118 h30
        replace h33 := rep_ext e118 h33
        replace h45 := rep_ext e118 h45
        replace h52 := rep_ext e118 h52
        replace h57 := rep_ext e118 h57
        replace h62 := rep_ext e118 h62
        replace h67 := rep_ext e118 h67
        replace h79 := rep_ext e118 h79
        replace h86 := rep_ext e118 h86
        replace h91 := rep_ext e118 h91
        replace h96 := rep_ext e118 h96
        replace h101 := rep_ext e118 h101
        replace h113 := rep_ext e118 h113
        replace hW := hW.ret0 e118
        obtain ⟨g123, hM⟩ := hM
        refine rep_reprY (d := (D.lst (([(encO (fun y_ : (Int × Int × Int) => (D.tup [(D.v (V.int y_.1)), (D.v (V.int y_.2.1)), (D.v (V.int y_.2.2))])) r11), (D.v (V.bl (Option.isNone r11)))] : List D).map (fun y_ : D => y_)))) h120 g123 ?_
        refine ⟨rfl, ?_⟩
        refine ⟨_, rfl, ?_⟩
        refine ite3 hM (fun hM => ?_) (fun hM => ?_)
        · skip
          exact hQ false _ _ hM hW.out rep_v
        · skip
          refine ⟨_, rfl, ?_⟩
          refine ⟨_, rfl, ?_⟩
          refine for_rangeG (S := Int) (lo := (0 : Int)) (hi := x_many_here) (N := Int.toNat x_many_here) (fun (s : Int) σ_ h_ => ∃ (w_0 : Option V), σ_ = [some (V.ref ap), some v_days_here, some (V.int x_many_here), some u24, some u28, some (V.ref p61), some (V.ref p95), some (V.int s), w_0, none] ∧ Wd ms [(ap, none)] [] H_0 h_ ∧ Keep ms H122 h_) ((0 : Int)) (by simp) hM ⟨_, rfl, hW, Keep.refl⟩ ?_ ?_
          · skip
            rintro x124 s126 k127 _ H133 ⟨w132, rfl, hW, hk128⟩ hM Nx130 hN131
            replace h_days_here := rep_keep hk128 h_days_here
            replace h2 := rep_keep hk128 h2
            replace h7 := rep_keep hk128 h7
            replace h12 := rep_keep hk128 h12
            replace h19 := rep_keep hk128 h19
            replace h26 := rep_keep hk128 h26
            replace h30 := rep_keep hk128 h30
            replace h33 := rep_keep hk128 h33
            replace h45 := rep_keep hk128 h45
            replace h52 := rep_keep hk128 h52
            replace h57 := rep_keep hk128 h57
            replace h62 := rep_keep hk128 h62
            replace h67 := rep_keep hk128 h67
            replace h79 := rep_keep hk128 h79
            replace h86 := rep_keep hk128 h86
            replace h91 := rep_keep hk128 h91
            replace h96 := rep_keep hk128 h96
            replace h101 := rep_keep hk128 h101
            replace h113 := rep_keep hk128 h113
            replace h120 := rep_keep hk128 h120
            refine ⟨_, rfl, ?_⟩
            refine ⟨_, rfl, ?_⟩
            refine ⟨_, rfl, ?_⟩
            refine fun L134 nl135 => ?_
            have nm149 := nm_new hW nl135
            have kn150 := keep_none (w := hW) nl135 hk128
            refine lc_rangeG (L := L134) (fun n_ ys_ h_ => Wd (L134 :: ms) [(ap, none)] [] H_0 h_ ∧ Keep (L134 :: ms) H133 h_ ∧ MutO (L134 :: ms) [(ap, none)] H_0 h_ L134 (D.lst (ys_.map (fun y_ : Int => (D.v (V.int y_))))) ∧ ys_.length ≤ n_) (lo := (0 : Int)) (hi := x124) (N := Int.toNat x124) (by simp) hM ⟨wd_cell hW nl135, keep_cell nl135 Keep.refl, mo_newL (ds := []) hW nl135 repL_nil, Nat.le_refl _⟩ ?_ ?_
            · skip
              rintro x145  n136 ys137 k138 H151 hn ⟨hW, hk139, mu140, ln141⟩ hM Nx144 hN142
              replace h_days_here := rep_keep hk139 (rep_new nl135 h_days_here)
              replace h2 := rep_keep hk139 (rep_new nl135 h2)
              replace h7 := rep_keep hk139 (rep_new nl135 h7)
              replace h12 := rep_keep hk139 (rep_new nl135 h12)
              replace h19 := rep_keep hk139 (rep_new nl135 h19)
              replace h26 := rep_keep hk139 (rep_new nl135 h26)
              replace h30 := rep_keep hk139 (rep_new nl135 h30)
              replace h33 := rep_keep hk139 (rep_new nl135 h33)
              replace h45 := rep_keep hk139 (rep_new nl135 h45)
              replace h52 := rep_keep hk139 (rep_new nl135 h52)
              replace h57 := rep_keep hk139 (rep_new nl135 h57)
              replace h62 := rep_keep hk139 (rep_new nl135 h62)
              replace h67 := rep_keep hk139 (rep_new nl135 h67)
              replace h79 := rep_keep hk139 (rep_new nl135 h79)
              replace h86 := rep_keep hk139 (rep_new nl135 h86)
              replace h91 := rep_keep hk139 (rep_new nl135 h91)
              replace h96 := rep_keep hk139 (rep_new nl135 h96)
              replace h101 := rep_keep hk139 (rep_new nl135 h101)
              replace h113 := rep_keep hk139 (rep_new nl135 h113)
              replace h120 := rep_keep hk139 (rep_new nl135 h120)
              replace hk128 := Keep.trans (Keep.new hk128) hk139
              refine ⟨rfl, ?_⟩
              refine tyes_of ?_
              refine ⟨_, rfl, ?_⟩
              apply rep_meth (m := "met_in") h26 (by decide +kernel)
              refine ⟨_, rfl, ?_⟩
              refine ⟨_, rfl, ?_⟩
              refine ⟨(L134 :: ms), _, r9, x124, x145, _, rfl, hW.enter0, h26, hM, fun r152 u155 H156 hM e154 h153 => ?_⟩
              replace h_days_here := rep_ext e154 h_days_here
              replace h2 := rep_ext e154 h2
              replace h7 := rep_ext e154 h7
              replace h12 := rep_ext e154 h12
              replace h19 := rep_ext e154 h19
              replace h26 := rep_ext e154 h26
              replace h30 := rep_ext e154 h30
              replace h33 := rep_ext e154 h33
              replace h45 := rep_ext e154 h45
              replace h52 := rep_ext e154 h52
              replace h57 := rep_ext e154 h57
              replace h62 := rep_ext e154 h62
              replace h67 := rep_ext e154 h67
              replace h79 := rep_ext e154 h79
              replace h86 := rep_ext e154 h86
              replace h91 := rep_ext e154 h91
              replace h96 := rep_ext e154 h96
              replace h101 := rep_ext e154 h101
              replace h113 := rep_ext e154 h113
              replace h120 := rep_ext e154 h120
              replace hk128 := keep_ext e154 hk128
              replace hk139 := keep_ext e154 hk139
              replace mu140 := mo_ext e154 mu140
              replace hW := hW.ret0 e154
              apply rep_lenL (e := (fun y_ : Int => (D.v (V.int y_)))) (xs := r152) h153
              refine mo_end mu140 hn (by rw [List.length_map]; exact ln141) fun vs157 hr158 => ?_
              have mk160 := mo_setL mu140 (repL_snoc (e := (fun y_ : Int => (D.v (V.int y_)))) (xs := ys137) (y := (r152.length : Int)) hr158 rep_v)
              replace h_days_here := rep_put (o := .lst (vs157 ++ [V.int (r152.length : Int)])) mu140.im h_days_here
              replace h2 := rep_put (o := .lst (vs157 ++ [V.int (r152.length : Int)])) mu140.im h2
              replace h7 := rep_put (o := .lst (vs157 ++ [V.int (r152.length : Int)])) mu140.im h7
              replace h12 := rep_put (o := .lst (vs157 ++ [V.int (r152.length : Int)])) mu140.im h12
              replace h19 := rep_put (o := .lst (vs157 ++ [V.int (r152.length : Int)])) mu140.im h19
              replace h26 := rep_put (o := .lst (vs157 ++ [V.int (r152.length : Int)])) mu140.im h26
              replace h30 := rep_put (o := .lst (vs157 ++ [V.int (r152.length : Int)])) mu140.im h30
              replace h33 := rep_put (o := .lst (vs157 ++ [V.int (r152.length : Int)])) mu140.im h33
              replace h45 := rep_put (o := .lst (vs157 ++ [V.int (r152.length : Int)])) mu140.im h45
              replace h52 := rep_put (o := .lst (vs157 ++ [V.int (r152.length : Int)])) mu140.im h52
              replace h57 := rep_put (o := .lst (vs157 ++ [V.int (r152.length : Int)])) mu140.im h57
              replace h62 := rep_put (o := .lst (vs157 ++ [V.int (r152.length : Int)])) mu140.im h62
              replace h67 := rep_put (o := .lst (vs157 ++ [V.int (r152.length : Int)])) mu140.im h67
              replace h79 := rep_put (o := .lst (vs157 ++ [V.int (r152.length : Int)])) mu140.im h79
              replace h86 := rep_put (o := .lst (vs157 ++ [V.int (r152.length : Int)])) mu140.im h86
              replace h91 := rep_put (o := .lst (vs157 ++ [V.int (r152.length : Int)])) mu140.im h91
              replace h96 := rep_put (o := .lst (vs157 ++ [V.int (r152.length : Int)])) mu140.im h96
              replace h101 := rep_put (o := .lst (vs157 ++ [V.int (r152.length : Int)])) mu140.im h101
              replace h113 := rep_put (o := .lst (vs157 ++ [V.int (r152.length : Int)])) mu140.im h113
              replace h120 := rep_put (o := .lst (vs157 ++ [V.int (r152.length : Int)])) mu140.im h120
              replace hk128 := keep_put (o := .lst (vs157 ++ [V.int (r152.length : Int)])) mu140.im hk128
              replace hk139 := keep_put (o := .lst (vs157 ++ [V.int (r152.length : Int)])) mu140.im hk139
              replace h153 := rep_put (o := .lst (vs157 ++ [V.int (r152.length : Int)])) mu140.im h153
              replace hW := wd_put (o := .lst (vs157 ++ [V.int (r152.length : Int)])) hW mu140
              replace mu140 := mk160
              generalize upd H156 L134 (.lst (vs157 ++ [V.int (r152.length : Int)])) = H161 at *
              replace mu140 : MutO (L134 :: ms) [(ap, none)] H_0 H161 L134 (D.lst ((ys137 ++ [(r152.length : Int)]).map (fun y_ : Int => (D.v (V.int y_))))) := mu140
              clear mk160
              exact hN142 (r152.length : Int) _ hM ⟨hW, hk139, mu140, by rw [List.length_append]; exact Nat.add_le_add_right ln141 1⟩
            · skip
              rintro n136 ys162 H163 hM ⟨hW, hk139, mu140, ln141⟩
              replace h_days_here := rep_keep hk139 (rep_new nl135 h_days_here)
              replace h2 := rep_keep hk139 (rep_new nl135 h2)
              replace h7 := rep_keep hk139 (rep_new nl135 h7)
              replace h12 := rep_keep hk139 (rep_new nl135 h12)
              replace h19 := rep_keep hk139 (rep_new nl135 h19)
              replace h26 := rep_keep hk139 (rep_new nl135 h26)
              replace h30 := rep_keep hk139 (rep_new nl135 h30)
              replace h33 := rep_keep hk139 (rep_new nl135 h33)
              replace h45 := rep_keep hk139 (rep_new nl135 h45)
              replace h52 := rep_keep hk139 (rep_new nl135 h52)
              replace h57 := rep_keep hk139 (rep_new nl135 h57)
              replace h62 := rep_keep hk139 (rep_new nl135 h62)
              replace h67 := rep_keep hk139 (rep_new nl135 h67)
              replace h79 := rep_keep hk139 (rep_new nl135 h79)
              replace h86 := rep_keep hk139 (rep_new nl135 h86)
              replace h91 := rep_keep hk139 (rep_new nl135 h91)
              replace h96 := rep_keep hk139 (rep_new nl135 h96)
              replace h101 := rep_keep hk139 (rep_new nl135 h101)
              replace h113 := rep_keep hk139 (rep_new nl135 h113)
              replace h120 := rep_keep hk139 (rep_new nl135 h120)
              replace hk128 := Keep.trans (Keep.new hk128) hk139
              clear hk139 ln141
              have h164 := mo_rep_dr dr_here nm149 mu140
              replace hW := wd_dr dr_here mu140.hp hW
              replace h_days_here := rep_dr dr_here h_days_here
              replace h2 := rep_dr dr_here h2
              replace h7 := rep_dr dr_here h7
              replace h12 := rep_dr dr_here h12
              replace h19 := rep_dr dr_here h19
              replace h26 := rep_dr dr_here h26
              replace h30 := rep_dr dr_here h30
              replace h33 := rep_dr dr_here h33
              replace h45 := rep_dr dr_here h45
              replace h52 := rep_dr dr_here h52
              replace h57 := rep_dr dr_here h57
              replace h62 := rep_dr dr_here h62
              replace h67 := rep_dr dr_here h67
              replace h79 := rep_dr dr_here h79
              replace h86 := rep_dr dr_here h86
              replace h91 := rep_dr dr_here h91
              replace h96 := rep_dr dr_here h96
              replace h101 := rep_dr dr_here h101
              replace h113 := rep_dr dr_here h113
              replace h120 := rep_dr dr_here h120
              replace hk128 := keep_dr dr_here kn150 hk128
              clear mu140
              apply rep_sumL h164
              refine ⟨_, _, rfl, rfl, ?_⟩
              exact hN131 ((s126 + (List.sum ys162))) _ _ hM ⟨_, rfl, hW, hk128⟩
          · skip
            rintro s165 _ H168 hM ⟨w167, rfl, hW, hk166⟩
            replace h_days_here := rep_keep hk166 h_days_here
            replace h2 := rep_keep hk166 h2
            replace h7 := rep_keep hk166 h7
            replace h12 := rep_keep hk166 h12
            replace h19 := rep_keep hk166 h19
            replace h26 := rep_keep hk166 h26
            replace h30 := rep_keep hk166 h30
            replace h33 := rep_keep hk166 h33
            replace h45 := rep_keep hk166 h45
            replace h52 := rep_keep hk166 h52
            replace h57 := rep_keep hk166 h57
            replace h62 := rep_keep hk166 h62
            replace h67 := rep_keep hk166 h67
            replace h79 := rep_keep hk166 h79
            replace h86 := rep_keep hk166 h86
            replace h91 := rep_keep hk166 h91
            replace h96 := rep_keep hk166 h96
            replace h101 := rep_keep hk166 h101
            replace h113 := rep_keep hk166 h113
            replace h120 := rep_keep hk166 h120
            refine ⟨_, rfl, ?_⟩
            refine ⟨_, rfl, ?_⟩
            apply rep_lenL (e := (fun y_ : (List (Int × Int)) => (D.lst (y_.map (fun y_ : (Int × Int) => (D.tup [(D.v (V.int y_.1)), (D.v (V.int y_.2))])))))) (xs := x_days_here) h_days_here
            refine ⟨_, rfl, ?_⟩
            obtain ⟨g169, hM⟩ := hM
            refine ⟨_, _, rfl, rfl, g169, ?_⟩
            refine ⟨_, _, rfl, rfl, ⟨by decide, by decide⟩, ?_⟩
            refine ⟨rfl, ?_⟩
            refine ⟨_, rfl, ?_⟩
            refine ite3 hM (fun hM => ?_) (fun hM => ?_)
            · skip
              refine ⟨_, rfl, ?_⟩
              refine ⟨_, rfl, ?_⟩
              refine ⟨_, rfl, ?_⟩
              refine ⟨ms, _, _, r9, x_days_here, x_many_here, _, rfl, hW.enter0, h26, h_days_here, hM, fun r170 u173 H174 hM e172 h171 => ?_⟩
              replace h_days_here := rep_ext e172 h_days_here
              replace h2 := rep_ext e172 h2
              replace h7 := rep_ext e172 h7
              replace h12 := rep_ext e172 h12
              replace h19 := rep_ext e172 h19
              replace h26 := rep_ext e172 h26
              replace h30 := rep_ext e172 h30
              replace h33 := rep_ext e172 h33
              replace h45 := rep_ext e172 h45
              replace h52 := rep_ext e172 h52
              replace h57 := rep_ext e172 h57
              replace h62 := rep_ext e172 h62
              replace h67 := rep_ext e172 h67
              replace h79 := rep_ext e172 h79
              replace h86 := rep_ext e172 h86
              replace h91 := rep_ext e172 h91
              replace h96 := rep_ext e172 h96
              replace h101 := rep_ext e172 h101
              replace h113 := rep_ext e172 h113
              replace h120 := rep_ext e172 h120
              replace hW := hW.ret0 e172
              obtain rfl := of_v h171
              exact hQ r170 _ _ hM hW.out rep_v
            · skip
              exact hQ false _ _ hM hW.out rep_v
def M_pick_plltii (x_some : (List (List (Int × Int)))) (KM : (List (Int × Int)) → Prop) : Prop :=
  (M_draw (x_some.length : Int) fun r1 => (0 ≤ r1 ∧ ∃ g7 : Int.toNat r1 < x_some.length, ∀ x9, x9 = x_some[Int.toNat r1]'g7 → (KM x9)))
def sp_pick_plltii (A : Ad) : Sp := fun vs H Q _ => ∃ (ms : List Addr) (ap : Addr) (v_some : V) (x_some : (List (List (Int × Int)))) (KM : (List (Int × Int)) → Prop), vs = [.ref ap, v_some] ∧ Wd ms [(ap, none)] [] H H ∧ rep ms H (D.lst (x_some.map (fun y_ : (List (Int × Int)) => (D.lst (y_.map (fun y_ : (Int × Int) => (D.tup [(D.v (V.int y_.1)), (D.v (V.int y_.2))]))))))) v_some ∧ M_pick_plltii x_some KM ∧ ∀ (r : (List (Int × Int))) (u : V) (H1 : Hp), KM r → Ret [(ap, none)] H H1 → rep ms H1 (D.lst (r.map (fun y_ : (Int × Int) => (D.tup [(D.v (V.int y_.1)), (D.v (V.int y_.2))])))) u → Q u H1
set_option maxHeartbeats 16000000 in
theorem ok_pick_plltii {P : Program} {w : World} {K : PySem.W.Frag} {mg : Str → Option Value} {base : Heap} {A : Ad} (T : Txt w K mg A) : FnOk P w K mg base CX0 2 A.a_pick A.d_pick ["_law_pot_here", "_law_some"] (sp_pick_plltii A) := by
  refine T.F_pick.ok sc_pick (fun vs H Q E h => ?_) (fun cdv A_ outer s_ H_0 vs Q E hr h => ?_)
  · obtain ⟨ms, ap, v_some, x_some, KM, rfl, _⟩ := h
    rfl
  · obtain ⟨ms, ap, v_some, x_some, KM, rfl, hW, h_some, hM, hQ⟩ := h
    unfold M_pick_plltii at hM
    refine ⟨_, (pss_one (ps_ret (pe_ix (ix_listK (K := K) rfl) (pv 1) (pe_call (ok_draw T) (hr.mono (by decide)) (by rfl) T.g_draw T.F_draw.kp T.b_draw .nil pass0 (pa_cons (pv 0) (pa_cons (pe_callB (call_lenK (K := K) rfl) (by rfl) T.z_len PySem.boot_len (pa_cons (pv 1) pa_nil)) pa_nil))) (fun _ _ => rfl)))), ?_⟩
    refine ⟨_, rfl, ?_⟩
    refine ⟨_, rfl, ?_⟩
    refine ⟨_, rfl, ?_⟩
    apply rep_lenL (e := (fun y_ : (List (Int × Int)) => (D.lst (y_.map (fun y_ : (Int × Int) => (D.tup [(D.v (V.int y_.1)), (D.v (V.int y_.2))])))))) (xs := x_some) h_some
    refine ⟨ms, ap, (x_some.length : Int), _, rfl, hW.enterP, hM, fun r1 u4 H5 hM e3 h2 => ?_⟩
    replace h_some := rep_ret hW e3 h_some
    replace hW := hW.retP e3
    obtain rfl := of_v h2
    obtain ⟨g6, g7, hM⟩ := hM
    apply rep_ixL (e := (fun y_ : (List (Int × Int)) => (D.lst (y_.map (fun y_ : (Int × Int) => (D.tup [(D.v (V.int y_.1)), (D.v (V.int y_.2))])))))) (xs := x_some) h_some g6 g7
    intro u10 h8
    obtain ⟨x9, x9e⟩ : ∃ x_, x_ = x_some[Int.toNat r1]'g7 := ⟨_, rfl⟩
    rw [← x9e] at h8
    replace hM := hM x9 x9e
    exact hQ x9 _ _ hM hW.out h8
def M_days (x_many_here : Int) (x_most : Int) (KM : (List (List (Int × Int))) → Prop) : Prop :=
  (M_day x_many_here fun r1 => (M_draw x_most fun r11 => (forC (fun (x16 : Int) (s18 : (List (List (Int × Int)))) (k19 : ((List (List (Int × Int)))) → Prop) => (M_draw (4 : Int) fun r29 => ((0 < s18.length) ∧ (M_pick_plltii s18 fun r35 => (if (decide (r29 < (2 : Int))) = true then (M_day x_many_here fun r40 => (s18.length < 16777216 ∧ (k19 ((s18 ++ [r40]))))) else (if (decide (V.int r29 = V.int (2 : Int))) = true then (r35.length < 100000 ∧ mapC (fun (x68 : (Int × Int)) (k61 : (Int × Int) → Prop) => (∃ KB87 : (Int × Int) → Prop, (M_draw (2 : Int) fun r90 => (if (decide (V.int r90 = V.int (0 : Int))) = true then (KB87 (x68.2, x68.1)) else (KB87 (x68.1, x68.2)))) ∧ ∀ r107 : (Int × Int), KB87 r107 → (k61 r107))) r35 [] fun ys117 => (s18.length < 16777216 ∧ (k19 ((s18 ++ [ys117]))))) else (s18.length < 16777216 ∧ (k19 ((s18 ++ [r35])))))))))) (rangeI (0 : Int) r11) (([r1] : List (List (Int × Int)))) fun s135 => (KM s135))))
def sp_days (A : Ad) : Sp := fun vs H Q _ => ∃ (ms : List Addr) (ap : Addr) (x_many_here : Int) (x_most : Int) (KM : (List (List (Int × Int))) → Prop), vs = [.ref ap, V.int x_many_here, V.int x_most] ∧ Wd ms [(ap, none)] [] H H ∧ M_days x_many_here x_most KM ∧ ∀ (r : (List (List (Int × Int)))) (u : V) (H1 : Hp), KM r → Ret [(ap, none)] H H1 → rep ms H1 (D.lst (r.map (fun y_ : (List (Int × Int)) => (D.lst (y_.map (fun y_ : (Int × Int) => (D.tup [(D.v (V.int y_.1)), (D.v (V.int y_.2))]))))))) u → Q u H1
set_option maxHeartbeats 16000000 in
theorem ok_days {P : Program} {w : World} {K : PySem.W.Frag} {mg : Str → Option Value} {base : Heap} {A : Ad} (T : Txt w K mg A) : FnOk P w K mg base CX0 4 A.a_days A.d_days ["_law_pot_here", "_law_many_here", "_law_most"] (sp_days A) := by
  refine T.F_days.ok sc_days (fun vs H Q E h => ?_) (fun cdv A_ outer s_ H_0 vs Q E hr h => ?_)
  · obtain ⟨ms, ap, x_many_here, x_most, KM, rfl, _⟩ := h
    rfl
  · obtain ⟨ms, ap, x_many_here, x_most, KM, rfl, hW, hM, hQ⟩ := h
    unfold M_days at hM
    refine ⟨_, (pss_cons (ps_set (i := 3) sc_days.nd rfl (by first | exact Or.inl rfl | exact Or.inr rfl) (pe_lst (pa_cons (pe_call (ok_day T) (hr.mono (by decide)) (by rfl) T.g_day T.F_day.kp T.b_day .nil pass0 (pa_cons (pv 0) (pa_cons (pv 1) pa_nil))) pa_nil))) (pss_cons (ps_for PassesOwn.never rfl (pi_rangeW1 (by rfl) T.z_range (pa_cons (pe_call (ok_draw T) (hr.mono (by decide)) (by rfl) T.g_draw T.F_draw.kp T.b_draw .nil pass0 (pa_cons (pv 0) (pa_cons (pv 2) pa_nil))) pa_nil)) (pg_name (i := 4) sc_days.nd rfl (by first | exact Or.inl rfl | exact Or.inr rfl)) (pss_cons (ps_par (i := 5) (j := 6) (by rfl) sc_days.nd rfl rfl (by decide) rfl rfl (pa_cons (pe_call (ok_draw T) (hr.mono (by decide)) (by rfl) T.g_draw T.F_draw.kp T.b_draw .nil pass0 (pa_cons (pv 0) (pa_cons pe_int pa_nil))) (pa_cons (pe_call (ok_pick_plltii T) (hr.mono (by decide)) (by rfl) T.g_pick T.F_pick.kp T.b_pick .nil pass0 (pa_cons (pv 0) (pa_cons (pv 3) pa_nil))) pa_nil)) (by rfl)) (pss_cons (ps_if (pt_cmpR op_lt (pv 5) pe_int (nomark _)) (pss_one (ps_set (i := 6) sc_days.nd rfl (by first | exact Or.inl rfl | exact Or.inr rfl) (pe_call (ok_day T) (hr.mono (by decide)) (by rfl) T.g_day T.F_day.kp T.b_day .nil pass0 (pa_cons (pv 0) (pa_cons (pv 1) pa_nil))))) (pss_one (ps_if (pt_cmpR op_eq (pv 5) pe_int (nomark _)) (pss_one (ps_setLc (i := 6) (own := [("_law_home", 7), ("_law_away", 8)]) (g := (gTup K 2 (gCons (gName 7) (gCons (gName 8) gNil)))) rfl sc_days.nd rfl rfl (sw_true rfl rfl rfl (by decide +kernel)) (pi_list (pv 6)) (blkOk_by (N := ["_law_pot_here", "_law_many_here", "_law_most", "_law_found", "_law_turn", "_law_way", "_law_near", "_law_home", "_law_away"]) (sc := defScope s_days) (by decide +kernel)) (fun _ _ _ _ _ => (pg_tup rfl (pgs_cons (pg_name (i := 7) sc_days.nd rfl (by first | exact Or.inl rfl | exact Or.inr rfl)) (pgs_cons (pg_name (i := 8) sc_days.nd rfl (by first | exact Or.inl rfl | exact Or.inr rfl)) pgs_nil)))) (fun _ _ _ _ _ => pts_nil) (fun _ _ _ _ _ => (pe_up (pe_ifExp (pt_cmpR op_eq (pe_call (ok_draw T) (hr.mono (by decide)) (by rfl) T.g_draw T.F_draw.kp T.b_draw .nil pass0 (pa_cons (pv 0) (pa_cons pe_int pa_nil))) pe_int (nomark _)) (pe_tup (pa_cons (pv 8) (pa_cons (pv 7) pa_nil))) (pe_tup (pa_cons (pv 7) (pa_cons (pv 8) pa_nil)))))))) pss_nil))) (pss_one (ps_expr (pe_bmK (K := K) rfl PySem.F.plainAttrs_list PySem.F.slot_list_append PySem.F.type_list_append mt_append (pv 3) (pa_cons (pv 6) pa_nil))))))) (pss_one (ps_ret (pv 3))))), ?_⟩
    refine ⟨_, rfl, ?_⟩
    refine ⟨_, rfl, ?_⟩
    refine ⟨ms, ap, x_many_here, _, rfl, hW.enterP, hM, fun r1 u4 H5 hM e3 h2 => ?_⟩
    replace hW := hW.retP e3
    refine ⟨(by show 1 ≤ sizeLine; decide), ?_⟩
    intro L6 nl7
    have nm8 := nm_new hW nl7
    have mu9 := mo_newL (ds := ([r1] : List (List (Int × Int))).map (fun y_ : (List (Int × Int)) => (D.lst (y_.map (fun y_ : (Int × Int) => (D.tup [(D.v (V.int y_.1)), (D.v (V.int y_.2))])))))) (vs := [u4]) hW nl7 (repL_cons h2 repL_nil)
    replace h2 := rep_cell (o := .lst [u4]) nl7 h2
    replace hW := wd_cell (o := .lst [u4]) hW nl7
    generalize upd H5 L6 (.lst [u4]) = H10 at *
    replace mu9 : MutO (L6 :: ms) [(ap, none)] H_0 H10 L6 (D.lst (([r1] : List (List (Int × Int))).map (fun y_ : (List (Int × Int)) => (D.lst (y_.map (fun y_ : (Int × Int) => (D.tup [(D.v (V.int y_.1)), (D.v (V.int y_.2))]))))))) := mu9
    refine ⟨_, rfl, ?_⟩
    refine ⟨_, rfl, ?_⟩
    refine ⟨(L6 :: ms), ap, x_most, _, rfl, hW.enterP, hM, fun r11 u14 H15 hM e13 h12 => ?_⟩
    replace h2 := rep_ret hW e13 h2
    replace mu9 := mo_ret hW e13 mu9
    replace hW := hW.retP e13
    obtain rfl := of_v h12
    refine ⟨_, rfl, ?_⟩
    refine for_rangeG (S := (List (List (Int × Int)))) (lo := (0 : Int)) (hi := r11) (N := Int.toNat r11) (fun (s : (List (List (Int × Int)))) σ_ h_ => ∃ (w_0 : Option V), ∃ (w_1 : Option V), ∃ (w_2 : Option V), σ_ = [some (V.ref ap), some (V.int x_many_here), some (V.int x_most), some (V.ref L6), w_0, w_1, w_2, none, none] ∧ Wd (L6 :: ms) [(ap, none)] [] H_0 h_ ∧ Keep (L6 :: ms) H15 h_ ∧ MutO (L6 :: ms) [(ap, none)] H_0 h_ L6 (D.lst (s.map (fun y_ : (List (Int × Int)) => (D.lst (y_.map (fun y_ : (Int × Int) => (D.tup [(D.v (V.int y_.1)), (D.v (V.int y_.2))])))))))) (([r1] : List (List (Int × Int)))) (by simp) hM ⟨_, _, _, rfl, hW, Keep.refl, mu9⟩ ?_ ?_
    · skip
      clear mu9
      rintro x16 s18 k19 _ H28 ⟨w24, w25, w26, rfl, hW, hk20, mu27⟩ hM Nx22 hN23
      replace h2 := rep_keep hk20 h2
      refine ⟨_, rfl, ?_⟩
      refine ⟨(L6 :: ms), ap, (4 : Int), _, rfl, hW.enterP, hM, fun r29 u32 H33 hM e31 h30 => ?_⟩
      replace h2 := rep_ret hW e31 h2
      replace hk20 := keep_ret hW e31 hk20
      replace mu27 := mo_ret hW e31 mu27
      replace hW := hW.retP e31
      obtain rfl := of_v h30
      refine ⟨_, rfl, ?_⟩
      refine ⟨_, rfl, ?_⟩
      obtain ⟨g34, hM⟩ := hM
      have hfz0 := mo_rep_dr dr_here nm8 mu27
      have hWz0 := wd_dr dr_here (mu27).hp hW
      refine ⟨ms, ap, _, s18, _, rfl, hWz0.enterP, hfz0, hM, fun r35 u38 H39 hM e37 h36 => ?_⟩
      clear hfz0 hWz0
      replace h2 := rep_ret hW e37 h2
      replace hk20 := keep_ret hW e37 hk20
      replace mu27 := mo_ret hW e37 mu27
      replace hW := hW.retP e37
      replace h36 := rep_liftA (es := List.map (fun y_ : (List (Int × Int)) => (D.lst (y_.map (fun y_ : (Int × Int) => (D.tup [(D.v (V.int y_.1)), (D.v (V.int y_.2))]))))) s18) dr_here mu27 _ _ (apIn_l (ap_ll g34 fun _ _ => ap_tl) fun _ => (apIn_t (apIns_cons apIn_v (apIns_cons apIn_v apIns_nil)))) h36
      refine ⟨_, _, rfl, ?_⟩
      refine ⟨_, rfl, ?_⟩
      refine ⟨_, _, rfl, rfl, ?_⟩
      refine ⟨_, rfl, ?_⟩
      refine ite3 hM (fun hM => ?_) (fun hM => ?_)
      · skip
        refine ⟨_, rfl, ?_⟩
        refine ⟨_, rfl, ?_⟩
        refine ⟨(L6 :: ms), ap, x_many_here, _, rfl, hW.enterP, hM, fun r40 u43 H44 hM e42 h41 => ?_⟩
        replace h2 := rep_ret hW e42 h2
        replace hk20 := keep_ret hW e42 hk20
        replace h36 := rep_ret hW e42 h36
        replace mu27 := mo_ret hW e42 mu27
        replace hW := hW.retP e42
        refine ⟨_, rfl, ?_⟩
        refine ⟨mo_tyL mu27, ?_⟩
        refine ⟨_, rfl, ?_⟩
        obtain ⟨g45, hM⟩ := hM
        apply mo_appU mu27 (by rw [List.length_map]; exact g45)
        intro vs46 hr48
        have mk50 := mo_setL mu27 (repL_snoc (e := (fun y_ : (List (Int × Int)) => (D.lst (y_.map (fun y_ : (Int × Int) => (D.tup [(D.v (V.int y_.1)), (D.v (V.int y_.2))])))))) (xs := s18) (y := r40) hr48 h41)
        replace h2 := rep_put (o := .lst (vs46 ++ [u43])) mu27.im h2
        replace hk20 := keep_put (o := .lst (vs46 ++ [u43])) mu27.im hk20
        replace h36 := rep_put (o := .lst (vs46 ++ [u43])) mu27.im h36
        replace h41 := rep_put (o := .lst (vs46 ++ [u43])) mu27.im h41
        replace hW := wd_put (o := .lst (vs46 ++ [u43])) hW mu27
        replace mu27 := mk50
        generalize upd H44 L6 (.lst (vs46 ++ [u43])) = H51 at *
        replace mu27 : MutO (L6 :: ms) [(ap, none)] H_0 H51 L6 (D.lst ((s18 ++ [r40]).map (fun y_ : (List (Int × Int)) => (D.lst (y_.map (fun y_ : (Int × Int) => (D.tup [(D.v (V.int y_.1)), (D.v (V.int y_.2))]))))))) := mu27
        clear mk50
        exact hN23 ((s18 ++ [r40])) _ _ hM ⟨_, _, _, rfl, hW, hk20, mu27⟩
      · skip
        refine ⟨_, rfl, ?_⟩
        refine ⟨rfl, ?_⟩
        refine ⟨_, rfl, ?_⟩
        refine ite3 hM (fun hM => ?_) (fun hM => ?_)
        · skip
          refine ⟨_, rfl, ?_⟩
          apply rep_iter h36
          intro a52 xs53 _ an54 hp55 hl56
          refine fun L57 nl58 => ?_
          have nm72 := nm_new hW nl58
          have kn73 := keep_none (w := hW) nl58 hk20
          have ne74 := mo_ne nl58 mu27
          refine lc_listG (L := L57) (fun n_ ys_ h_ => Wd (L57 :: (L6 :: ms)) [(ap, none)] [] H_0 h_ ∧ Keep (L57 :: (L6 :: ms)) H39 h_ ∧ MutO (L57 :: (L6 :: ms)) [(ap, none)] H_0 h_ L57 (D.lst (ys_.map (fun y_ : (Int × Int) => (D.tup [(D.v (V.int y_.1)), (D.v (V.int y_.2))])))) ∧ ys_.length ≤ n_ ∧ MutO (L57 :: (L6 :: ms)) [(ap, none)] H_0 h_ L6 (D.lst (s18.map (fun y_ : (List (Int × Int)) => (D.lst (y_.map (fun y_ : (Int × Int) => (D.tup [(D.v (V.int y_.1)), (D.v (V.int y_.2))])))))))) (items := r35) (e := (fun y_ : (Int × Int) => (D.tup [(D.v (V.int y_.1)), (D.v (V.int y_.2))]))) an54 hp55 hl56 nl58 (fun _ _ _ q_ => q_.2.1) hM ⟨wd_cell hW nl58, keep_cell nl58 Keep.refl, mo_newL (ds := []) hW nl58 repL_nil, Nat.le_refl _, mo_cell nl58 mu27⟩ ?_ ?_
          · skip
            clear mu27
            rintro x68 u69 n59 ys60 k61 H75 hn ⟨hW, hk62, mu63, ln64, mu76⟩ h70 hM Nx67 hN65
            replace h2 := rep_keep hk62 (rep_new nl58 h2)
            replace hk20 := Keep.trans (Keep.new hk20) hk62
            replace h36 := rep_keep hk62 (rep_new nl58 h36)
            apply rep_gtup h70 rfl
            intro vs77 hv78
            obtain ⟨u79, us80, rfl, h81, hv82⟩ := repL_uncons hv78
            obtain rfl := of_v h81
            obtain ⟨u83, us84, rfl, h85, hv86⟩ := repL_uncons hv82
            obtain rfl := of_v h85
            obtain rfl := repL_empty hv86
            refine ⟨_, _, rfl, ?_⟩
            refine ⟨_, _, rfl, ?_⟩
            refine ⟨rfl, ?_⟩
            refine ⟨rfl, ?_⟩
            refine tyes_of ?_
            obtain ⟨KB87, hM, hKKB87⟩ := hM
            refine ⟨fun v H1 => ∃ r : (Int × Int), KB87 r ∧ Wd (L57 :: (L6 :: ms)) [(ap, none)] [] H_0 H1 ∧ Keep (L57 :: (L6 :: ms)) H75 H1 ∧ rep (L57 :: (L6 :: ms)) H1 (D.tup [(D.v (V.int r.1)), (D.v (V.int r.2))]) v ∧ MutO (L57 :: (L6 :: ms)) [(ap, none)] H_0 H1 L6 (D.lst (s18.map (fun y_ : (List (Int × Int)) => (D.lst (y_.map (fun y_ : (Int × Int) => (D.tup [(D.v (V.int y_.1)), (D.v (V.int y_.2))]))))))) ∧ MutO (L57 :: (L6 :: ms)) [(ap, none)] H_0 H1 L57 (D.lst (ys60.map (fun y_ : (Int × Int) => (D.tup [(D.v (V.int y_.1)), (D.v (V.int y_.2))])))), ?_, ?_⟩
            · skip
              have hj89 := Keep.refl (ms := (L57 :: (L6 :: ms))) (H := H75)
              refine ⟨_, rfl, ?_⟩
              refine ⟨(L57 :: (L6 :: ms)), ap, (2 : Int), _, rfl, hW.enterP, hM, fun r90 u93 H94 hM e92 h91 => ?_⟩
              replace h2 := rep_ret hW e92 h2
              replace hk20 := keep_ret hW e92 hk20
              replace h36 := rep_ret hW e92 h36
              replace hk62 := keep_ret hW e92 hk62
              replace h70 := rep_ret hW e92 h70
              replace hj89 := keep_ret hW e92 hj89
              replace mu76 := mo_ret hW e92 mu76
              replace mu63 := mo_ret hW e92 mu63
              replace hW := hW.retP e92
              obtain rfl := of_v h91
              refine ⟨rfl, ?_⟩
              refine ⟨_, rfl, ?_⟩
              refine ite3 hM (fun hM => ?_) (fun hM => ?_)
              · skip
                refine ⟨_, rfl, ?_⟩
                refine ⟨_, rfl, ?_⟩
                refine ⟨(by show 2 ≤ sizeLine; decide), ?_⟩
                intro p95 n99
                have e96 := Rx.Ext.new (H := H94) (o := (HO.tup [V.int x68.2, V.int x68.1])) n99
                have hp97 : upd H94 p95 (HO.tup [V.int x68.2, V.int x68.1]) p95 = some (HO.tup [V.int x68.2, V.int x68.1]) := upd_same
                generalize upd H94 p95 (HO.tup [V.int x68.2, V.int x68.1]) = H100 at e96 hp97 ⊢
                have h98 : rep (L57 :: (L6 :: ms)) H100 (D.tup [(D.v (V.int x68.2)), (D.v (V.int x68.1))]) (.ref p95) := rep_tup_mk hW n99 e96 hp97 (repL_cons rep_v (repL_cons rep_v repL_nil))
                replace h2 := rep_ext e96 h2
                replace hk20 := keep_ext e96 hk20
                replace h36 := rep_ext e96 h36
                replace hk62 := keep_ext e96 hk62
                replace h70 := rep_ext e96 h70
                replace hj89 := keep_ext e96 hj89
                replace mu76 := mo_ext e96 mu76
                replace mu63 := mo_ext e96 mu63
                replace hW := hW.ret0 e96
                exact ⟨(x68.2, x68.1), hM, hW, hj89, h98, mu76, mu63⟩
              · skip
                refine ⟨_, rfl, ?_⟩
                refine ⟨_, rfl, ?_⟩
                refine ⟨(by show 2 ≤ sizeLine; decide), ?_⟩
                intro p101 n105
                have e102 := Rx.Ext.new (H := H94) (o := (HO.tup [V.int x68.1, V.int x68.2])) n105
                have hp103 : upd H94 p101 (HO.tup [V.int x68.1, V.int x68.2]) p101 = some (HO.tup [V.int x68.1, V.int x68.2]) := upd_same
                generalize upd H94 p101 (HO.tup [V.int x68.1, V.int x68.2]) = H106 at e102 hp103 ⊢
                have h104 : rep (L57 :: (L6 :: ms)) H106 (D.tup [(D.v (V.int x68.1)), (D.v (V.int x68.2))]) (.ref p101) := rep_tup_mk hW n105 e102 hp103 (repL_cons rep_v (repL_cons rep_v repL_nil))
                replace h2 := rep_ext e102 h2
                replace hk20 := keep_ext e102 hk20
                replace h36 := rep_ext e102 h36
                replace hk62 := keep_ext e102 hk62
                replace h70 := rep_ext e102 h70
                replace hj89 := keep_ext e102 hj89
                replace mu76 := mo_ext e102 mu76
                replace mu63 := mo_ext e102 mu63
                replace hW := hW.ret0 e102
                exact ⟨(x68.1, x68.2), hM, hW, hj89, h104, mu76, mu63⟩
            · skip
              clear mu76
              clear mu63
              rintro u109 Hj88 ⟨r107, hr, hW, hj89, h108, mu110, mu111⟩
              replace hM := hKKB87 r107 hr
              replace h2 := rep_keep hj89 h2
              replace hk20 := Keep.trans hk20 hj89
              replace h36 := rep_keep hj89 h36
              replace hk62 := Keep.trans hk62 hj89
              replace h70 := rep_keep hj89 h70
              refine mo_end mu111 hn (by rw [List.length_map]; exact ln64) fun vs112 hr113 => ?_
              have mk115 := mo_setL mu111 (repL_snoc (e := (fun y_ : (Int × Int) => (D.tup [(D.v (V.int y_.1)), (D.v (V.int y_.2))]))) (xs := ys60) (y := r107) hr113 h108)
              replace mu110 := mo_put (o := .lst (vs112 ++ [u109])) mu111.im ne74 mu110
              replace h2 := rep_put (o := .lst (vs112 ++ [u109])) mu111.im h2
              replace hk20 := keep_put (o := .lst (vs112 ++ [u109])) mu111.im hk20
              replace h36 := rep_put (o := .lst (vs112 ++ [u109])) mu111.im h36
              replace hk62 := keep_put (o := .lst (vs112 ++ [u109])) mu111.im hk62
              replace h70 := rep_put (o := .lst (vs112 ++ [u109])) mu111.im h70
              replace h108 := rep_put (o := .lst (vs112 ++ [u109])) mu111.im h108
              replace hW := wd_put (o := .lst (vs112 ++ [u109])) hW mu111
              replace mu111 := mk115
              generalize upd Hj88 L57 (.lst (vs112 ++ [u109])) = H116 at *
              replace mu111 : MutO (L57 :: (L6 :: ms)) [(ap, none)] H_0 H116 L57 (D.lst ((ys60 ++ [r107]).map (fun y_ : (Int × Int) => (D.tup [(D.v (V.int y_.1)), (D.v (V.int y_.2))])))) := mu111
              clear mk115
              exact hN65 r107 _ hM ⟨hW, hk62, mu111, by rw [List.length_append]; exact Nat.add_le_add_right ln64 1, mu110⟩
          · skip
            clear mu27
            rintro n59 ys117 H118 hM ⟨hW, hk62, mu63, ln64, mu119⟩
            replace h2 := rep_keep hk62 (rep_new nl58 h2)
            replace hk20 := Keep.trans (Keep.new hk20) hk62
            replace h36 := rep_keep hk62 (rep_new nl58 h36)
            clear hk62 ln64
            have h120 := mo_rep_dr dr_here nm72 mu63
            replace hW := wd_dr dr_here mu63.hp hW
            replace h2 := rep_dr dr_here h2
            replace hk20 := keep_dr dr_here kn73 hk20
            replace h36 := rep_dr dr_here h36
            replace mu119 := mo_dr dr_here ne74 mu119
            clear mu63
            refine ⟨_, rfl, ?_⟩
            refine ⟨mo_tyL mu119, ?_⟩
            refine ⟨_, rfl, ?_⟩
            obtain ⟨g121, hM⟩ := hM
            apply mo_appU mu119 (by rw [List.length_map]; exact g121)
            intro vs122 hr124
            have mk126 := mo_setL mu119 (repL_snoc (e := (fun y_ : (List (Int × Int)) => (D.lst (y_.map (fun y_ : (Int × Int) => (D.tup [(D.v (V.int y_.1)), (D.v (V.int y_.2))])))))) (xs := s18) (y := ys117) hr124 h120)
            replace h2 := rep_put (o := .lst (vs122 ++ [(V.ref L57)])) mu119.im h2
            replace hk20 := keep_put (o := .lst (vs122 ++ [(V.ref L57)])) mu119.im hk20
            replace h36 := rep_put (o := .lst (vs122 ++ [(V.ref L57)])) mu119.im h36
            replace h120 := rep_put (o := .lst (vs122 ++ [(V.ref L57)])) mu119.im h120
            replace hW := wd_put (o := .lst (vs122 ++ [(V.ref L57)])) hW mu119
            replace mu119 := mk126
            generalize upd H118 L6 (.lst (vs122 ++ [(V.ref L57)])) = H127 at *
            replace mu119 : MutO (L6 :: ms) [(ap, none)] H_0 H127 L6 (D.lst ((s18 ++ [ys117]).map (fun y_ : (List (Int × Int)) => (D.lst (y_.map (fun y_ : (Int × Int) => (D.tup [(D.v (V.int y_.1)), (D.v (V.int y_.2))]))))))) := mu119
            clear mk126
            exact hN23 ((s18 ++ [ys117])) _ _ hM ⟨_, _, _, rfl, hW, hk20, mu119⟩
        · skip
          refine ⟨_, rfl, ?_⟩
          refine ⟨mo_tyL mu27, ?_⟩
          refine ⟨_, rfl, ?_⟩
          obtain ⟨g128, hM⟩ := hM
          apply mo_appU mu27 (by rw [List.length_map]; exact g128)
          intro vs129 hr131
          have mk133 := mo_setL mu27 (repL_snoc (e := (fun y_ : (List (Int × Int)) => (D.lst (y_.map (fun y_ : (Int × Int) => (D.tup [(D.v (V.int y_.1)), (D.v (V.int y_.2))])))))) (xs := s18) (y := r35) hr131 h36)
          replace h2 := rep_put (o := .lst (vs129 ++ [u38])) mu27.im h2
          replace hk20 := keep_put (o := .lst (vs129 ++ [u38])) mu27.im hk20
          replace h36 := rep_put (o := .lst (vs129 ++ [u38])) mu27.im h36
          replace hW := wd_put (o := .lst (vs129 ++ [u38])) hW mu27
          replace mu27 := mk133
          generalize upd H39 L6 (.lst (vs129 ++ [u38])) = H134 at *
          replace mu27 : MutO (L6 :: ms) [(ap, none)] H_0 H134 L6 (D.lst ((s18 ++ [r35]).map (fun y_ : (List (Int × Int)) => (D.lst (y_.map (fun y_ : (Int × Int) => (D.tup [(D.v (V.int y_.1)), (D.v (V.int y_.2))]))))))) := mu27
          clear mk133
          exact hN23 ((s18 ++ [r35])) _ _ hM ⟨_, _, _, rfl, hW, hk20, mu27⟩
    · skip
      clear mu9
      rintro s135 _ H141 hM ⟨w137, w138, w139, rfl, hW, hk136, mu140⟩
      replace h2 := rep_keep hk136 h2
      have h142 := mo_rep_dr dr_here nm8 mu140
      replace hW := wd_dr dr_here mu140.hp hW
      replace h2 := rep_dr dr_here h2
      clear mu140
      refine ⟨_, rfl, ?_⟩
      exact hQ s135 _ _ hM hW.out h142
def M_right (KM : Bool → Prop) : Prop :=
  (M_many  fun r1 => (forC (fun (x6 : Int) (s8 : Unit) (k9 : Unit → Prop) => (M_pairs_days r1 fun r16 => (M_days_right r16 r1 fun r21 => (if (!r21) = true then (KM false) else (k9 ()))))) (rangeI (0 : Int) (3 : Int)) () fun s26 => (M_circle r1 fun r30 => (M_mixed r30 fun r35 => (M_days_right r35 r1 fun r40 => (if (!r40) = true then (KM false) else (M_days r1 (9 : Int) fun r45 => (M_days_right r45 r1 fun r50 => (KM r50)))))))))
def sp_right (A : Ad) : Sp := fun vs H Q _ => ∃ (ms : List Addr) (ap : Addr) (KM : Bool → Prop), vs = [.ref ap] ∧ Wd ms [(ap, none)] [] H H ∧ M_right  KM ∧ ∀ (r : Bool) (u : V) (H1 : Hp), KM r → Ret [(ap, none)] H H1 → rep ms H1 (D.v (V.bl r)) u → Q u H1
set_option maxHeartbeats 16000000 in
theorem ok_right {P : Program} {w : World} {K : PySem.W.Frag} {mg : Str → Option Value} {base : Heap} {A : Ad} (T : Txt w K mg A) : FnG P w K mg base 8 A.a_right A.d_right ["_law_pot_here"] (sp_right A) := by
  refine okG T.F_right sc_right (fun vs H Q E h => ?_) (fun cdv A_ outer s_ H_0 vs Q E gu hr h => ?_)
  · obtain ⟨ms, ap, KM, rfl, _⟩ := h
    rfl
  · obtain ⟨ms, ap, KM, rfl, hW, hM, hQ⟩ := h
    unfold M_right at hM
    refine ⟨_, (pss_cons (ps_set (i := 1) sc_right.nd rfl (by first | exact Or.inl rfl | exact Or.inr rfl) (pe_call (ok_many T) (hr.mono (by decide)) (by rfl) T.g_many T.F_many.kp T.b_many .nil pass0 (pa_cons (pv 0) pa_nil))) (pss_cons (ps_for PassesOwn.never rfl (pi_rangeW1 (by rfl) T.z_range (pa_cons pe_int pa_nil)) (pg_name (i := 2) sc_right.nd rfl (by first | exact Or.inl rfl | exact Or.inr rfl)) (pss_one (ps_if (pt_not (pt_val (pe_callG (ok_days_right T) gu (hr.mono (by decide)) (by rfl) T.g_days_right T.F_days_right.kp T.b_days_right (pa_cons (pv 0) (pa_cons (pe_call (ok_pairs_days T) (hr.mono (by decide)) (by rfl) T.g_pairs_days T.F_pairs_days.kp T.b_pairs_days .nil pass0 (pa_cons (pv 0) (pa_cons (pv 1) pa_nil))) (pa_cons (pv 1) pa_nil)))))) (pss_one (ps_ret pe_bl)) pss_nil))) (pss_cons (ps_if (pt_not (pt_val (pe_callG (ok_days_right T) gu (hr.mono (by decide)) (by rfl) T.g_days_right T.F_days_right.kp T.b_days_right (pa_cons (pv 0) (pa_cons (pe_call (ok_mixed T) (hr.mono (by decide)) (by rfl) T.g_mixed T.F_mixed.kp T.b_mixed .nil pass0 (pa_cons (pv 0) (pa_cons (pe_call (ok_circle T) (hr.mono (by decide)) (by rfl) T.g_circle T.F_circle.kp T.b_circle .nil pass0 (pa_cons (pv 1) pa_nil)) pa_nil))) (pa_cons (pv 1) pa_nil)))))) (pss_one (ps_ret pe_bl)) pss_nil) (pss_one (ps_ret (pe_callG (ok_days_right T) gu (hr.mono (by decide)) (by rfl) T.g_days_right T.F_days_right.kp T.b_days_right (pa_cons (pv 0) (pa_cons (pe_call (ok_days T) (hr.mono (by decide)) (by rfl) T.g_days T.F_days.kp T.b_days .nil pass0 (pa_cons (pv 0) (pa_cons (pv 1) (pa_cons pe_int pa_nil)))) (pa_cons (pv 1) pa_nil))))))))), ?_⟩
    refine ⟨_, rfl, ?_⟩
    refine ⟨ms, ap, _, rfl, hW.enterP, hM, fun r1 u4 H5 hM e3 h2 => ?_⟩
    replace hW := hW.retP e3
    obtain rfl := of_v h2
    refine ⟨_, rfl, ?_⟩
    refine for_rangeG (S := Unit) (lo := (0 : Int)) (hi := (3 : Int)) (N := Int.toNat (3 : Int)) (fun (s : Unit) σ_ h_ => ∃ (w_0 : Option V), σ_ = [some (V.ref ap), some (V.int r1), w_0] ∧ Wd ms [(ap, none)] [] H_0 h_ ∧ Keep ms H5 h_) () (by simp) hM ⟨_, rfl, hW, Keep.refl⟩ ?_ ?_
    · skip
      rintro x6 s8 k9 _ H15 ⟨w14, rfl, hW, hk10⟩ hM Nx12 hN13
      refine ⟨_, rfl, ?_⟩
      refine ⟨_, rfl, ?_⟩
      refine ⟨_, rfl, ?_⟩
      refine ⟨ms, ap, r1, _, rfl, hW.enterP, hM, fun r16 u19 H20 hM e18 h17 => ?_⟩
      replace hk10 := keep_ret hW e18 hk10
      replace hW := hW.retP e18
      refine ⟨_, rfl, ?_⟩
      refine ⟨ms, ap, _, r16, r1, _, rfl, hW.enterP, h17, hM, fun r21 u24 H25 hM e23 h22 => ?_⟩
      replace hk10 := keep_ret hW e23 hk10
      replace h17 := rep_ret hW e23 h17
      replace hW := hW.retP e23
      obtain rfl := of_v h22
      refine ⟨_, rfl, ?_⟩
      refine ite3 hM (fun hM => ?_) (fun hM => ?_)
      · skip
        exact hQ false _ _ hM hW.out rep_v
      · skip
        exact hN13 () _ _ hM ⟨_, rfl, hW, hk10⟩
    · skip
      rintro s26 _ H29 hM ⟨w28, rfl, hW, hk27⟩
      refine ⟨_, rfl, ?_⟩
      refine ⟨_, rfl, ?_⟩
      refine ⟨_, rfl, ?_⟩
      refine ⟨ms, r1, _, rfl, hW.enter0, hM, fun r30 u33 H34 hM e32 h31 => ?_⟩
      replace hW := hW.ret0 e32
      refine ⟨ms, ap, _, r30, _, rfl, hW.enterP, h31, hM, fun r35 u38 H39 hM e37 h36 => ?_⟩
      replace h31 := rep_ret hW e37 h31
      replace hW := hW.retP e37
      refine ⟨_, rfl, ?_⟩
      refine ⟨ms, ap, _, r35, r1, _, rfl, hW.enterP, h36, hM, fun r40 u43 H44 hM e42 h41 => ?_⟩
      replace h31 := rep_ret hW e42 h31
      replace h36 := rep_ret hW e42 h36
      replace hW := hW.retP e42
      obtain rfl := of_v h41
      refine ⟨_, rfl, ?_⟩
      refine ite3 hM (fun hM => ?_) (fun hM => ?_)
      · skip
        exact hQ false _ _ hM hW.out rep_v
      · skip
        refine ⟨_, rfl, ?_⟩
        refine ⟨_, rfl, ?_⟩
        refine ⟨_, rfl, ?_⟩
        refine ⟨ms, ap, r1, (9 : Int), _, rfl, hW.enterP, hM, fun r45 u48 H49 hM e47 h46 => ?_⟩
        replace h31 := rep_ret hW e47 h31
        replace h36 := rep_ret hW e47 h36
        replace hW := hW.retP e47
        refine ⟨_, rfl, ?_⟩
        refine ⟨ms, ap, _, r45, r1, _, rfl, hW.enterP, h46, hM, fun r50 u53 H54 hM e52 h51 => ?_⟩
        replace h31 := rep_ret hW e52 h31
        replace h36 := rep_ret hW e52 h36
        replace h46 := rep_ret hW e52 h46
        replace hW := hW.retP e52
        obtain rfl := of_v h51
        exact hQ r50 _ _ hM hW.out rep_v
/-! ### the pot of a cell, and the law -/
def sp_pot (K : PySem.W.Frag) : Sp := fun vs H Q _ => ∃ (a : Addr) (ns : List Int) (k : Int), vs = [.ref a, .int k] ∧ SqL K H a (ns.map V.int) ∧ ns.length ≤ 63 ∧ 0 ≤ k ∧ k ≤ 100 ∧
  ∀ (p : Addr) (H1 : Hp) (i j : Int), H p = none → Rx.Ext H H1 → H1 p = some (.lst [.int i, .int j]) → j.natAbs < 4294967296 → Q (.ref p) H1
theorem ok_pot {P : Program} {w : World} {K : PySem.W.Frag} {mg : Str → Option Value} {base : Heap} {A : Ad} (T : Txt w K mg A) : FnOk P w K mg base CX0 1 A.a_pot A.d_pot ["_law_script", "_law_k"] (sp_pot K) := by
  refine T.F_pot.ok sc_pot (fun vs H Q E h => ?_) (fun cdv A_ outer s_ H_0 vs Q E hr h => ?_)
  · obtain ⟨a, ns, k, rfl, _⟩ := h
    rfl
  · obtain ⟨a, ns, k, rfl, hS, hl, k0, k1, hQ⟩ := h
    refine ⟨_, pss_cons (ps_set (i := 2) sc_pot.nd rfl (.inl rfl) (pe_op op_add (pe_op op_mul pe_int (pv 1)) pe_int))
      (pss_cons (ps_if (pt_cmpR op_lt (pv 1) (pe_callB call_len (by rfl) T.z_len PySem.boot_len (pa_cons (pv 0) pa_nil)) (nomark _))
        (pss_one (ps_set (i := 2) sc_pot.nd rfl (.inl rfl) (pe_callB call_abs (by rfl) T.z_abs (by decide +kernel) (pa_cons (pe_ix ix_list (pv 0) (pv 1) (fun _ _ => rfl)) pa_nil)))) pss_nil)
      (pss_one (ps_ret (pe_lst (pa_cons (pe_callB (call_max2 rfl) (by rfl) T.z_max (by decide +kernel) (pa_cons pe_int (pa_cons (pe_op op_sub (pv 2) (pe_op op_pow pe_int pe_int)) pa_nil)))
        (pa_cons (pe_op op_add (pe_op op_mod (pe_op op_mul (pe_callTy call_int1 (by rfl) T.z_int (by decide +kernel) (pa_cons (pe_op op_add (pe_op op_mod (pe_callTy call_int1 (by rfl) T.z_int (by decide +kernel) (pa_cons (pv 2) pa_nil)) pe_int) pe_int) pa_nil))
          (pe_op op_pow (pe_op op_add (pe_op op_mul pe_int (pv 1)) pe_int) pe_int)) pe_int) pe_int) pa_nil)))))), ?_⟩
    refine ⟨_, rfl, _, _, rfl, rfl, .inl ⟨by decide, by decide⟩, _, _, rfl, rfl, ?_⟩
    refine ⟨_, rfl, _, rfl, _, ns.length, rfl, .inl ⟨_, hS, by rw [List.length_map]⟩, _, _, rfl, rfl, _, rfl, ?_⟩
    have fin : ∀ (c : Int) (p : Addr) (x y : Int), H_0 p = none → Q (.ref p) (upd H_0 p (.lst [.int x, .int (y % 2147483477 + 1)])) := fun c p x y np =>
      hQ p _ _ _ np (Rx.Ext.new np) upd_same (by omega)
    refine ite2 (fun c => ?_) (fun c => ?_)
    · have hk : k.toNat < ns.length := by
        have := of_decide_eq_true c
        omega
      refine ⟨_, rfl, _, rfl, a, _, k, .int (ns[k.toNat]), rfl, rfl, hS, at_of (j := k.toNat) (by omega) (by rw [List.getElem?_map, List.getElem?_eq_getElem hk]; rfl), _, rfl, ?_⟩
      refine ⟨_, rfl, _, _, rfl, rfl, ⟨by decide, by decide, by decide⟩, _, _, rfl, rfl, _, _, rfl, _, rfl, .inl ⟨_, rfl, _, _, rfl, rfl, (by show (0 : Int) < 2147483549; decide), _, _, rfl, rfl, .inl ⟨_, rfl, _, rfl, _, _, rfl, rfl, .inl ⟨by decide, by decide⟩, _, _, rfl, rfl, _, _, rfl, rfl, ⟨by decide, by decide, by show (2 * k + 3).natAbs < 2 ^ 64; omega⟩, _, _, rfl, rfl, ?_, _, _, rfl, rfl, (by show (0 : Int) < 2147483477; decide), _, _, rfl, rfl, (by show 2 ≤ sizeLine; decide), fun p np => fin 0 p _ _ np⟩⟩⟩
      exact .inl ⟨by omega, by omega⟩
    · refine ⟨_, rfl, _, _, rfl, rfl, ⟨by decide, by decide, by decide⟩, _, _, rfl, rfl, _, _, rfl, _, rfl, .inl ⟨_, rfl, _, _, rfl, rfl, (by show (0 : Int) < 2147483549; decide), _, _, rfl, rfl, .inl ⟨_, rfl, _, rfl, _, _, rfl, rfl, .inl ⟨by decide, by decide⟩, _, _, rfl, rfl, _, _, rfl, rfl, ⟨by decide, by decide, by show (2 * k + 3).natAbs < 2 ^ 64; omega⟩, _, _, rfl, rfl, ?_, _, _, rfl, rfl, (by show (0 : Int) < 2147483477; decide), _, _, rfl, rfl, (by show 2 ≤ sizeLine; decide), fun p np => fin 0 p _ _ np⟩⟩⟩
      exact .inl ⟨by omega, by omega⟩

open Wm
set_option exponentiation.threshold 20000
/-! texts and comparisons -/
theorem ints_py (ns : List Int) : pyOf (D.lst (ns.map fun y => D.v (V.int y))) = .list (ns.map PyData.int) := by
  simp only [pyOf]
  congr 1
  induction ns with
  | nil => rfl
  | cons n ns ih =>
    rw [List.map_cons, List.map_cons]
    simp only [pyL, pyOf]
    rw [ih]
theorem ints_plain (ns : List Int) : plainD (D.lst (ns.map fun y => D.v (V.int y))) = true := by
  simp only [plainD]
  induction ns with
  | nil => rfl
  | cons n ns ih =>
    rw [List.map_cons]
    simp only [plainL, plainD, Bool.true_and]
    exact ih
theorem ints_shaped (ns : List Int) : SeqAt.shaped (pyOf (D.lst (ns.map fun y => D.v (V.int y)))) = true := by
  rw [ints_py]
  unfold SeqAt.shaped
  rw [Bool.and_eq_true]
  have h : ∀ ns : List Int, PyData.canLayAll0 (ns.map PyData.int) = true ∧ PyData.depthAll (ns.map PyData.int) ≤ 1 := by
    intro ns
    induction ns with
    | nil => exact ⟨rfl, by simp [PyData.depthAll]⟩
    | cons n ns ih =>
      refine ⟨?_, ?_⟩
      · rw [List.map_cons]
        simp only [PyData.canLayAll0, PyData.canLay0, Bool.true_and]
        exact ih.1
      · rw [List.map_cons]
        simp only [PyData.depthAll, PyData.depth]
        have := ih.2
        omega
  refine ⟨?_, ?_⟩
  · simp only [PyData.canLay0]
    exact (h ns).1
  · refine decide_eq_true ?_
    simp only [PyData.depth]
    have := (h ns).2
    omega
structure OkS (d : D) (k n : Nat) : Prop where
  pl : plainD d = true
  sw : (pyOf d).showable = true
  nd : (pyOf d).hasDict = false
  dp : (pyOf d).depth ≤ k
  ln : (pyOf d).shown.length ≤ n
  cl : (pyOf d).canLay0 = true
theorem OkS.rp {d : D} {k n : Nat} (h : OkS d k n) (hk : k ≤ 60) (hn : n ≤ 16777216) : plainD d = true ∧ (pyOf d).showable = true ∧ (pyOf d).hasDict = false ∧ (pyOf d).depth ≤ 60 ∧ (pyOf d).shown.length ≤ sizeLine :=
  ⟨h.pl, h.sw, h.nd, Nat.le_trans h.dp hk, by rw [sizeLine_eq]; exact Nat.le_trans h.ln hn⟩
theorem OkS.sh {d : D} {k n : Nat} (h : OkS d k n) (hk : k ≤ 60) : SeqAt.shaped (pyOf d) = true := by
  unfold SeqAt.shaped
  rw [h.cl, Bool.true_and]
  exact decide_eq_true (by have := h.dp; omega)
theorem OkS.rf {d : D} {k n : Nat} (h : OkS d k n) (hk : k ≤ 60) : PyData.eqv (pyOf d) (pyOf d) = true := SeqAt.eqv_refl _ (SeqAt.canLay_of_shaped (h.sh hk))
theorem OkS.mono {d : D} {k n k' n' : Nat} (h : OkS d k n) (hk : k ≤ k') (hn : n ≤ n') : OkS d k' n' := ⟨h.pl, h.sw, h.nd, Nat.le_trans h.dp hk, Nat.le_trans h.ln hn, h.cl⟩
theorem oks_int {i : Int} (h : i.natAbs < 2 ^ 1920) : OkS (D.v (V.int i)) 1 1921 := by
  have l : i.natAbs.log2 < 1920 := PySem.Flt.log2_lt_of (by decide) h
  refine ⟨rfl, decide_eq_true l, rfl, ?_, int_text_len_1921 l, rfl⟩
  simp [pyOf, PyData.depth]
theorem len_app (a b : Str) : (a ++ b).length = a.length + b.length := by
  rw [len_L, len_L, len_L, L_app, List.length_append]
theorem textFrom_le : ∀ {ts : List Str} {i : Nat} {acc : Str} {n : Nat}, (∀ t ∈ ts, t.length ≤ n) → (textFrom i acc ts).length ≤ acc.length + ts.length * (n + 2)
  | [], i, acc, n, _ => by
    show acc.length ≤ acc.length + 0 * (n + 2)
    omega
  | t :: ts, i, acc, n, h => by
    have h1 := h t List.mem_cons_self
    have ih := textFrom_le (ts := ts) (i := i + 1) (acc := acc ++ (if i > 0 then ", " else "" : String) ++ t) (n := n) fun t ht => h t (List.mem_cons_of_mem _ ht)
    show (textFrom (i + 1) (acc ++ (if i > 0 then ", " else "" : String) ++ t) ts).length ≤ _
    refine Nat.le_trans ih ?_
    have e : ((if i > 0 then ", " else "" : String) : Str).length ≤ 2 := by
      split <;> decide +kernel
    rw [len_app, len_app, List.length_cons, Nat.succ_mul]
    omega
theorem shownAll_len : ∀ ds : List D, (PyData.shownAll (pyL ds)).length = ds.length
  | [] => rfl
  | d :: ds => by
    simp only [pyL, PyData.shownAll, List.length_cons, shownAll_len ds]
theorem oks_all {k n : Nat} : ∀ {ds : List D}, (∀ d ∈ ds, OkS d k n) → plainL ds = true ∧ PyData.showableAll (pyL ds) = true ∧ PyData.hasDictAll (pyL ds) = false ∧ PyData.depthAll (pyL ds) ≤ k ∧ (∀ t ∈ PyData.shownAll (pyL ds), t.length ≤ n) ∧ PyData.canLayAll0 (pyL ds) = true
  | [], _ => ⟨rfl, rfl, rfl, by simp [pyL, PyData.depthAll], fun t ht => by simp [pyL, PyData.shownAll] at ht, rfl⟩
  | d :: ds, h => by
    obtain ⟨a1, a2, a3, a4, a5, a6⟩ := oks_all (ds := ds) fun e he => h e (List.mem_cons_of_mem _ he)
    have hd := h d List.mem_cons_self
    refine ⟨?_, ?_, ?_, ?_, ?_, ?_⟩
    · simp only [plainL, hd.pl, a1, Bool.and_self]
    · simp only [pyL, PyData.showableAll, hd.sw, a2, Bool.and_self]
    · simp only [pyL, PyData.hasDictAll, hd.nd, a3, Bool.or_self]
    · simp only [pyL, PyData.depthAll]
      have := hd.dp
      omega
    · intro t ht
      simp only [pyL, PyData.shownAll, List.mem_cons] at ht
      rcases ht with rfl | ht
      · exact hd.ln
      · exact a5 t ht
    · simp only [pyL, PyData.canLayAll0, hd.cl, a6, Bool.and_self]
theorem oks_lst {ds : List D} {k n m : Nat} (h : ∀ d ∈ ds, OkS d k n) (hm : ds.length ≤ m) : OkS (D.lst ds) (k + 1) (m * (n + 2) + 2) := by
  obtain ⟨a1, a2, a3, a4, a5, a6⟩ := oks_all h
  refine ⟨?_, ?_, ?_, ?_, ?_, ?_⟩
  · simp only [plainD]; exact a1
  · simp only [pyOf, PyData.showable]; exact a2
  · simp only [pyOf, PyData.hasDict]; exact a3
  · simp only [pyOf, PyData.depth]; omega
  · simp only [pyOf, PyData.shown]
    unfold listText
    rw [len_app]
    have t := textFrom_le (i := 0) (acc := "[") a5
    rw [shownAll_len] at t
    have l1 : (("[" : String) : Str).length = 1 := by decide +kernel
    have l2 : (("]" : String) : Str).length = 1 := by decide +kernel
    have : ds.length * (n + 2) ≤ m * (n + 2) := Nat.mul_le_mul_right _ hm
    first
      | omega
      | (show (textFrom 0 ("[" : Str) _).length + ("]" : Str).length ≤ _; have l3 : ("[" : Str).length = 1 := by decide +kernel; have l4 : ("]" : Str).length = 1 := by decide +kernel; omega)
  · simp only [pyOf, PyData.canLay0]; exact a6
theorem oks_map {α : Type} {e : α → D} {xs : List α} {k n m : Nat} (h : ∀ x ∈ xs, OkS (e x) k n) (hm : xs.length ≤ m) : OkS (D.lst (xs.map e)) (k + 1) (m * (n + 2) + 2) :=
  oks_lst (fun d hd => by
    obtain ⟨x, hx, rfl⟩ := List.mem_map.mp hd
    exact h x hx) (by rw [List.length_map]; exact hm)
theorem piled_le : ∀ {ts : List Str} {n : Nat}, (∀ t ∈ ts, t.length ≤ n) → piled ts ≤ ts.length * (n + 2)
  | [], n, _ => by
    rw [piled_nil]
    exact Nat.zero_le _
  | t :: ts, n, h => by
    have := piled_le (ts := ts) (n := n) fun x hx => h x (List.mem_cons_of_mem _ hx)
    have := h t List.mem_cons_self
    rw [piled_cons, List.length_cons, Nat.succ_mul]
    omega
theorem tup_text (ts : List Str) : (tupleText ts).length ≤ piled ts + 2 := by
  have e3 : (((if ts.length == 1 then ",)" else ")" : String) : Str)).length ≤ 2 := by split <;> decide +kernel
  have e1 : ((("(" : String) : Str)).length = 1 := rfl
  unfold tupleText
  rw [strLen_append, strLen_append, e1]
  by_cases h : ts = []
  · subst h
    decide +kernel
  · have := join_length_add ts h
    omega
theorem oks_tup {ds : List D} {k n m : Nat} (h : ∀ d ∈ ds, OkS d k n) (hm : ds.length ≤ m) : OkS (D.tup ds) (k + 1) (m * (n + 2) + 2) := by
  obtain ⟨a1, a2, a3, a4, a5, a6⟩ := oks_all h
  refine ⟨?_, ?_, ?_, ?_, ?_, ?_⟩
  · simp only [plainD]; exact a1
  · simp only [pyOf, PyData.showable]; exact a2
  · simp only [pyOf, PyData.hasDict]; exact a3
  · simp only [pyOf, PyData.depth]; omega
  · simp only [pyOf, PyData.shown]
    have t := tup_text (PyData.shownAll (pyL ds))
    have p := piled_le a5
    rw [shownAll_len] at p
    have : ds.length * (n + 2) ≤ m * (n + 2) := Nat.mul_le_mul_right _ hm
    omega
  · simp only [pyOf, PyData.canLay0]; exact a6
theorem line_of {z : Str} {n : Nat} (h : (L z).length ≤ n) (hn : n ≤ 100000) : z.length ≤ sizeLine := by
  rw [len_L]
  exact Nat.le_trans h (Nat.le_trans hn (by decide))
theorem draw_ok {n : Int} {k : Int → Prop} (h0 : 0 < n) (h1 : n < 1073741824) (q : ∀ d, 0 ≤ d → d < n → k d) : M_draw n k := ⟨⟨h0, h1⟩, q⟩
theorem str1 (c : Nat) : (Str.mk #[c]).length = 1 := rfl
abbrev eI (y : Int) : D := D.v (V.int y)
theorem eqv_iI : ∀ {xs ys : List Int}, PyData.eqvAll (pyL (xs.map eI)) (pyL (ys.map eI)) = decide (xs = ys)
  | [], [] => by simp [pyL, PyData.eqvAll]
  | [], y :: ys => by simp [pyL, PyData.eqvAll]
  | x :: xs, [] => by simp [pyL, PyData.eqvAll]
  | x :: xs, y :: ys => by
    simp only [List.map_cons, pyL, PyData.eqvAll, pyOf, PyData.eqv, eqv_iI]
    by_cases a : x = y <;> by_cases b : xs = ys <;> simp [a, b]
theorem eqv_int {xs ys : List Int} : PyData.eqv (pyOf (D.lst (xs.map eI))) (pyOf (D.lst (ys.map eI))) = decide (xs = ys) := by
  simp only [pyOf, PyData.eqv]
  exact eqv_iI
theorem getD_at {l : List Int} {i : Nat} (h : i < l.length) : l[i]'h = l.getD i 0 := by
  rw [List.getD_eq_getElem?_getD, List.getElem?_eq_getElem h]
  rfl
theorem same4 (a b : List Int) : plainD (D.lst (a.map (fun y_ : Int => (D.v (V.int y_))))) = true ∧ plainD (D.lst (b.map (fun y_ : Int => (D.v (V.int y_))))) = true ∧ SeqAt.shaped (pyOf (D.lst (a.map (fun y_ : Int => (D.v (V.int y_)))))) = true ∧ SeqAt.shaped (pyOf (D.lst (b.map (fun y_ : Int => (D.v (V.int y_)))))) = true :=
  ⟨ints_plain a, ints_plain b, ints_shaped a, ints_shaped b⟩
theorem eqv_t {a b : List Int} (e : a = b) : PyData.eqv (pyOf (D.lst (a.map (fun y_ : Int => (D.v (V.int y_)))))) (pyOf (D.lst (b.map (fun y_ : Int => (D.v (V.int y_)))))) = true := by
  rw [eqv_int]
  exact decide_eq_true e
theorem nI {a b : Int} (e : a = b) : ¬ (!(decide (V.int a = V.int b))) = true := by
  subst e
  simp
mutual
theorem px_of : ∀ d : D, plainD d = true → plainX d = true ∧ pyX d = pyOf d
  | .v x, h => by cases x <;> simp_all [plainD, plainX, pyX, pyOf]
  | .lst ds, h => by
    have := pxs_of ds (by simpa [plainD] using h)
    exact ⟨by simpa [plainX] using this.1, by simp [pyX, pyOf, this.2]⟩
  | .tup ds, h => by
    have := pxs_of ds (by simpa [plainD] using h)
    exact ⟨by simpa [plainX] using this.1, by simp [pyX, pyOf, this.2]⟩
  | .ins _ _ _, h => by simp [plainD] at h
  | .dct _ _, h => by simp [plainD] at h
  | .dcT _ _, h => by simp [plainD] at h
theorem pxs_of : ∀ ds : List D, plainL ds = true → plainXs ds = true ∧ pyXs ds = pyL ds
  | [], _ => ⟨rfl, rfl⟩
  | d :: ds, h => by
    simp only [plainL, Bool.and_eq_true] at h
    have a := px_of d h.1
    have b := pxs_of ds h.2
    exact ⟨by simp [plainXs, a.1, b.1], by simp [pyXs, pyL, a.2, b.2]⟩
end
theorem OkS.tx {d : D} {k n : Nat} (h : OkS d k n) (hk : k ≤ 60) (hn : n ≤ 16777216) : plainX d = true ∧ (pyX d).showable = true ∧ (pyX d).depth ≤ 60 ∧ (pyX d).shown.length ≤ sizeLine := by
  have r := h.rp hk hn
  have p := px_of d r.1
  rw [p.2]
  exact ⟨p.1, r.2.1, r.2.2.2.1, r.2.2.2.2⟩
abbrev tp (y : Int × Int) : D := D.tup [(D.v (V.int y.1)), (D.v (V.int y.2))]
theorem tps : ∀ ys : List (Int × Int), plainL (ys.map tp) = true ∧ PyData.canLayAll0 (pyL (ys.map tp)) = true ∧ PyData.depthAll (pyL (ys.map tp)) ≤ 3
  | [] => ⟨rfl, rfl, by simp [pyL, PyData.depthAll]⟩
  | y :: ys => by
    obtain ⟨a, b, c⟩ := tps ys
    refine ⟨?_, ?_, ?_⟩
    · simp only [List.map_cons, plainL, a, Bool.and_true]
      rfl
    · simp only [List.map_cons, pyL, PyData.canLayAll0, b, Bool.and_true]
      rfl
    · simp only [List.map_cons, pyL, PyData.depthAll]
      have : (pyOf (tp y)).depth ≤ 3 := by simp [pyOf, pyL, PyData.depth, PyData.depthAll]
      omega
theorem tp_sh (y : Int × Int) : SeqAt.shaped (pyOf (tp y)) = true := by
  unfold SeqAt.shaped
  have h1 : (pyOf (tp y)).canLay0 = true := rfl
  have h2 : (pyOf (tp y)).depth ≤ 3 := by simp [pyOf, pyL, PyData.depth, PyData.depthAll]
  rw [h1, Bool.true_and]
  exact decide_eq_true (by omega)
theorem tps_sh (ys : List (Int × Int)) : plainD (D.lst (ys.map tp)) = true ∧ SeqAt.shaped (pyOf (D.lst (ys.map tp))) = true := by
  obtain ⟨a, b, c⟩ := tps ys
  refine ⟨by simp only [plainD]; exact a, ?_⟩
  unfold SeqAt.shaped
  have h1 : (pyOf (D.lst (ys.map tp))).canLay0 = true := by simp only [pyOf, PyData.canLay0]; exact b
  have h2 : (pyOf (D.lst (ys.map tp))).depth ≤ 4 := by simp only [pyOf, PyData.depth]; omega
  rw [h1, Bool.true_and]
  exact decide_eq_true (by omega)
theorem in_tps {y : Int × Int} {ys : List (Int × Int)} (h : y ∈ ys) : inDv (tp y) (ys.map tp) = true := by
  unfold inDv
  induction ys with
  | nil => exact absurd h List.not_mem_nil
  | cons x xs ih =>
    simp only [List.map_cons, pyL, List.any_cons]
    rcases List.mem_cons.mp h with rfl | h
    · rw [SeqAt.eqv_refl _ (SeqAt.canLay_of_shaped (tp_sh y)), Bool.true_or]
    · rw [ih h, Bool.or_true]
theorem eqv_tp {p q : Int × Int} : PyData.eqv (pyOf (tp p)) (pyOf (tp q)) = true ↔ p = q := by
  simp only [pyOf, pyL, PyData.eqv, PyData.eqvAll, Bool.and_true, Bool.and_eq_true, beq_iff_eq]
  constructor
  · intro h
    exact Prod.ext h.1 h.2
  · rintro rfl
    exact ⟨rfl, rfl⟩
theorem inDv_tps {y : Int × Int} {ys : List (Int × Int)} : inDv (tp y) (ys.map tp) = true ↔ y ∈ ys := by
  refine ⟨fun h => ?_, in_tps⟩
  unfold inDv at h
  induction ys with
  | nil => simp [pyL] at h
  | cons x xs ih =>
    simp only [List.map_cons, pyL, List.any_cons, Bool.or_eq_true] at h
    rcases h with h | h
    · rw [eqv_tp.mp h]
      exact List.mem_cons_self
    · exact List.mem_cons_of_mem _ (ih h)
/-! the tables -/
theorem sorted_perm : ∀ {xs ys : List Int}, ys.Perm xs → xs.Pairwise (· ≤ ·) → ys.Pairwise (· ≤ ·) → ys = xs := fun {xs ys} p h1 h2 => p.eq_of_pairwise (fun a b _ _ h3 h4 => Int.le_antisymm h3 h4) h2 h1
def Al {α β : Type} (R : α → β → Prop) : List α → List β → Prop
  | [], [] => True
  | x :: xs, y :: ys => R x y ∧ Al R xs ys
  | _, _ => False
theorem mapC_rel {α β : Type} {body : α → (β → Prop) → Prop} {k : List β → Prop} (R : α → β → Prop) : ∀ {xs : List α} {acc : List β}, (∀ x ∈ xs, ∀ k' : β → Prop, (∀ y, R x y → k' y) → body x k') → (∀ ys : List β, Al R xs ys → k (acc ++ ys)) → mapC body xs acc k
  | [], acc, _, q => by
    have := q [] trivial
    rw [List.append_nil] at this
    exact this
  | x :: xs, acc, h, q => h x List.mem_cons_self _ fun y hy => mapC_rel R (fun z hz => h z (List.mem_cons_of_mem _ hz)) fun ys hl => by
    rw [List.append_assoc]
    exact q (y :: ys) ⟨hy, hl⟩
theorem al_len {α β : Type} {R : α → β → Prop} : ∀ {xs : List α} {ys : List β}, Al R xs ys → ys.length = xs.length
  | [], [], _ => rfl
  | _ :: _, _ :: _, h => congrArg Nat.succ (al_len h.2)
  | [], _ :: _, h => h.elim
  | _ :: _, [], h => h.elim
theorem al_mem {α β : Type} {R : α → β → Prop} : ∀ {xs : List α} {ys : List β}, Al R xs ys → ∀ y ∈ ys, ∃ x ∈ xs, R x y
  | [], [], _, y, h => absurd h List.not_mem_nil
  | x :: _, y :: _, h, z, hz => by
    rcases List.mem_cons.mp hz with rfl | hz
    · exact ⟨x, List.mem_cons_self, h.1⟩
    · obtain ⟨w, hw, r⟩ := al_mem h.2 z hz
      exact ⟨w, List.mem_cons_of_mem _ hw, r⟩
  | [], _ :: _, h, _, _ => h.elim
  | _ :: _, [], h, _, _ => h.elim
theorem forC_idx {α S : Type} {body : α → S → (S → Prop) → Prop} {k : S → Prop} (I : Nat → S → Prop) : ∀ {xs : List α} {n : Nat} {s0 : S}, (∀ x ∈ xs, ∀ (i : Nat) (s : S) (k' : S → Prop), I i s → (∀ s', I (i + 1) s' → k' s') → i < n + xs.length → body x s k') → I n s0 → (∀ s, I (n + xs.length) s → k s) → forC body xs s0 k
  | [], n, s0, _, i, q => q s0 i
  | x :: xs, n, s0, h, i, q => h x List.mem_cons_self n s0 _ i (fun s' i' => forC_idx I (n := n + 1) (fun y hy j s k' a b c => h y (List.mem_cons_of_mem _ hy) j s k' a b (by rw [List.length_cons]; omega)) i' fun s hs => q s (by rw [List.length_cons, Nat.add_comm xs.length, ← Nat.add_assoc]; exact hs)) (by rw [List.length_cons]; omega)
theorem pick_ok {xs : List Int} (h0 : 0 < xs.length) (h1 : xs.length < 1073741824) {k : Int → Prop} (q : ∀ x ∈ xs, k x) : M_pick xs k := by
  refine draw_ok (by omega) (by omega) fun d d0 d1 => ⟨d0, by omega, ?_⟩
  rintro _ rfl
  exact q _ (List.getElem_mem _)
theorem many_ok {k : Int → Prop} (q : ∀ n : Nat, 2 ≤ n → n ≤ 12 → k (2 * (n : Int))) : M_many k := by
  refine draw_ok (by decide) (by decide) fun d d0 d1 => pick_ok (by simp) (by simp) fun x hx => ?_
  have h : ∃ n : Nat, 2 ≤ n ∧ n ≤ 12 ∧ x = 2 * (n : Int) := by
    simp only [List.mem_cons, List.mem_nil_iff, or_false] at hx
    refine ⟨(x / 2).toNat, ?_, ?_, ?_⟩ <;> omega
  obtain ⟨n, h1, h2, rfl⟩ := h
  exact q n h1 h2
theorem er_perm {α : Type} : ∀ (l : List α) (i : Nat) (h : i < l.length), (l[i]'h :: l.eraseIdx i).Perm l
  | [], i, h => by simp at h
  | a :: l, 0, _ => List.Perm.refl _
  | a :: l, i + 1, h => by
    have ih := er_perm l i (by simpa using h)
    show ((l[i]'(by simpa using h)) :: a :: l.eraseIdx i).Perm (a :: l)
    exact (List.Perm.swap _ _ _).trans (ih.cons a)
theorem mixed_go {α : Type} {k : List α → Prop} {xs : List α} (q : ∀ ys : List α, ys.Perm xs → k ys) (hx : xs.length ≤ 1000) : ∀ (is : List Int) (rest found : List α), is.length = rest.length → (found ++ rest).Perm xs →
    forC (fun (x20 : Int) (s22 : (List α) × (List α)) (k23 : ((List α) × (List α)) → Prop) => (M_draw (s22.1.length : Int) fun r32 => ((0 ≤ r32 ∧ r32 < 2 ^ 63) ∧ ∃ y42, s22.1[Int.toNat r32]? = some y42 ∧ (s22.2.length < 16777216 ∧ (k23 ((s22.1.eraseIdx (Int.toNat r32)), (s22.2 ++ [y42]))))))) is (rest, found) fun s55 => k s55.2
  | [], rest, found, hl, p => by
    have : rest = [] := List.eq_nil_of_length_eq_zero hl.symm
    subst this
    rw [List.append_nil] at p
    exact q found p
  | i :: is, rest, found, hl, p => by
    have hp := p.length_eq
    rw [List.length_append] at hp
    rw [List.length_cons] at hl
    refine draw_ok (n := (rest.length : Int)) (by omega) (by omega) fun d d0 d1 => ⟨⟨d0, by omega⟩, rest[d.toNat]'(by omega), List.getElem?_eq_getElem _, by show found.length < _; omega, ?_⟩
    refine mixed_go q hx is (rest.eraseIdx d.toNat) (found ++ [rest[d.toNat]'(by omega)]) ?_ ?_
    · rw [List.length_eraseIdx, if_pos (by omega)]
      omega
    · refine List.Perm.trans ?_ p
      rw [List.append_assoc]
      refine List.Perm.append_left _ ?_
      exact er_perm rest d.toNat (by omega)
theorem mixed_ok {xs : List Int} {k : List Int → Prop} (hx : xs.length ≤ 1000) (q : ∀ ys : List Int, ys.Perm xs → k ys) : M_mixed_pli xs k := by
  unfold M_mixed_pli
  refine mixed_go q hx _ _ _ ?_ (by simp)
  rw [rangeI_len]
  simp
theorem mixedL_ok {xs : List (List (Int × Int))} {k : List (List (Int × Int)) → Prop} (hx : xs.length ≤ 1000) (q : ∀ ys : List (List (Int × Int)), ys.Perm xs → k ys) : M_mixed xs k := by
  unfold M_mixed
  refine mixed_go q hx _ _ _ ?_ (by simp)
  rw [rangeI_len]
  simp
theorem mixedP_ok {xs : List (Int × Int)} {k : List (Int × Int) → Prop} (hx : xs.length ≤ 1000) (q : ∀ ys : List (Int × Int), ys.Perm xs → k ys) : M_mixed_pltii xs k := by
  unfold M_mixed_pltii
  refine mixed_go q hx _ _ _ ?_ (by simp)
  rw [rangeI_len]
  simp
abbrev two (y : Int × Int) : List Int := [y.1, y.2]
theorem pairs_flat : ∀ (h : Nat) (l : List Int), l.length = 2 * h → ((List.range h).map fun i => (l.getD (2 * i) 0, l.getD (2 * i + 1) 0)).flatMap two = l
  | 0, l, hl => by
    have : l = [] := List.eq_nil_of_length_eq_zero (by omega)
    subst this
    rfl
  | h + 1, a :: b :: l, hl => by
    have ih := pairs_flat h l (by simp at hl; omega)
    rw [List.range_succ_eq_map, List.map_cons, List.map_map, List.flatMap_cons]
    show [a, b] ++ _ = a :: b :: l
    have e : (List.range h).map ((fun i => ((a :: b :: l).getD (2 * i) 0, (a :: b :: l).getD (2 * i + 1) 0)) ∘ Nat.succ) = (List.range h).map fun i => (l.getD (2 * i) 0, l.getD (2 * i + 1) 0) := by
      refine List.map_congr_left fun i _ => ?_
      show ((a :: b :: l).getD (2 * (i + 1)) 0, (a :: b :: l).getD (2 * (i + 1) + 1) 0) = _
      rw [show 2 * (i + 1) = 2 * i + 1 + 1 from by omega]
      rfl
    rw [e, ih]
    rfl
  | h + 1, [], hl => by simp at hl
  | h + 1, [_], hl => by simp at hl; omega
structure DV (n : Nat) (m : List (Int × Int)) : Prop where
  len : m.length = n
  all : (m.flatMap two).Perm (rangeI 0 (2 * (n : Int)))
theorem day_ok {n : Nat} (h1 : 2 ≤ n) (h2 : n ≤ 12) {k : List (Int × Int) → Prop} (q : ∀ m, DV n m → k m) : M_day (2 * (n : Int)) k := by
  unfold M_day
  refine ⟨?_, mixed_ok (by rw [rangeI_len]; omega) fun r hr => ?_⟩
  · first | exact ⟨by omega, by omega⟩ | (unfold RgOk; omega) | (unfold RgOk; refine ⟨?_, ?_⟩ <;> omega)
  have hl := hr.length_eq
  rw [rangeI_len] at hl
  have hl2 : r.length = 2 * n := by omega
  refine ⟨by rw [rangeI_len]; omega, ?_⟩
  refine mapC_ok (fun x => (r.getD (2 * x.toNat) 0, r.getD (2 * x.toNat + 1) 0)) (fun x hx k' hk => ?_) ?_
  · have b := rangeI_mem hx
    refine ⟨by omega, by omega, ?_⟩
    rintro _ rfl
    refine ⟨by omega, by omega, ?_⟩
    rintro _ rfl
    have g1 := getD_at (l := r) (i := (2 * x).toNat) (by omega)
    have g2 := getD_at (l := r) (i := (2 * x + 1).toNat) (by omega)
    rw [g1, g2, show (2 * x).toNat = 2 * x.toNat from by omega, show (2 * x + 1).toNat = 2 * x.toNat + 1 from by omega]
    exact hk
  · rw [List.nil_append]
    have e : (rangeI 0 (2 * (n : Int) / 2)).map (fun x => (r.getD (2 * x.toNat) 0, r.getD (2 * x.toNat + 1) 0)) = (List.range n).map fun i => (r.getD (2 * i) 0, r.getD (2 * i + 1) 0) := by
      unfold rangeI
      rw [List.map_map, show (2 * (n : Int) / 2 - 0).toNat = n from by omega]
      refine List.map_congr_left fun i _ => ?_
      show (r.getD (2 * (0 + (i : Int)).toNat) 0, r.getD (2 * (0 + (i : Int)).toNat + 1) 0) = _
      rw [show (0 + (i : Int)).toNat = i from by omega]
    rw [e]
    refine q _ ⟨by simp, ?_⟩
    rw [pairs_flat n r hl2]
    exact hr
theorem turned_dv {n : Nat} : ∀ {xs ys : List (Int × Int)}, Al (fun x y => y = (x.2, x.1) ∨ y = (x.1, x.2)) xs ys → (ys.flatMap two).Perm (xs.flatMap two)
  | [], [], _ => List.Perm.refl _
  | x :: xs, y :: ys, h => by
    rw [List.flatMap_cons, List.flatMap_cons]
    refine List.Perm.append ?_ (turned_dv (n := n) h.2)
    rcases h.1 with e | e
    · rw [e]
      exact List.Perm.swap _ _ _
    · rw [e]
  | [], _ :: _, h => h.elim
  | _ :: _, [], h => h.elim
theorem days_ok {n : Nat} (h1 : 2 ≤ n) (h2 : n ≤ 12) {most : Int} (b1 : 1 ≤ most) (b2 : most ≤ 13) {k : List (List (Int × Int)) → Prop} (q : ∀ ds : List (List (Int × Int)), 0 < ds.length → ds.length ≤ 14 → (∀ d ∈ ds, DV n d) → k ds) : M_days (2 * (n : Int)) most k := by
  unfold M_days
  refine day_ok h1 h2 fun d0 hd0 => draw_ok (by omega) (by omega) fun r r0 r1 => ?_
  refine forC_idx (fun i (s : List (List (Int × Int))) => s.length = i + 1 ∧ ∀ d ∈ s, DV n d) (n := 0) (fun x hx i s k' hs hk hi => ?_) ⟨rfl, fun d hd => by rw [List.mem_singleton.mp hd]; exact hd0⟩ fun s hs => ?_
  · rw [rangeI_len] at hi
    have l := hs.1
    have add : ∀ d, DV n d → (s ++ [d]).length = i + 1 + 1 ∧ ∀ e ∈ s ++ [d], DV n e := fun d hd => ⟨by simp [l], fun e he => by
      rcases List.mem_append.mp he with z | z
      · exact hs.2 e z
      · rw [List.mem_singleton.mp z]
        exact hd⟩
    refine draw_ok (by decide) (by decide) fun w w0 w1 => ⟨by omega, ?_⟩
    refine draw_ok (by omega) (by omega) fun p p0 p1 => ⟨p0, by omega, ?_⟩
    rintro _ rfl
    have hn := hs.2 _ (List.getElem_mem (l := s) (n := p.toNat) (by omega))
    generalize s[p.toNat]'(by omega) = near at hn
    by_cases c1 : w < 2
    · rw [if_pos (by simpa using c1)]
      exact day_ok h1 h2 fun d hd => ⟨by omega, hk _ (add d hd)⟩
    rw [if_neg (by simpa using c1)]
    by_cases c2 : w = 2
    · rw [if_pos (by rw [c2]; rfl)]
      refine ⟨by have := hn.len; omega, ?_⟩
      refine mapC_rel (fun x y => y = (x.2, x.1) ∨ y = (x.1, x.2)) (fun x hx k' hk' => ?_) fun ys hy => ⟨by omega, hk _ (add _ ⟨by rw [List.nil_append, al_len hy]; exact hn.len, (turned_dv (n := n) hy).trans hn.all⟩)⟩
      refine ⟨fun y => y = (x.2, x.1) ∨ y = (x.1, x.2), draw_ok (by decide) (by decide) fun z z0 z1 => ?_, fun y hy => hk' y hy⟩
      by_cases c3 : z = 0
      · rw [if_pos (by rw [c3]; rfl)]
        exact .inl rfl
      · rw [if_neg (by rw [eqI]; simpa using c3)]
        exact .inr rfl
    · rw [if_neg (by rw [eqI]; simpa using c2)]
      exact ⟨by omega, hk _ (add _ hn)⟩
  · rw [rangeI_len] at hs
    exact q s (by have := hs.1; omega) (by have := hs.1; omega) hs.2

theorem le_anti {a b : Int × Int} (h1 : lePI a b) (h2 : lePI b a) : a = b := by
  unfold lePI at h1 h2
  exact Prod.ext (by omega) (by omega)
theorem srt_uniq {xs ys zs : List (Int × Int)} (p : ys.Perm xs) (q : zs.Perm xs) (h1 : ys.Pairwise lePI) (h2 : zs.Pairwise lePI) : ys = zs := (p.trans q.symm).eq_of_pairwise (fun a b _ _ h3 h4 => le_anti h3 h4) h1 h2
abbrev TB (ds tb : List (List (Int × Int))) : Prop := Al (fun d t => t.Perm d ∧ t.Pairwise lePI) ds tb
abbrev PE (ds es : List (List (Int × Int))) : Prop := Al (fun d e => e.Perm d) ds es
theorem tb_uniq : ∀ {ds a b : List (List (Int × Int))}, TB ds a → TB ds b → a = b
  | [], [], [], _, _ => rfl
  | d :: ds, x :: a, y :: b, h, g => by rw [srt_uniq h.1.1 g.1.1 h.1.2 g.1.2, tb_uniq h.2 g.2]
  | [], _ :: _, _, h, _ => h.elim
  | [], _, _ :: _, _, g => g.elim
  | _ :: _, [], _, h, _ => h.elim
  | _ :: _, _, [], _, g => g.elim
theorem tb_pe : ∀ {ds es tb : List (List (Int × Int))}, PE ds es → TB es tb → TB ds tb
  | [], [], [], _, _ => trivial
  | d :: ds, e :: es, t :: tb, h, g => ⟨⟨g.1.1.trans h.1, g.1.2⟩, tb_pe h.2 g.2⟩
  | [], [], _ :: _, _, g => g.elim
  | [], _ :: _, _, h, _ => h.elim
  | _ :: _, [], _, h, _ => h.elim
  | _ :: _, _ :: _, [], _, g => g.elim
theorem tb_to : ∀ {ds tb : List (List (Int × Int))}, TB ds tb → PE ds tb
  | [], [], _ => trivial
  | d :: ds, t :: tb, h => ⟨h.1.1, tb_to h.2⟩
  | [], _ :: _, h => h.elim
  | _ :: _, [], h => h.elim
structure OKD (n : Nat) (ds : List (List (Int × Int))) : Prop where
  n1 : 2 ≤ n
  n2 : n ≤ 12
  pos : 0 < ds.length
  len : ds.length ≤ 30
  dv : ∀ d ∈ ds, DV n d
theorem OKD.pe {n : Nat} {ds es : List (List (Int × Int))} (h : OKD n ds) (p : PE ds es) : OKD n es := by
  have l := al_len p
  refine ⟨h.n1, h.n2, by rw [l]; exact h.pos, by rw [l]; exact h.len, fun e he => ?_⟩
  obtain ⟨d, hd, q⟩ := al_mem p e he
  have hv := h.dv d hd
  exact ⟨by rw [q.length_eq]; exact hv.len, (q.flatMap_right two).trans hv.all⟩
theorem OKD.tb {n : Nat} {ds tb : List (List (Int × Int))} (h : OKD n ds) (p : TB ds tb) : OKD n tb := h.pe (tb_to p)
theorem al_map {α β γ : Type} {R : α → β → Prop} {f : γ → β} : ∀ {xs : List α} {ys : List γ}, Al (fun x y => R x (f y)) xs ys → Al R xs (ys.map f)
  | [], [], _ => trivial
  | _ :: _, _ :: _, h => ⟨h.1, al_map h.2⟩
  | [], _ :: _, h => h.elim
  | _ :: _, [], h => h.elim
theorem forC_al {α β : Type} {body : α → List β → (List β → Prop) → Prop} {k : List β → Prop} (R : α → β → Prop) : ∀ {xs : List α} {s0 : List β}, (∀ x ∈ xs, ∀ (s : List β) (k' : List β → Prop), s.length < s0.length + xs.length → (∀ y, R x y → k' (s ++ [y])) → body x s k') → (∀ ys, Al R xs ys → k (s0 ++ ys)) → forC body xs s0 k
  | [], s0, _, q => by
    have := q [] trivial
    rw [List.append_nil] at this
    exact this
  | x :: xs, s0, h, q => h x List.mem_cons_self s0 _ (by rw [List.length_cons]; omega) fun y hy => forC_al R (s0 := s0 ++ [y]) (fun z hz s k' hl hk => h z (List.mem_cons_of_mem _ hz) s k' (by rw [List.length_append, List.length_singleton] at hl; rw [List.length_cons]; omega) hk) fun ys ha => by
    rw [List.append_assoc]
    exact q (y :: ys) ⟨hy, ha⟩
theorem passed_ok {n : Nat} {ds : List (List (Int × Int))} (h : OKD n ds) {k : (Bool × List (Bool × List (Int × Int))) → Prop} (q : ∀ b xs, PE ds (xs.map (·.2)) → k (b, xs)) : M_passed ds k := by
  have l := h.len
  have n2 := h.n2
  refine forC_al (fun d (e : Bool × List (Int × Int)) => e.2.Perm d) (fun d hd s k' hl hk => ?_) fun ys hy => ?_
  · have dl := (h.dv d hd).len
    refine mixedP_ok (by omega) fun r hr => ⟨fun z => z.2 = r, draw_ok (by decide) (by decide) fun e e0 e1 => ?_, fun z hz => ⟨by simp only [List.length_nil] at hl; omega, hk z (by rw [hz]; exact hr)⟩⟩
    by_cases c : e = 0
    · rw [if_pos (by rw [c]; rfl)]
    · rw [if_neg (by rw [eqI]; simpa using c)]
  · rw [List.nil_append]
    refine ⟨fun z => z.2 = ys, draw_ok (by decide) (by decide) fun e e0 e1 => ?_, fun z hz => ?_⟩
    · by_cases c : e = 0
      · rw [if_pos (by rw [c]; rfl)]
      · rw [if_neg (by rw [eqI]; simpa using c)]
    · obtain ⟨b, xs⟩ := z
      cases hz
      exact q b _ (al_map hy)
/-! making a table -/
theorem range_sorted (lo hi : Int) : (rangeI lo hi).Pairwise (· ≤ ·) := by
  unfold rangeI
  refine List.pairwise_map.mpr ?_
  refine List.Pairwise.imp ?_ (List.pairwise_lt_range)
  intro a b h
  omega
theorem is_meeting_ok (p : Int × Int) {k : Bool → Prop} (q : k true) : M_is_meeting p k := by
  unfold M_is_meeting M_is_integer
  rw [if_pos (by decide)]
  show (if (!false) = true then _ else _)
  rw [if_pos (by decide)]
  exact q
theorem is_round_ok {n : Nat} (h1 : 2 ≤ n) (h2 : n ≤ 12) {m : List (Int × Int)} (h : DV n m) {k : Bool → Prop} (q : k true) : M_is_round_ltii m k := by
  have hl := h.len
  unfold M_is_round_ltii M_is_list_ltii
  show (if (!true) = true then _ else _)
  rw [if_neg (by decide), if_neg (by simp only [decide_eq_true_eq]; omega), if_neg (by simp only [decide_eq_true_eq]; omega)]
  refine ⟨by omega, ?_⟩
  refine mapC_ok (fun _ => true) (fun x hx k' hk => is_meeting_ok x hk) ?_
  have al : List.all ([] ++ m.map fun _ => true) id = true := by
    rw [List.nil_append, List.all_eq_true]
    intro x hx
    obtain ⟨y, _, rfl⟩ := List.mem_map.mp hx
    rfl
  rw [al, if_neg (by decide)]
  have fl := h.all.length_eq
  rw [rangeI_len] at fl
  refine ⟨by show (m.flatMap two).length ≤ _; omega, fun ys hp hs => ⟨?_, same4 _ _, ?_⟩⟩
  · first | exact ⟨by omega, by omega⟩ | (unfold RgOk; omega) | (unfold RgOk; refine ⟨?_, ?_⟩ <;> omega)
  · have hp2 : ys.Perm (rangeI 0 (2 * (m.length : Int))) := by
      rw [hl]
      exact (show ys.Perm (m.flatMap two) from hp).trans h.all
    rw [eqv_t (sorted_perm hp2 (range_sorted _ _) hs)]
    exact q
theorem is_roundS_ok {n : Nat} (h1 : 2 ≤ n) (h2 : n ≤ 12) {m : Bool × List (Int × Int)} (h : DV n m.2) {k : Bool → Prop} (q : k true) : M_is_round m k := is_round_ok (m := m.2) h1 h2 h q
theorem rounds_ok {n : Nat} {ds : List (List (Int × Int))} (h : OKD n ds) {k : Unit → Prop} (q : k ()) : M_check_rounds_lltii ds k := by
  have h1 := h.n1
  have h2 := h.n2
  have d0 := h.pos
  have d1 := h.len
  unfold M_check_rounds_lltii M_is_list_lltii
  show (if (!true) = true then _ else _)
  rw [if_neg (by decide), if_neg (by rw [eqI]; simp only [decide_eq_true_eq]; omega)]
  refine forC_ok (fun _ => True) (fun x hx s k' _ hk => ?_) trivial fun s _ => ?_
  · have hx2 := h.dv x.2 (List.of_mem_zip hx).2
    refine is_round_ok h1 h2 hx2 ?_
    rw [if_neg (by decide)]
    refine ⟨by decide, d0, ?_⟩
    rintro _ rfl
    have h0 := h.dv _ (List.getElem_mem (l := ds) (n := Int.toNat 0) d0)
    rw [if_neg (nI (by rw [hx2.len, h0.len]))]
    exact hk _ trivial
  · rw [if_neg (by simp only [decide_eq_true_eq]; omega)]
    exact q
theorem roundsS_ok {n : Nat} {b : Bool} {ds : List (Bool × List (Int × Int))} (h : OKD n (ds.map (·.2))) {k : Unit → Prop} (q : k ()) : M_check_rounds (b, ds) k := by
  have h1 := h.n1
  have h2 := h.n2
  have d0 := h.pos
  have d1 := h.len
  rw [List.length_map] at d0 d1
  unfold M_check_rounds M_is_list
  show (if (!true) = true then _ else _)
  rw [if_neg (by decide), if_neg (by rw [eqI]; simp only [decide_eq_true_eq]; omega)]
  refine forC_ok (fun _ => True) (fun x hx s k' _ hk => ?_) trivial fun s _ => ?_
  · have hx2 := h.dv x.2.2 (List.mem_map_of_mem (List.of_mem_zip hx).2)
    refine is_roundS_ok h1 h2 hx2 ?_
    rw [if_neg (by decide)]
    refine ⟨by decide, d0, ?_⟩
    rintro _ rfl
    have h0 := h.dv _ (List.mem_map_of_mem (List.getElem_mem (l := ds) (n := Int.toNat 0) d0))
    rw [if_neg (nI (by rw [hx2.len, h0.len]))]
    exact hk _ trivial
  · rw [if_neg (by simp only [decide_eq_true_eq]; omega)]
    exact q
theorem sorted_in {n : Nat} {x : List (Int × Int)} (h1 : n ≤ 12) (h : DV n x) {k' : List (Int × Int) → Prop} (hk : ∀ y, (y.Perm x ∧ y.Pairwise lePI) → k' y) : x.length < 100000 ∧ mapC (fun (x44 : (Int × Int)) (k37 : (Int × Int) → Prop) => (k37 (x44.1, x44.2))) x [] fun ys74 => (∀ ys78 : List (Int × Int), ys78.Perm ys74 → ys78.Pairwise lePI → (k' ys78)) := by
  have := h.len
  refine ⟨by omega, ?_⟩
  refine mapC_ok (fun p => p) (fun p hp k'' hk'' => hk'') ?_
  rw [List.nil_append, List.map_id']
  exact fun ys hp hs => hk ys ⟨hp, hs⟩
theorem tinit_ok {n : Nat} {ds : List (List (Int × Int))} (h : OKD n ds) {k : List (List (Int × Int)) → Prop} (q : ∀ t, TB ds t → k t) : M_Table_init_nlltii ds k := by
  have d1 := h.len
  unfold M_Table_init_nlltii
  refine rounds_ok h ⟨by omega, ?_⟩
  refine mapC_rel (fun x y => y.Perm x ∧ y.Pairwise lePI) (fun x hx k' hk => sorted_in h.n2 (h.dv x hx) hk) fun ys hy => ?_
  rw [List.nil_append]
  exact q ys hy
theorem al_unmap {α β γ : Type} {R : α → β → Prop} {f : γ → α} : ∀ {xs : List γ} {ys : List β}, Al (fun x y => R (f x) y) xs ys → Al R (xs.map f) ys
  | [], [], _ => trivial
  | _ :: _, _ :: _, h => ⟨h.1, al_unmap h.2⟩
  | [], _ :: _, h => h.elim
  | _ :: _, [], h => h.elim
theorem tinitS_ok {n : Nat} {b : Bool} {ds : List (Bool × List (Int × Int))} (h : OKD n (ds.map (·.2))) {k : List (List (Int × Int)) → Prop} (q : ∀ t, TB (ds.map (·.2)) t → k t) : M_Table_init (b, ds) k := by
  have d1 := h.len
  rw [List.length_map] at d1
  unfold M_Table_init
  refine roundsS_ok h ⟨by show ds.length < _; omega, ?_⟩
  refine mapC_rel (fun x y => y.Perm x.2 ∧ y.Pairwise lePI) (fun x hx k' hk => sorted_in h.n2 (h.dv x.2 (List.mem_map_of_mem hx)) hk) fun ys hy => ?_
  rw [List.nil_append]
  exact q ys (al_unmap hy)
theorem sorted_ok {n : Nat} {ds : List (List (Int × Int))} (h : OKD n ds) {k : List (List (Int × Int)) → Prop} (q : ∀ t, TB ds t → k t) : M_sorted ds k := by
  have d1 := h.len
  unfold M_sorted
  refine ⟨by omega, ?_⟩
  refine mapC_rel (fun x y => y.Perm x ∧ y.Pairwise lePI) (fun x hx k' hk => sorted_in h.n2 (h.dv x hx) hk) fun ys hy => ?_
  rw [List.nil_append]
  exact q ys hy
theorem sorted_tb {n : Nat} {ds tb : List (List (Int × Int))} (h : OKD n ds) (t : TB ds tb) {k : List (List (Int × Int)) → Prop} (q : k tb) : M_sorted ds k := sorted_ok h fun t' ht => by rw [tb_uniq ht t]; exact q
abbrev kf (y_ : Int × Int) : List L2.Key := [Sum.inl y_.1, Sum.inl y_.2]
theorem kf_inj {p q : Int × Int} (h : kf p = kf q) : p = q := by
  have h1 := (List.cons.inj h).1
  have h2 := (List.cons.inj (List.cons.inj h).2).1
  exact Prod.ext (Sum.inl.inj h1) (Sum.inl.inj h2)
theorem has_put {s : List (List L2.Key × Bool)} {k k' : List L2.Key} : hasD (putD s k true) k' = true ↔ hasD s k' = true ∨ k = k' := by
  unfold hasD putD
  by_cases c : (s.any fun q => decide (q.1 = k)) = true
  · rw [if_pos c]
    simp only [List.any_eq_true, decide_eq_true_eq, List.mem_map] at c ⊢
    constructor
    · rintro ⟨x, ⟨y, hy, rfl⟩, e⟩
      refine .inl ⟨y, hy, ?_⟩
      by_cases d : y.1 = k
      · rw [if_pos d] at e
        exact e
      · rw [if_neg d] at e
        exact e
    · rintro (⟨x, hx, e⟩ | rfl)
      · refine ⟨_, ⟨x, hx, rfl⟩, ?_⟩
        split
        · exact e
        · exact e
      · obtain ⟨x, hx, e⟩ := c
        refine ⟨_, ⟨x, hx, rfl⟩, ?_⟩
        rw [if_pos e]
        exact e
  · rw [if_neg c]
    simp only [List.any_eq_true, decide_eq_true_eq, List.mem_append, List.mem_singleton]
    constructor
    · rintro ⟨x, hx | rfl, e⟩
      · exact .inl ⟨x, hx, e⟩
      · exact .inr e
    · rintro (⟨x, hx, e⟩ | rfl)
      · exact ⟨x, .inl hx, e⟩
      · exact ⟨_, .inr rfl, rfl⟩
theorem conds (p : Int × Int) (xs : List (Int × Int)) : plainD (tp p) = true ∧ plainD (D.lst (xs.map tp)) = true ∧ SeqAt.shaped (pyOf (tp p)) = true ∧ SeqAt.shaped (pyOf (D.lst (xs.map tp))) = true := ⟨rfl, (tps_sh xs).1, tp_sh p, (tps_sh xs).2⟩
theorem flat_le {n : Nat} : ∀ {ds : List (List (Int × Int))}, (∀ d ∈ ds, DV n d) → ds.flatten.length ≤ ds.length * n
  | [], _ => by simp
  | d :: ds, h => by
    have ih := flat_le (ds := ds) fun e he => h e (List.mem_cons_of_mem _ he)
    have := (h d List.mem_cons_self).len
    rw [List.flatten_cons, List.length_append, List.length_cons, Nat.succ_mul]
    omega
theorem OKD.fl {n : Nat} {ds : List (List (Int × Int))} (h : OKD n ds) : ds.flatten.length ≤ 360 :=
  Nat.le_trans (flat_le h.dv) (Nat.mul_le_mul h.len h.n2)
theorem PE.mem : ∀ {ds es : List (List (Int × Int))}, PE ds es → ∀ p, p ∈ es.flatten ↔ p ∈ ds.flatten
  | [], [], _, p => Iff.rfl
  | d :: ds, e :: es, h, p => by
    rw [List.flatten_cons, List.flatten_cons, List.mem_append, List.mem_append, h.1.mem_iff, PE.mem h.2 p]
  | [], _ :: _, h, _ => h.elim
  | _ :: _, [], h, _ => h.elim
theorem rounds_get {n : Nat} {tb : List (List (Int × Int))} (h : OKD n tb) {k : List (List (Int × Int)) → Prop} (q : k tb) : M_Table_rounds tb k := by
  have d1 := h.len
  unfold M_Table_rounds
  refine ⟨by omega, ?_⟩
  refine mapC_ok (fun p => p) (fun p hp k'' hk'' => hk'') ?_
  rw [List.nil_append, List.map_id']
  exact q
/-! what a table tells -/
theorem DV.bd {n : Nat} {d : List (Int × Int)} (h : DV n d) {p : Int × Int} (hp : p ∈ d) : (0 ≤ p.1 ∧ p.1 < 2 * (n : Int)) ∧ (0 ≤ p.2 ∧ p.2 < 2 * (n : Int)) := by
  have m : ∀ x ∈ two p, 0 ≤ x ∧ x < 2 * (n : Int) := fun x hx => rangeI_mem (h.all.mem_iff.mp (List.mem_flatMap.mpr ⟨p, hp, hx⟩))
  exact ⟨m _ (by simp), m _ (by simp)⟩
theorem oks_tp {n : Nat} {d : List (Int × Int)} (n2 : n ≤ 12) (h : DV n d) {p : Int × Int} (hp : p ∈ d) : OkS (tp p) 2 3848 := by
  have b := h.bd hp
  have pw : (24 : Nat) < 2 ^ 1920 := Nat.lt_of_lt_of_le (show 24 < 2 ^ 5 by decide) (Nat.pow_le_pow_right (by decide) (by decide))
  refine oks_tup (k := 1) (n := 1921) (m := 2) (fun e he => ?_) (by simp)
  simp only [List.mem_cons, List.not_mem_nil, or_false] at he
  rcases he with rfl | rfl
  · exact oks_int (by omega)
  · exact oks_int (by omega)
abbrev eD (y_ : List (Int × Int)) : D := D.lst (y_.map tp)
theorem oks_E {n : Nat} {tb : List (List (Int × Int))} (h : OKD n tb) : OkS (D.lst (tb.map eD)) 4 1386122 :=
  oks_map (k := 3) (n := 46202) (m := 30) (fun d hd => oks_map (k := 2) (n := 3848) (m := 12) (fun p hp => oks_tp h.n2 (h.dv d hd) hp) (by rw [(h.dv d hd).len]; exact h.n2)) h.len
theorem oks_4 {n : Nat} {tb : List (List (Int × Int))} (h : OKD n tb) {a b : Int} (ha : a.natAbs < 100) (hb : b.natAbs < 100) : OkS (D.lst (([(D.v (V.int a)), (D.v (V.int b)), D.lst (tb.map eD), D.lst (tb.map eD)] : List D).map (fun y_ : D => y_))) 5 5544498 := by
  have pw : (100 : Nat) < 2 ^ 1920 := Nat.lt_of_lt_of_le (show 100 < 2 ^ 7 by decide) (Nat.pow_le_pow_right (by decide) (by decide))
  rw [List.map_id']
  refine oks_lst (k := 4) (n := 1386122) (m := 4) (fun e he => ?_) (by simp)
  simp only [List.mem_cons, List.not_mem_nil, or_false] at he
  rcases he with rfl | rfl | rfl | rfl
  · exact (oks_int (by omega)).mono (by decide) (by decide)
  · exact (oks_int (by omega)).mono (by decide) (by decide)
  · exact oks_E h
  · exact oks_E h
theorem dec_s (s : Str) : (!(decide (V.str s = V.str s))) = false := by simp
theorem size_ok {n : Nat} {tb : List (List (Int × Int))} (h : OKD n tb) {k : Int → Prop} (q : k (2 * (n : Int))) : M_Table_size tb k := by
  have d0 := h.pos
  refine ⟨by decide, d0, ?_⟩
  rintro _ rfl
  have h0 := h.dv _ (List.getElem_mem (l := tb) (n := Int.toNat 0) d0)
  rw [h0.len]
  exact q
theorem get_tb (tb : List (List (Int × Int))) : (rangeI 0 (tb.length : Int)).map (fun x => tb.getD x.toNat []) = tb := by
  unfold rangeI
  rw [List.map_map]
  refine List.ext_getElem (by simp) fun i h1 h2 => ?_
  rw [List.getElem_map, List.getElem_range]
  show tb.getD (0 + (i : Int)).toNat [] = _
  rw [show (0 + (i : Int)).toNat = i by omega, List.getD_eq_getElem?_getD, List.getElem?_eq_getElem h2]
  rfl
theorem meet_ok {n : Nat} {tb : List (List (Int × Int))} (h : OKD n tb) {x : Int} (x0 : 0 ≤ x) (x1 : x < (tb.length : Int)) {k : List (Int × Int) → Prop} (q : k (tb.getD x.toNat [])) : M_Table_meetings tb x k := by
  unfold M_Table_meetings M_check_day M_is_count M_is_integer
  show (if (!false) = true then (if (!(decide (0 ≤ x))) = true then _ else _) else _)
  rw [if_pos (by decide), decide_eq_true x0, if_neg (by decide), if_neg (by simp only [decide_eq_true_eq]; omega)]
  refine ⟨x0, by omega, ?_⟩
  rintro _ rfl
  have e : tb[x.toNat]'(by omega) = tb.getD x.toNat [] := by
    rw [List.getD_eq_getElem?_getD, List.getElem?_eq_getElem (by omega)]
    rfl
  rw [e]
  exact q
def mk (x : Int) (d : List (Int × Int)) : Str := if x ∈ d.map (·.1) then ("h" : Str) else ("a" : Str)
abbrev rowS (ds : List (List (Int × Int))) (x : Int) : Str := Txt.join ("" : Str) (ds.map (mk x))
theorem mk_len (x : Int) (d : List (Int × Int)) : (mk x d).length = 1 := by
  unfold mk
  split
  · rw [h_mk]; exact str1 _
  · rw [a_mk]; exact str1 _
theorem mk_sum (x : Int) : ∀ ds : List (List (Int × Int)), ((ds.map (mk x)).map (·.length)).sum = ds.length
  | [] => rfl
  | d :: ds => by
    rw [List.map_cons, List.map_cons, List.sum_cons, mk_sum x ds, mk_len, List.length_cons]
    omega
theorem join_cond {n : Nat} {ds : List (List (Int × Int))} (h : OKD n ds) (x : Int) : ((ds.map (mk x)).map (·.length)).sum + (ds.map (mk x)).length * ("" : Str).length ≤ 16777216 := by
  have := h.len
  rw [mk_sum, show ("" : Str).length = 0 from rfl, Nat.mul_zero]
  omega
theorem mk_perm {x : Int} {d e : List (Int × Int)} (p : e.Perm d) : mk x e = mk x d := by
  unfold mk
  by_cases c : x ∈ d.map (·.1)
  · rw [if_pos c, if_pos ((p.map (·.1)).mem_iff.mpr c)]
  · rw [if_neg c, if_neg fun z => c ((p.map (·.1)).mem_iff.mp z)]
theorem pe_mk {x : Int} : ∀ {ds es : List (List (Int × Int))}, PE ds es → es.map (mk x) = ds.map (mk x)
  | [], [], _ => rfl
  | _ :: _, _ :: _, h => by rw [List.map_cons, List.map_cons, mk_perm h.1, pe_mk h.2]
  | [], _ :: _, h => h.elim
  | _ :: _, [], h => h.elim
theorem mark_ok {n : Nat} {d : List (Int × Int)} (n2 : n ≤ 12) (h : DV n d) {x : Int} {k : Str → Prop} (q : k (mk x d)) : ∃ KB23 : Str → Prop, (d.length < 100000 ∧ mapC (fun (x42 : (Int × Int)) (k35 : Int → Prop) => (k35 x42.1)) d [] fun ys67 => (if (inV (V.int x) (ys67.map V.int)) = true then (KB23 ("h" : Str)) else (KB23 ("a" : Str)))) ∧ ∀ r71 : Str, KB23 r71 → (k r71) := by
  have := h.len
  refine ⟨fun z => z = mk x d, ⟨by omega, ?_⟩, fun z hz => by rw [hz]; exact q⟩
  refine mapC_ok (fun p => p.1) (fun p hp k' hk => hk) ?_
  rw [List.nil_append]
  unfold mk
  by_cases c : x ∈ d.map (·.1)
  · rw [if_pos (inV_int.mpr c), if_pos c]
  · rw [if_neg (fun z => c (inV_int.mp z)), if_neg c]
theorem team_ok {n : Nat} {t : Int} (t0 : 0 ≤ t) (t1 : t < 2 * (n : Int)) {k : Unit → Prop} (q : k ()) : M_check_team t (2 * (n : Int)) k := by
  unfold M_check_team M_is_count M_is_integer
  show (if (!false) = true then (if (!(decide (0 ≤ t))) = true then _ else _) else _)
  rw [if_pos (by decide), decide_eq_true t0, if_neg (by decide), if_neg (by simp only [decide_eq_true_eq]; omega)]
  exact q
theorem row_of_ok {n : Nat} {tb : List (List (Int × Int))} (h : OKD n tb) {t : Int} (t0 : 0 ≤ t) (t1 : t < 2 * (n : Int)) {k : Str → Prop} (q : k (rowS tb t)) : M_Table_row_of tb t k := by
  have d1 := h.len
  unfold M_Table_row_of
  refine size_ok h (team_ok t0 t1 ⟨by omega, ?_⟩)
  refine mapC_ok (mk t) (fun x hx k' hk => mark_ok h.n2 (h.dv x hx) hk) ?_
  rw [List.nil_append]
  exact ⟨join_cond h t, q⟩
theorem row_ok {n : Nat} {ds : List (List (Int × Int))} (h : OKD n ds) {t : Int} {k : Str → Prop} (q : k (rowS ds t)) : M_row ds t k := by
  have d1 := h.len
  unfold M_row
  refine ⟨by omega, ?_⟩
  refine mapC_ok (mk t) (fun x hx k' hk => mark_ok h.n2 (h.dv x hx) hk) ?_
  rw [List.nil_append]
  exact ⟨join_cond h t, q⟩
theorem strOk_mk {s : Str} (h : ∀ c ∈ L s, c = 104 ∨ c = 97) : PyData.strOk s = true := by
  unfold PyData.strOk
  rw [Array.all_eq_true']
  intro c hc
  have := h c (by simpa [L] using hc)
  simp only [decide_eq_true_eq]
  omega
theorem row_st (x : Int) (ds : List (List (Int × Int))) : PyData.strOk (rowS ds x) = true := strOk_mk fun c hc => by
  rw [join_L, List.map_map] at hc
  obtain ⟨l, hl, hc⟩ := List.mem_flatten.mp hc
  obtain ⟨d, hd, rfl⟩ := List.mem_map.mp hl
  have hc : c ∈ L (mk x d) := hc
  unfold mk at hc
  split at hc
  · rw [L_h] at hc
    exact .inl (List.mem_singleton.mp hc)
  · rw [L_a] at hc
    exact .inr (List.mem_singleton.mp hc)
theorem strs_sh (ns : List Str) (hn : ∀ s ∈ ns, PyData.strOk s = true) : plainD (D.lst (ns.map fun y => D.v (V.str y))) = true ∧ SeqAt.shaped (pyOf (D.lst (ns.map fun y => D.v (V.str y)))) = true := by
  have h : ∀ ns : List Str, (∀ s ∈ ns, PyData.strOk s = true) → plainL (ns.map fun y => D.v (V.str y)) = true ∧ PyData.canLayAll0 (pyL (ns.map fun y => D.v (V.str y))) = true ∧ PyData.depthAll (pyL (ns.map fun y => D.v (V.str y))) ≤ 1 := by
    intro ns
    induction ns with
    | nil => intro _; exact ⟨rfl, rfl, by simp [pyL, PyData.depthAll]⟩
    | cons n ns ih =>
      intro hn
      have h1 := hn n List.mem_cons_self
      obtain ⟨a, b, c⟩ := ih fun s hs => hn s (List.mem_cons_of_mem _ hs)
      refine ⟨?_, ?_, ?_⟩
      · rw [List.map_cons]
        simp only [plainL, plainD, Bool.true_and]
        exact a
      · rw [List.map_cons]
        simp only [pyL, PyData.canLayAll0, pyOf, PyData.canLay0, h1, Bool.true_and]
        exact b
      · rw [List.map_cons]
        simp only [pyL, PyData.depthAll, pyOf, PyData.depth]
        omega
  obtain ⟨a, b, c⟩ := h ns hn
  refine ⟨by simp only [plainD]; exact a, ?_⟩
  unfold SeqAt.shaped
  have h1 : (pyOf (D.lst (ns.map fun y => D.v (V.str y)))).canLay0 = true := by simp only [pyOf, PyData.canLay0]; exact b
  have h2 : (pyOf (D.lst (ns.map fun y => D.v (V.str y)))).depth ≤ 4 := by simp only [pyOf, PyData.depth]; omega
  rw [h1, Bool.true_and]
  exact decide_eq_true (by omega)
theorem eqv_self {d : D} (h : SeqAt.shaped (pyOf d) = true) : PyData.eqv (pyOf d) (pyOf d) = true := SeqAt.eqv_refl _ (SeqAt.canLay_of_shaped h)
theorem e_tab : (Str.empty ++ ("Table(" : Str)) = ("Table(" : Str) := by decide +kernel
theorem repr_ok {n : Nat} {tb : List (List (Int × Int))} (h : OKD n tb) {k : Str → Prop} (q : k ((("Table(" : Str) ++ (pyOf (D.lst (tb.map eD))).shown) ++ (")" : Str))) : M_Table_repr tb k := by
  have o := oks_E h
  have l := o.ln
  have l1 : ("Table(" : Str).length = 6 := by decide +kernel
  have l2 : (")" : Str).length = 1 := by decide +kernel
  unfold M_Table_repr
  rw [e_tab]
  refine ⟨by rw [sizeLine_eq]; omega, o.rp (by decide) (by decide), ?_, ?_, q⟩
  · rw [len_app, sizeLine_eq, l1]; exact Nat.le_trans (Nat.add_le_add_left l 6) (by decide)
  · rw [len_app, len_app, sizeLine_eq, l1, l2]; exact Nat.le_trans (Nat.add_le_add_right (Nat.add_le_add_left l 6) 1) (by decide)
theorem is_ok {n : Nat} {ds tb : List (List (Int × Int))} (h : OKD n ds) (t : TB ds tb) {k : Bool → Prop} (q : k true) : M_is tb ds (2 * (n : Int)) k := by
  have g := h.tb t
  have l := al_len t
  have d1 := h.len
  have n2 := h.n2
  have o := oks_E g
  have l1 : ("Table(" : Str).length = 6 := by decide +kernel
  have l2 : (")" : Str).length = 1 := by decide +kernel
  have o4 := oks_4 (a := 2 * (n : Int)) (b := (ds.length : Int)) g (by omega) (by omega)
  unfold M_is M_Table_len
  refine size_ok g ⟨by omega, rounds_get g ⟨by rw [rangeI_len]; omega, ?_⟩⟩
  refine mapC_ok (fun x => tb.getD x.toNat []) (fun x hx k' hk => meet_ok g (rangeI_mem hx).1 (by have := (rangeI_mem hx).2; omega) hk) ?_
  rw [List.nil_append, ← l, get_tb, l]
  refine ⟨o4.tx (by decide) (by decide), sorted_tb h t (sorted_tb h t ⟨o4.tx (by decide) (by decide), ?_⟩)⟩
  rw [dec_s, if_neg (by decide)]
  refine repr_ok g (sorted_tb h t ⟨o.rp (by decide) (by decide), ?_, ?_, ?_⟩)
  · have := o.ln; rw [sizeLine_eq]; exact Nat.le_trans (show _ ≤ 6 + 1386122 by exact Nat.add_le_add (Nat.le_of_eq l1) this) (by decide)
  · rw [len_app, sizeLine_eq]; have := o.ln; exact Nat.le_trans (show _ ≤ 6 + 1386122 + 1 by exact Nat.add_le_add (Nat.add_le_add (Nat.le_of_eq l1) this) (Nat.le_of_eq l2)) (by decide)
  · rw [dec_s, if_neg (by decide)]
    refine ⟨by rw [rangeI_len]; omega, ?_⟩
    refine mapC_ok (rowS tb) (fun x hx k' hk => row_of_ok g (rangeI_mem hx).1 (rangeI_mem hx).2 hk) ?_
    refine ⟨by rw [rangeI_len]; omega, ?_⟩
    refine mapC_ok (rowS tb) (fun x hx k' hk => row_ok h (by have e := pe_mk (x := x) (tb_to t); show k' (Txt.join "" (ds.map (mk x))); rw [← e]; exact hk)) ?_
    rw [List.nil_append]
    have s := strs_sh ((rangeI 0 (2 * (n : Int))).map (rowS tb)) fun s hs => by
      obtain ⟨x, _, rfl⟩ := List.mem_map.mp hs
      exact row_st x tb
    refine ⟨⟨s.1, s.1, s.2, s.2⟩, ?_⟩
    rw [eqv_self s.2]
    exact q
theorem cut_takeM {α : Type} (xs : List α) (k : Nat) : cutM xs none (some (k : Int)) = xs.take k := by
  unfold cutM
  rw [HT.sIx_none, HT.sIx_nat, List.drop_zero]
  show List.take (min k xs.length - 0) xs = _
  rw [Nat.sub_zero]
  by_cases c : k ≤ xs.length
  · rw [Nat.min_eq_left c]
  · rw [Nat.min_eq_right (by omega), List.take_length, List.take_of_length_le (by omega)]
theorem rangeI_cons {a b : Int} (h : a < b) : rangeI a b = a :: rangeI (a + 1) b := by
  obtain ⟨m, rfl⟩ : ∃ m : Nat, b = a + (m : Int) + 1 := ⟨(b - a - 1).toNat, by omega⟩
  unfold rangeI
  rw [show (a + (m : Int) + 1 - a).toNat = m + 1 from by omega, show (a + (m : Int) + 1 - (a + 1)).toNat = m from by omega, List.range_succ_eq_map, List.map_cons, List.map_map]
  refine congr (congrArg List.cons (by simp)) (List.map_congr_left fun i _ => ?_)
  show a + ((i + 1 : Nat) : Int) = _
  omega
abbrev swp (p : Int × Int) : Int × Int := (p.2, p.1)
theorem swp_swp (p : Int × Int) : swp (swp p) = p := rfl
theorem DV.nd {n : Nat} {d : List (Int × Int)} (h : DV n d) : (d.flatMap two).Nodup := by
  refine h.all.nodup_iff.mpr ?_
  unfold rangeI
  refine List.Pairwise.map _ ?_ List.nodup_range
  intro a b hab z
  omega
theorem xor_go {x : Int} : ∀ {d : List (Int × Int)}, (d.flatMap two).Nodup → ¬ (x ∈ d.map (·.1) ∧ x ∈ d.map (·.2))
  | [], _, h => absurd h.1 List.not_mem_nil
  | p :: d, nd, h => by
    have nd : (p.1 :: p.2 :: d.flatMap two).Nodup := nd
    rw [List.nodup_cons, List.nodup_cons] at nd
    have m1 : ∀ y, y ∈ d.map (·.1) → y ∈ d.flatMap two := fun y hy => by
      obtain ⟨z, hz, rfl⟩ := List.mem_map.mp hy
      exact List.mem_flatMap.mpr ⟨z, hz, by simp⟩
    have m2 : ∀ y, y ∈ d.map (·.2) → y ∈ d.flatMap two := fun y hy => by
      obtain ⟨z, hz, rfl⟩ := List.mem_map.mp hy
      exact List.mem_flatMap.mpr ⟨z, hz, by simp⟩
    have h1 := List.mem_cons.mp h.1
    have h2 := List.mem_cons.mp h.2
    rcases h1 with e1 | e1
    · have e1 : x = p.1 := e1
      rcases h2 with e2 | e2
      · have e2 : x = p.2 := e2
        exact nd.1 (by rw [← e1, e2]; exact List.mem_cons_self)
      · exact nd.1 (List.mem_cons_of_mem _ (by rw [← e1]; exact m2 _ e2))
    · rcases h2 with e2 | e2
      · have e2 : x = p.2 := e2
        exact nd.2.1 (by rw [← e2]; exact m1 _ e1)
      · exact xor_go nd.2.2 ⟨e1, e2⟩
theorem DV.ne {n : Nat} {d : List (Int × Int)} (h : DV n d) {p : Int × Int} (hp : p ∈ d) : p.1 ≠ p.2 := fun e =>
  xor_go (x := p.1) h.nd ⟨List.mem_map_of_mem hp, by rw [e]; exact List.mem_map.mpr ⟨p, hp, rfl⟩⟩
theorem turn_nodup {d : List (Int × Int)} (h : (d.flatMap two).Nodup) : d.Nodup := by
  induction d with
  | nil => exact List.nodup_nil
  | cons p d ih =>
    have nd : (p.1 :: p.2 :: d.flatMap two).Nodup := h
    rw [List.nodup_cons, List.nodup_cons] at nd
    refine List.nodup_cons.mpr ⟨fun z => nd.1 (List.mem_cons_of_mem _ (List.mem_flatMap.mpr ⟨p, z, by simp⟩)), ih nd.2.2⟩
abbrev gm (a b : Int) (x : Int × List (Int × Int)) : Option Int := if (a, b) ∈ x.2 ∨ (b, a) ∈ x.2 then some x.1 else none
theorem met_ok {n : Nat} {tb : List (List (Int × Int))} (h : OKD n tb) {a b : Int} (a0 : 0 ≤ a ∧ a < 2 * (n : Int)) (b0 : 0 ≤ b ∧ b < 2 * (n : Int)) (ne : a ≠ b) {k : List Int → Prop} (q : k (((rangeI 0 (tb.length : Int)).zip tb).filterMap (gm a b))) : M_Table_met_in tb a b k := by
  have d1 := h.len
  unfold M_Table_met_in M_check_pair
  refine size_ok h (team_ok a0.1 a0.2 (team_ok b0.1 b0.2 ?_))
  rw [eqI, if_neg (by simpa using ne)]
  refine ⟨by rw [List.length_zip, rangeI_len]; omega, ?_⟩
  refine filC_ok (gm a b) (fun x hx k' hk => ⟨conds (a, b) x.2, ?_⟩) (by rw [List.nil_append]; exact q)
  by_cases c : (a, b) ∈ x.2
  · rw [if_pos (show inDv (tp (a, b)) (x.2.map tp) = true from inDv_tps.mpr c)]
    have e : gm a b x = some x.1 := if_pos (.inl c)
    rw [e] at hk
    exact hk
  · rw [if_neg (show ¬ inDv (tp (a, b)) (x.2.map tp) = true from fun z => c (inDv_tps.mp z))]
    refine ⟨conds (b, a) x.2, ?_⟩
    by_cases d : (b, a) ∈ x.2
    · rw [if_pos (show inDv (tp (b, a)) (x.2.map tp) = true from inDv_tps.mpr d)]
      have e : gm a b x = some x.1 := if_pos (.inr d)
      rw [e] at hk
      exact hk
    · rw [if_neg (show ¬ inDv (tp (b, a)) (x.2.map tp) = true from fun z => d (inDv_tps.mp z))]
      have e : gm a b x = none := if_neg fun z => z.elim c d
      rw [e] at hk
      exact hk
/-! pairs and their counts -/
def pr (p : Int × Int) : Int × Int := (if p.2 < p.1 then p.2 else p.1, if p.2 > p.1 then p.2 else p.1)
theorem pr_swp (p : Int × Int) : pr (swp p) = pr p := by
  unfold pr swp
  refine Prod.ext ?_ ?_
  · show (if p.1 < p.2 then p.1 else p.2) = if p.2 < p.1 then p.2 else p.1
    split <;> split <;> omega
  · show (if p.1 > p.2 then p.1 else p.2) = if p.2 > p.1 then p.2 else p.1
    split <;> split <;> omega
def cnt (ds : List (List (Int × Int))) (q : Int × Int) : Int := ((ds.flatten.map pr).count q : Nat)
def pairs (N : Int) : List (Int × Int) := (rangeI 0 N).flatMap fun a => (rangeI (a + 1) N).map fun b => (a, b)
theorem mem_range {a b x : Int} : x ∈ rangeI a b ↔ a ≤ x ∧ x < b := by
  refine ⟨rangeI_mem, fun h => ?_⟩
  unfold rangeI
  exact List.mem_map.mpr ⟨(x - a).toNat, List.mem_range.mpr (by omega), by omega⟩
theorem mem_pairs {N : Int} {p : Int × Int} : p ∈ pairs N ↔ 0 ≤ p.1 ∧ p.1 < p.2 ∧ p.2 < N := by
  unfold pairs
  rw [List.mem_flatMap]
  constructor
  · rintro ⟨a, ha, h⟩
    obtain ⟨b, hb, rfl⟩ := List.mem_map.mp h
    have h1 := rangeI_mem ha
    have h2 := rangeI_mem hb
    exact ⟨h1.1, by show a < b; omega, h2.2⟩
  · rintro ⟨h1, h2, h3⟩
    exact ⟨p.1, mem_range.mpr ⟨h1, by omega⟩, List.mem_map.mpr ⟨p.2, mem_range.mpr ⟨by omega, h3⟩, rfl⟩⟩
theorem range_lt (lo hi : Int) : (rangeI lo hi).Pairwise (· < ·) := by
  unfold rangeI
  refine List.pairwise_map.mpr ?_
  refine List.Pairwise.imp ?_ (List.pairwise_lt_range)
  intro a b h
  omega
def ltP (a b : Int × Int) : Prop := a.1 < b.1 ∨ (a.1 = b.1 ∧ a.2 < b.2)
theorem pairs_lt (N : Int) : (pairs N).Pairwise ltP := by
  unfold pairs
  refine List.pairwise_flatMap.mpr ⟨fun a _ => ?_, List.Pairwise.imp ?_ (range_lt 0 N)⟩
  · refine List.pairwise_map.mpr (List.Pairwise.imp ?_ (range_lt _ _))
    intro b c h
    exact .inr ⟨rfl, h⟩
  · intro a b h x hx y hy
    obtain ⟨_, _, rfl⟩ := List.mem_map.mp hx
    obtain ⟨_, _, rfl⟩ := List.mem_map.mp hy
    exact .inl h
theorem pairs_le (N : Int) : (pairs N).Pairwise lePI := List.Pairwise.imp (fun {a b} h => by
  unfold lePI
  rcases h with h | h
  · exact .inl h
  · exact .inr ⟨h.1, by omega⟩) (pairs_lt N)
theorem pairs_nd (N : Int) : (pairs N).Nodup := List.Pairwise.imp (fun {a b} h e => by
  rw [e] at h
  unfold ltP at h
  omega) (pairs_lt N)
theorem flatMap_le {α β : Type} {f : α → List β} {c : Nat} : ∀ {l : List α}, (∀ x ∈ l, (f x).length ≤ c) → (l.flatMap f).length ≤ l.length * c
  | [], _ => by simp
  | x :: l, h => by
    have ih := flatMap_le (l := l) fun y hy => h y (List.mem_cons_of_mem _ hy)
    have := h x List.mem_cons_self
    rw [List.flatMap_cons, List.length_append, List.length_cons, Nat.succ_mul]
    omega
theorem pairs_len {N : Int} (h : N ≤ 24) : (pairs N).length ≤ 576 := by
  have a : (pairs N).length ≤ (rangeI 0 N).length * 24 := flatMap_le fun x hx => by
    have := rangeI_mem hx
    rw [List.length_map, rangeI_len]
    omega
  rw [rangeI_len] at a
  have : (N - 0).toNat * 24 ≤ 24 * 24 := Nat.mul_le_mul_right _ (by omega)
  omega
theorem pr_in {n : Nat} {d : List (Int × Int)} (h : DV n d) {p : Int × Int} (hp : p ∈ d) : pr p ∈ pairs (2 * (n : Int)) := by
  have b := h.bd hp
  have e := h.ne hp
  refine mem_pairs.mpr ?_
  unfold pr
  refine ⟨?_, ?_, ?_⟩
  · show 0 ≤ if p.2 < p.1 then p.2 else p.1
    split <;> omega
  · show (if p.2 < p.1 then p.2 else p.1) < if p.2 > p.1 then p.2 else p.1
    split <;> split <;> omega
  · show (if p.2 > p.1 then p.2 else p.1) < _
    split <;> omega
/-! dicts -/
abbrev Dk := List (List L2.Key × Int)
theorem get_put {m : Dk} {k k' : List L2.Key} {y : Int} : Rx.getD (putD m k y) k' = if k = k' then some y else Rx.getD m k' := by
  unfold Rx.getD putD
  by_cases c : (m.any fun q => decide (q.1 = k)) = true
  · rw [if_pos c]
    induction m with
    | nil => simp at c
    | cons p m ih =>
      rw [List.map_cons]
      by_cases h : p.1 = k
      · rw [if_pos h]
        by_cases e : k = k'
        · rw [if_pos e, List.find?_cons_of_pos (by simpa [e] using h.trans e)]
          rfl
        · rw [if_neg e, List.find?_cons_of_neg (by simpa [h] using e), List.find?_cons_of_neg (by simpa [h] using e)]
          congr 1
          clear ih c
          induction m with
          | nil => rfl
          | cons q m ih2 =>
            rw [List.map_cons]
            by_cases h2 : q.1 = k
            · rw [if_pos h2, List.find?_cons_of_neg (by simpa [h2] using e), List.find?_cons_of_neg (by simpa [h2] using e), ih2]
            · rw [if_neg h2]
              by_cases h3 : q.1 = k'
              · rw [List.find?_cons_of_pos (by simpa using h3), List.find?_cons_of_pos (by simpa using h3)]
              · rw [List.find?_cons_of_neg (by simpa using h3), List.find?_cons_of_neg (by simpa using h3), ih2]
      · rw [if_neg h]
        have c2 : (m.any fun q => decide (q.1 = k)) = true := by simpa [h] using c
        by_cases h3 : p.1 = k'
        · have ne : ¬ k = k' := fun z => h (h3.trans z.symm)
          rw [if_neg ne, List.find?_cons_of_pos (by simpa using h3), List.find?_cons_of_pos (by simpa using h3)]
        · rw [List.find?_cons_of_neg (by simpa using h3), List.find?_cons_of_neg (by simpa using h3)]
          exact ih c2
  · rw [if_neg c, List.find?_append]
    by_cases e : k = k'
    · have n : m.find? (fun q => decide (q.1 = k')) = none := by
        rw [List.find?_eq_none]
        intro x hx z
        exact c (List.any_eq_true.mpr ⟨x, hx, by simpa [e] using z⟩)
      rw [n, if_pos e, List.find?_cons_of_pos (by simpa using e)]
      rfl
    · rw [if_neg e, List.find?_cons_of_neg (by simpa using e), List.find?_nil, Option.or_none]
abbrev keys (m : Dk) : List (List L2.Key) := m.map (·.1)
theorem has_iff {m : Dk} {k : List L2.Key} : (m.any fun q => decide (q.1 = k)) = true ↔ k ∈ keys m := by
  rw [List.any_eq_true, List.mem_map]
  constructor
  · rintro ⟨x, hx, e⟩
    exact ⟨x, hx, of_decide_eq_true e⟩
  · rintro ⟨x, hx, e⟩
    exact ⟨x, hx, decide_eq_true e⟩
theorem keys_old {m : Dk} {k : List L2.Key} {y : Int} (h : k ∈ keys m) : keys (putD m k y) = keys m := by
  unfold putD
  rw [if_pos (has_iff.mpr h)]
  show (m.map _).map _ = _
  rw [List.map_map]
  refine List.map_congr_left fun q _ => ?_
  show (if q.1 = k then (q.1, y) else q).1 = q.1
  split <;> rfl
theorem keys_new {m : Dk} {k : List L2.Key} {y : Int} (h : k ∉ keys m) : keys (putD m k y) = keys m ++ [k] := by
  unfold putD
  rw [if_neg fun z => h (has_iff.mp z)]
  exact List.map_append
theorem get_in {m : Dk} {k : List L2.Key} (h : k ∈ keys m) : ∃ y, Rx.getD m k = some y := by
  unfold Rx.getD
  cases e : m.find? (fun q => decide (q.1 = k)) with
  | none =>
    rw [List.find?_eq_none] at e
    obtain ⟨x, hx, ex⟩ := List.mem_map.mp h
    exact absurd (decide_eq_true ex) (e x hx)
  | some q => exact ⟨q.2, rfl⟩
abbrev vl (m : Dk) (k : List L2.Key) : Int := (Rx.getD m k).getD 0
theorem vl_put {m : Dk} {k k' : List L2.Key} {y : Int} : vl (putD m k y) k' = if k = k' then y else vl m k' := by
  show (Rx.getD (putD m k y) k').getD 0 = _
  rw [get_put]
  split <;> rfl
/-! counting -/
theorem forC_rg {S : Type} {body : Int → S → (S → Prop) → Prop} {k : S → Prop} (I : Int → S → Prop) {b : Int} : ∀ (n : Nat) {a : Int} {s : S}, (b - a).toNat = n → a ≤ b → I a s → (∀ i s k', a ≤ i → i < b → I i s → (∀ s', I (i + 1) s' → k' s') → body i s k') → (∀ s, I b s → k s) → forC body (rangeI a b) s k
  | 0, a, s, hn, hab, i, h, q => by
    have e : a = b := by omega
    subst e
    have e2 : rangeI a a = [] := by
      unfold rangeI
      rw [Int.sub_self]
      rfl
    rw [e2]
    exact q s i
  | n + 1, a, s, hn, hab, i, h, q => by
    rw [rangeI_cons (by omega)]
    exact h a s _ (Int.le_refl _) (by omega) i fun s' i' => forC_rg I n (by omega) (by omega) i' (fun j t k' h1 h2 => h j t k' (by omega) h2) q
theorem fold_new : ∀ {ys : List ((Int × Int) × Int)} {m : Dk}, (ys.map (·.1)).Nodup → (∀ y ∈ ys, kf y.1 ∉ keys m) → (∀ y ∈ ys, y.2 = 0) → (∀ k, vl m k = 0) →
    keys (List.foldl (fun m_ y_ => putD m_ ((fun y_ : ((Int × Int) × Int) => ([Sum.inl y_.1.1, Sum.inl y_.1.2] : List L2.Key)) y_) ((fun y_ : ((Int × Int) × Int) => y_.2) y_)) m ys) = keys m ++ ys.map (fun y => kf y.1) ∧ ∀ k, vl (List.foldl (fun m_ y_ => putD m_ ((fun y_ : ((Int × Int) × Int) => ([Sum.inl y_.1.1, Sum.inl y_.1.2] : List L2.Key)) y_) ((fun y_ : ((Int × Int) × Int) => y_.2) y_)) m ys) k = 0
  | [], m, _, _, _, z => ⟨by simp, z⟩
  | y :: ys, m, nd, hn, h0, z => by
    rw [List.map_cons, List.nodup_cons] at nd
    rw [List.foldl_cons]
    have k1 : keys (putD m (kf y.1) y.2) = keys m ++ [kf y.1] := keys_new (hn y List.mem_cons_self)
    obtain ⟨i1, i2⟩ := fold_new (ys := ys) (m := putD m (kf y.1) y.2) nd.2 (fun x hx w => by
      rw [k1] at w
      rcases List.mem_append.mp w with w | w
      · exact hn x (List.mem_cons_of_mem _ hx) w
      · have e := kf_inj (List.mem_singleton.mp w)
        exact nd.1 (by rw [← e]; exact List.mem_map_of_mem hx)) (fun x hx => h0 x (List.mem_cons_of_mem _ hx)) fun k => by
      rw [vl_put]
      split
      · exact h0 y List.mem_cons_self
      · exact z k
    refine ⟨?_, i2⟩
    show keys (List.foldl _ (putD m (kf y.1) y.2) ys) = _
    rw [i1, k1, List.append_assoc]
    rfl
abbrev prs (N i : Int) : List (Int × Int) := (rangeI 0 i).flatMap fun a => (rangeI (a + 1) N).map fun b => (a, b)
theorem range_snoc {a b : Int} (h : a ≤ b) : rangeI a (b + 1) = rangeI a b ++ [b] := by
  unfold rangeI
  rw [show (b + 1 - a).toNat = (b - a).toNat + 1 from by omega, List.range_succ, List.map_append]
  show _ ++ [a + (((b - a).toNat : Nat) : Int)] = _
  rw [show a + (((b - a).toNat : Nat) : Int) = b from by omega]
theorem prs_succ {N i : Int} (h : 0 ≤ i) : prs N (i + 1) = prs N i ++ (rangeI (i + 1) N).map fun b => (i, b) := by
  show (rangeI 0 (i + 1)).flatMap _ = _
  rw [range_snoc h, List.flatMap_append]
  simp
theorem cnt_nil (q : Int × Int) : cnt [] q = 0 := rfl
theorem cnt_day (ds : List (List (Int × Int))) (d : List (Int × Int)) (q : Int × Int) : cnt (d :: ds) q = ((d.map pr).count q : Nat) + cnt ds q := by
  unfold cnt
  rw [List.flatten_cons, List.map_append, List.count_append]
  omega
theorem count_pr (p : Int × Int) (l : List (Int × Int)) (q : Int × Int) : ((((p :: l).map pr).count q : Nat) : Int) = (if kf (pr p) = kf q then 1 else 0) + (((l.map pr).count q : Nat) : Int) := by
  rw [List.map_cons, List.count_cons]
  by_cases c : pr p = q
  · rw [if_pos (show kf (pr p) = kf q from by rw [c]), if_pos (show (pr p == q) = true from by rw [c]; exact beq_self_eq_true q)]
    omega
  · rw [if_neg (fun z => c (kf_inj z)), if_neg (by simpa using c)]
    omega
theorem inc_go {ks : List (List L2.Key)} {kq : Dk → Prop} (hl : ks.length ≤ 1000) : ∀ {d : List (Int × Int)} {s : Dk}, keys s = ks → (∀ p ∈ d, kf (pr p) ∈ ks) → (∀ s', keys s' = ks → (∀ q, vl s' (kf q) = vl s (kf q) + ((d.map pr).count q : Nat)) → kq s') →
    forC (fun (x93 : (Int × Int)) (s95 : (List (List Key × Int))) (k96 : ((List (List Key × Int))) → Prop) => (∃ y122 : Int, Rx.getD s95 ([Sum.inl (if x93.2 < x93.1 then x93.2 else x93.1), Sum.inl (if x93.2 > x93.1 then x93.2 else x93.1)] : List Key) = some y122 ∧ (s95.length < 16777216 ∧ (k96 ((putD s95 ([Sum.inl (if x93.2 < x93.1 then x93.2 else x93.1), Sum.inl (if x93.2 > x93.1 then x93.2 else x93.1)] : List Key) (y122 + (1 : Int)))))))) d s kq
  | [], s, hk, _, q => q s hk fun p => by simp
  | p :: d, s, hk, hp, q => by
    have hin : kf (pr p) ∈ keys s := by
      rw [hk]
      exact hp p List.mem_cons_self
    obtain ⟨y, hy⟩ := get_in hin
    have sl : s.length = ks.length := by rw [← hk, List.length_map]
    refine ⟨y, hy, by omega, inc_go hl (d := d) (s := putD s (kf (pr p)) (y + 1)) (by rw [keys_old hin, hk]) (fun x hx => hp x (List.mem_cons_of_mem _ hx)) fun s' h1 h2 => q s' h1 fun r => ?_⟩
    rw [h2, vl_put, count_pr]
    have vy : vl s (kf (pr p)) = y := by
      show (Rx.getD s (kf (pr p))).getD 0 = y
      rw [hy]
      rfl
    by_cases c : kf (pr p) = kf r
    · rw [if_pos c, if_pos c, ← c, vy]
      omega
    · rw [if_neg c, if_neg c]
      omega
theorem inc_days {n : Nat} {ks : List (List L2.Key)} {kq : Dk → Prop} (hl : ks.length ≤ 1000) (hks : ∀ p ∈ pairs (2 * (n : Int)), kf p ∈ ks) : ∀ {ds : List (List (Int × Int))} {s : Dk}, (∀ d ∈ ds, DV n d) → keys s = ks → (∀ s', keys s' = ks → (∀ q, vl s' (kf q) = vl s (kf q) + cnt ds q) → kq s') →
    forC (fun (x74 : (List (Int × Int))) (s76 : (List (List Key × Int))) (k77 : ((List (List Key × Int))) → Prop) => (forC (fun (x93 : (Int × Int)) (s95 : (List (List Key × Int))) (k96 : ((List (List Key × Int))) → Prop) => (∃ y122 : Int, Rx.getD s95 ([Sum.inl (if x93.2 < x93.1 then x93.2 else x93.1), Sum.inl (if x93.2 > x93.1 then x93.2 else x93.1)] : List Key) = some y122 ∧ (s95.length < 16777216 ∧ (k96 ((putD s95 ([Sum.inl (if x93.2 < x93.1 then x93.2 else x93.1), Sum.inl (if x93.2 > x93.1 then x93.2 else x93.1)] : List Key) (y122 + (1 : Int)))))))) x74 (s76) fun s130 => (k77 (s130)))) ds s kq
  | [], s, _, hk, q => q s hk fun p => by rw [cnt_nil]; omega
  | d :: ds, s, hd, hk, q => inc_go hl hk (fun p hp => hks _ (pr_in (hd d List.mem_cons_self) hp)) fun s1 h1 h2 => inc_days hl hks (fun e he => hd e (List.mem_cons_of_mem _ he)) h1 fun s2 g1 g2 => q s2 g1 fun r => by
    rw [g2, h2, cnt_day]
    omega
theorem counts_ok {n : Nat} {ds : List (List (Int × Int))} (h : OKD n ds) {k : Dk → Prop} (q : ∀ r : Dk, keys r = (pairs (2 * (n : Int))).map kf → (∀ p, vl r (kf p) = cnt ds p) → k r) : M_counts ds (2 * (n : Int)) k := by
  have n2 := h.n2
  have pl := pairs_len (N := 2 * (n : Int)) (by omega)
  unfold M_counts
  refine forC_rg (fun i (s : Dk) => 0 ≤ i ∧ keys s = (prs (2 * (n : Int)) i).map kf ∧ ∀ k, vl s k = 0) _ rfl (by omega) ⟨Int.le_refl _, rfl, fun _ => rfl⟩ (fun i s k' i0 i1 ⟨_, h1, h2⟩ hk => ?_) fun s ⟨_, h1, h2⟩ => ?_
  · refine ⟨by rw [rangeI_len]; omega, ?_⟩
    refine mapC_ok (fun b => ((i, b), (0 : Int))) (fun x hx k'' hk'' => hk'') ?_
    rw [List.nil_append]
    have sl : s.length ≤ 576 := by
      have e : s.length = (prs (2 * (n : Int)) i).length := by
        have := congrArg List.length h1
        rwa [List.length_map, List.length_map] at this
      have a : (prs (2 * (n : Int)) i).length ≤ (rangeI 0 i).length * 24 := flatMap_le fun x hx => by
        have := rangeI_mem hx
        rw [List.length_map, rangeI_len]
        omega
      rw [rangeI_len] at a
      have : (i - 0).toNat * 24 ≤ 24 * 24 := Nat.mul_le_mul_right _ (by omega)
      omega
    refine ⟨by rw [List.length_map, rangeI_len]; omega, ?_⟩
    have e1 : ((rangeI (i + 1) (2 * (n : Int))).map fun b => ((i, b), (0 : Int))).map (·.1) = (rangeI (i + 1) (2 * (n : Int))).map fun b => (i, b) := by
      rw [List.map_map]
      rfl
    have nd : ((rangeI (i + 1) (2 * (n : Int))).map fun b => (i, b)).Nodup := List.pairwise_map.mpr (List.Pairwise.imp (fun {a b} hab z => by
      have := (Prod.mk.inj z).2
      omega) (range_lt _ _))
    obtain ⟨f1, f2⟩ := fold_new (ys := (rangeI (i + 1) (2 * (n : Int))).map fun b => ((i, b), (0 : Int))) (m := s) (by rw [e1]; exact nd) (fun y hy w => by
      obtain ⟨b, hb, rfl⟩ := List.mem_map.mp hy
      rw [h1] at w
      obtain ⟨p, hp, e⟩ := List.mem_map.mp w
      have e := kf_inj e
      obtain ⟨a, ha, hp2⟩ := List.mem_flatMap.mp hp
      obtain ⟨c, _, rfl⟩ := List.mem_map.mp hp2
      have := (Prod.mk.inj e).1
      have := rangeI_mem ha
      omega) (fun y hy => by
      obtain ⟨b, hb, rfl⟩ := List.mem_map.mp hy
      rfl) h2
    refine hk _ ⟨by omega, ?_, f2⟩
    rw [f1, h1, prs_succ i0, List.map_append]
    congr 1
    rw [List.map_map, List.map_map]
    rfl
  · refine inc_days (n := n) (ks := (pairs (2 * (n : Int))).map kf) (by rw [List.length_map]; omega) (fun p hp => List.mem_map_of_mem hp) h.dv h1 fun s' g1 g2 => q s' g1 fun p => ?_
    rw [g2, h2]
    omega
/-- the first pair that does not meet once -/
def fo (N : Int) (c : Int × Int → Int) : Option (Int × Int × Int) := ((pairs N).find? fun p => !(decide (c p = 1))).map fun p => (p.1, p.2, c p)
theorem due_ok {n : Nat} {ds : List (List (Int × Int))} (h : OKD n ds) {k : Option (Int × Int × Int) → Prop} (q : k (fo (2 * (n : Int)) (cnt ds))) : M_due ds (2 * (n : Int)) k := by
  have n2 := h.n2
  have pl := pairs_len (N := 2 * (n : Int)) (by omega)
  unfold M_due
  refine counts_ok h fun r hk hv => ?_
  have rl : r.length = (pairs (2 * (n : Int))).length := by
    have := congrArg List.length hk
    rwa [List.length_map, List.length_map] at this
  refine ⟨by omega, (pairs (2 * (n : Int))).filter (fun p => !(decide (cnt ds p = 1))), ?_, ?_⟩
  · have e1 : (r.filter (fdue r)).map (·.1) = (keys r).filter (fun k => !(decide (vl r k = 1))) := by
      rw [List.filter_map]
      rfl
    rw [e1, hk, List.filter_map]
    congr 1
    refine List.filter_congr fun p _ => ?_
    show (!(decide (vl r (kf p) = 1))) = _
    rw [hv]
  · intro ys hp hs
    have hys : ys = (pairs (2 * (n : Int))).filter (fun p => !(decide (cnt ds p = 1))) := srt_uniq hp (List.Perm.refl _) hs (List.Pairwise.filter _ (pairs_le _))
    have hd : ys.head? = (pairs (2 * (n : Int))).find? (fun p => !(decide (cnt ds p = 1))) := by
      rw [hys, List.head?_filter]
    have hin : ∀ p ∈ ys, p ∈ pairs (2 * (n : Int)) := fun p hp => by
      rw [hys] at hp
      exact (List.mem_filter.mp hp).1
    have s1 := tps_sh ys
    refine ⟨fun z => z = fo (2 * (n : Int)) (cnt ds), ⟨⟨s1.1, rfl, s1.2, by decide +kernel⟩, ?_⟩, fun z hz => by rw [hz]; exact q⟩
    clear hp hs hys
    unfold fo
    cases ys with
    | nil =>
      rw [if_pos (by rfl)]
      rw [← hd]
      rfl
    | cons p ys =>
      have ne : ¬ PyData.eqv (pyOf (D.lst ((p :: ys).map tp))) (pyOf (D.lst (([] : List Int).map (fun y_ : Int => (D.v (V.int y_)))))) = true := by
        simp [pyOf, pyL, PyData.eqv, PyData.eqvAll]
      rw [if_neg ne]
      refine ⟨by decide, by simp, ?_⟩
      rintro x ex
      refine ⟨by decide, by simp, ?_⟩
      rintro y ey
      have ex : x = p := ex
      have ey : y = p := ey
      rw [ex, ey]
      have mk : kf p ∈ keys r := by
        rw [hk]
        exact List.mem_map_of_mem (hin p List.mem_cons_self)
      obtain ⟨v, hv2⟩ := get_in mk
      refine ⟨v, hv2, ?_⟩
      have vv : cnt ds p = v := by
        rw [← hv]
        show (Rx.getD r (kf p)).getD 0 = v
        rw [hv2]
        rfl
      rw [← hd, List.head?_cons, Option.map_some, vv]
/-! the first odd pair of a table -/
theorem put_go {kq : Dk → Prop} : ∀ {d : List (Int × Int)} {s : Dk}, s.length + d.length ≤ 1000 → (∀ s' : Dk, s'.length ≤ s.length + d.length → (∀ q, vl s' (kf q) = vl s (kf q) + ((d.map pr).count q : Nat)) → kq s') →
    forC (fun (x35 : (Int × Int)) (s37 : (List (List Key × Int))) (k38 : ((List (List Key × Int))) → Prop) => (s37.length < 16777216 ∧ (k38 ((putD s37 ([Sum.inl (if x35.2 < x35.1 then x35.2 else x35.1), Sum.inl (if x35.2 > x35.1 then x35.2 else x35.1)] : List Key) (((Rx.getD s37 ([Sum.inl (if x35.2 < x35.1 then x35.2 else x35.1), Sum.inl (if x35.2 > x35.1 then x35.2 else x35.1)] : List Key)).getD (0 : Int)) + (1 : Int))))))) d s kq
  | [], s, _, q => q s (Nat.le_refl _) fun p => by simp
  | p :: d, s, hl, q => by
    rw [List.length_cons] at hl
    have pl := putD_len s (kf (pr p)) (vl s (kf (pr p)) + 1)
    refine ⟨by omega, put_go (d := d) (s := putD s (kf (pr p)) (vl s (kf (pr p)) + 1)) (by omega) fun s' h1 h2 => q s' (by rw [List.length_cons]; omega) fun r => ?_⟩
    rw [h2, vl_put, count_pr]
    by_cases c : kf (pr p) = kf r
    · rw [if_pos c, if_pos c, ← c]
      omega
    · rw [if_neg c, if_neg c]
      omega
theorem put_days {kq : Dk → Prop} : ∀ {ds : List (List (Int × Int))} {s : Dk}, s.length + ds.flatten.length ≤ 1000 → (∀ s' : Dk, (∀ q, vl s' (kf q) = vl s (kf q) + cnt ds q) → kq s') →
    forC (fun (x16 : (List (Int × Int))) (s18 : (List (List Key × Int))) (k19 : ((List (List Key × Int))) → Prop) => (forC (fun (x35 : (Int × Int)) (s37 : (List (List Key × Int))) (k38 : ((List (List Key × Int))) → Prop) => (s37.length < 16777216 ∧ (k38 ((putD s37 ([Sum.inl (if x35.2 < x35.1 then x35.2 else x35.1), Sum.inl (if x35.2 > x35.1 then x35.2 else x35.1)] : List Key) (((Rx.getD s37 ([Sum.inl (if x35.2 < x35.1 then x35.2 else x35.1), Sum.inl (if x35.2 > x35.1 then x35.2 else x35.1)] : List Key)).getD (0 : Int)) + (1 : Int))))))) x16 (s18) fun s70 => (k19 (s70)))) ds s kq
  | [], s, _, q => q s fun p => by rw [cnt_nil]; omega
  | d :: ds, s, hl, q => by
    rw [List.flatten_cons, List.length_append] at hl
    refine put_go (by omega) fun s1 h1 h2 => put_days (by omega) fun s2 g2 => q s2 fun r => ?_
    rw [g2, h2, cnt_day]
    omega
abbrev odd (c : Int × Int → Int) (p : Int × Int) : Bool := !(decide (c p = 1))
abbrev ansO (KM : Option (Int × Int × Int) → Prop) (B : Prop) (c : Int × Int → Int) (l : List (Int × Int)) : Prop := match l.find? (odd c) with
  | some p => KM (some (p.1, p.2, c p))
  | none => B
theorem odd_in {s : Dk} {a : Int} {KM : Option (Int × Int × Int) → Prop} {B : Prop} {c : Int × Int → Int} (hv : ∀ p, vl s (kf p) = c p) : ∀ bs : List Int, ansO KM B c (bs.map fun b => (a, b)) →
    forC (fun (x110 : Int) (s112 : Unit) (k113 : Unit → Prop) => (if (!(decide (V.int ((Rx.getD s ([Sum.inl a, Sum.inl x110] : List Key)).getD (0 : Int)) = V.int (1 : Int)))) = true then (KM (some (a, x110, ((Rx.getD s ([Sum.inl a, Sum.inl x110] : List Key)).getD (0 : Int))))) else (k113 ()))) bs () (fun _ => B)
  | [], h => h
  | b :: bs, h => by
    have e : (Rx.getD s ([Sum.inl a, Sum.inl b] : List Key)).getD (0 : Int) = c (a, b) := hv (a, b)
    show if (!(decide (V.int ((Rx.getD s ([Sum.inl a, Sum.inl b] : List Key)).getD (0 : Int)) = V.int (1 : Int)))) = true then _ else _
    rw [e, eqI]
    unfold ansO at h
    rw [List.map_cons] at h
    by_cases z : odd c (a, b) = true
    · rw [List.find?_cons_of_pos z] at h
      rw [if_pos z]
      exact h
    · rw [List.find?_cons_of_neg z] at h
      rw [if_neg z]
      exact odd_in hv bs h
theorem odd_out {n : Nat} {tb : List (List (Int × Int))} (h : OKD n tb) {s : Dk} {KM : Option (Int × Int × Int) → Prop} {c : Int × Int → Int} (hv : ∀ p, vl s (kf p) = c p) : ∀ as : List Int, ansO KM (KM none) c (as.flatMap fun a => (rangeI (a + 1) (2 * (n : Int))).map fun b => (a, b)) →
    forC (fun (x92 : Int) (s94 : Unit) (k95 : Unit → Prop) => (M_Table_size tb fun r105 => (forC (fun (x110 : Int) (s112 : Unit) (k113 : Unit → Prop) => (if (!(decide (V.int ((Rx.getD s ([Sum.inl x92, Sum.inl x110] : List Key)).getD (0 : Int)) = V.int (1 : Int)))) = true then (KM (some (x92, x110, ((Rx.getD s ([Sum.inl x92, Sum.inl x110] : List Key)).getD (0 : Int))))) else (k113 ()))) (rangeI (x92 + (1 : Int)) r105) () fun s135 => (k95 ())))) as () (fun _ => KM none)
  | [], q => q
  | a :: as, q => by
    rw [forC]
    refine size_ok h ?_
    refine odd_in hv _ ?_
    unfold ansO at q ⊢
    rw [List.flatMap_cons, List.find?_append] at q
    cases e : ((rangeI (a + 1) (2 * (n : Int))).map fun b => (a, b)).find? (odd c) with
    | some p =>
      rw [e] at q
      exact q
    | none =>
      rw [e] at q
      exact odd_out h hv as q
theorem first_ok {n : Nat} {tb : List (List (Int × Int))} (h : OKD n tb) {k : Option (Int × Int × Int) → Prop} (q : k (fo (2 * (n : Int)) (cnt tb))) : M_first_odd_pair tb k := by
  have f := h.fl
  unfold M_first_odd_pair
  refine rounds_get h (put_days (by simp only [List.length_nil]; omega) fun s hs => size_ok h (odd_out h (c := cnt tb) (fun p => ?_) _ ?_))
  · rw [hs]
    show 0 + _ = _
    omega
  · unfold fo at q
    unfold ansO
    show match (pairs (2 * (n : Int))).find? (odd (cnt tb)) with
      | some p => k (some (p.1, p.2, cnt tb p))
      | none => k none
    cases e : (pairs (2 * (n : Int))).find? (odd (cnt tb)) with
    | some p =>
      rw [show (pairs (2 * (n : Int))).find? (fun p => !(decide (cnt tb p = 1))) = some p from e] at q
      exact q
    | none =>
      rw [show (pairs (2 * (n : Int))).find? (fun p => !(decide (cnt tb p = 1))) = none from e] at q
      exact q
theorem single_ok {n : Nat} {tb : List (List (Int × Int))} (h : OKD n tb) {k : Bool → Prop} (q : k (fo (2 * (n : Int)) (cnt tb)).isNone) : M_is_single tb k := first_ok h q
/-! what doesn't change the counts -/
theorem cnt_perm {ds es : List (List (Int × Int))} (h : (es.flatten.map pr).Perm (ds.flatten.map pr)) : cnt es = cnt ds := by
  funext q
  unfold cnt
  rw [h.count_eq]
theorem PE.flat : ∀ {ds es : List (List (Int × Int))}, PE ds es → (es.flatten.map pr).Perm (ds.flatten.map pr)
  | [], [], _ => List.Perm.refl _
  | d :: ds, e :: es, h => by
    rw [List.flatten_cons, List.flatten_cons, List.map_append, List.map_append]
    exact (h.1.map pr).append (PE.flat h.2)
  | [], _ :: _, h => h.elim
  | _ :: _, [], h => h.elim
abbrev SW (d e : List (Int × Int)) : Prop := Al (fun x y : Int × Int => y = (x.2, x.1) ∨ y = (x.1, x.2)) d e
theorem SW.pr : ∀ {d e : List (Int × Int)}, SW d e → e.map pr = d.map pr
  | [], [], _ => rfl
  | x :: d, y :: e, h => by
    rw [List.map_cons, List.map_cons, SW.pr h.2]
    congr 1
    rcases h.1 with z | z
    · rw [z]
      exact pr_swp x
    · rw [z]
  | [], _ :: _, h => h.elim
  | _ :: _, [], h => h.elim
theorem SWs.flat : ∀ {ds es : List (List (Int × Int))}, Al SW ds es → es.flatten.map pr = ds.flatten.map pr
  | [], [], _ => rfl
  | d :: ds, e :: es, h => by
    rw [List.flatten_cons, List.flatten_cons, List.map_append, List.map_append, SWs.flat h.2, SW.pr h.1]
  | [], _ :: _, h => h.elim
  | _ :: _, [], h => h.elim
theorem SW.dv {n : Nat} {d e : List (Int × Int)} (h : SW d e) (hd : DV n d) : DV n e := ⟨by rw [al_len h]; exact hd.len, (turned_dv (n := n) h).trans hd.all⟩
theorem OKD.sw {n : Nat} {ds es : List (List (Int × Int))} (h : OKD n ds) (p : Al SW ds es) : OKD n es := by
  have l := al_len p
  refine ⟨h.n1, h.n2, by rw [l]; exact h.pos, by rw [l]; exact h.len, fun e he => ?_⟩
  obtain ⟨d, hd, q⟩ := al_mem p e he
  exact q.dv (h.dv d hd)
theorem OKD.perm {n : Nat} {ds es : List (List (Int × Int))} (h : OKD n ds) (p : es.Perm ds) : OKD n es :=
  ⟨h.n1, h.n2, by rw [p.length_eq]; exact h.pos, by rw [p.length_eq]; exact h.len, fun e he => h.dv e (p.mem_iff.mp he)⟩
theorem flat_perm {ds es : List (List (Int × Int))} (p : es.Perm ds) : (es.flatten.map pr).Perm (ds.flatten.map pr) := by
  refine List.Perm.map pr ?_
  have e1 : es.flatten = es.flatMap id := List.flatMap_id.symm
  have e2 : ds.flatten = ds.flatMap id := List.flatMap_id.symm
  rw [e1, e2]
  exact p.flatMap_right id
theorem any_ok {n : Nat} {ds : List (List (Int × Int))} (h : OKD n ds) {k : List (List (Int × Int)) → Prop} (q : ∀ es, Al SW ds es → k es) : M_any_way ds k := by
  have l := h.len
  have n2 := h.n2
  unfold M_any_way
  refine forC_al SW (fun d hd s k' hl hk => ?_) fun ys hy => ?_
  · have dl := (h.dv d hd).len
    refine ⟨by omega, ?_⟩
    refine mapC_rel (fun x y : Int × Int => y = (x.2, x.1) ∨ y = (x.1, x.2)) (fun x hx k'' hk'' => ?_) fun ys hy => ⟨by simp only [List.length_nil] at hl; omega, hk _ hy⟩
    refine ⟨fun y => y = (x.2, x.1) ∨ y = (x.1, x.2), draw_ok (by decide) (by decide) fun z z0 z1 => ?_, fun y hy => hk'' y hy⟩
    by_cases c3 : z = 0
    · rw [if_pos (by rw [c3]; rfl)]
      exact .inl rfl
    · rw [if_neg (by rw [eqI]; simpa using c3)]
      exact .inr rfl
  · rw [List.nil_append]
    exact q ys hy
theorem rangeI_asc (lo hi : Int) : (rangeI lo hi).Pairwise (· < ·) := by
  unfold rangeI
  rw [List.pairwise_map]
  exact (List.pairwise_lt_range).imp fun h => by omega
theorem rangeI_in {lo hi x : Int} : x ∈ rangeI lo hi ↔ lo ≤ x ∧ x < hi := by
  refine ⟨rangeI_mem, fun ⟨h1, h2⟩ => ?_⟩
  unfold rangeI
  exact List.mem_map.mpr ⟨(x - lo).toNat, List.mem_range.mpr (by omega), by omega⟩
theorem emod_dvd {m x y : Int} (h : x % m = y % m) : m ∣ x - y := by
  refine ⟨x / m - y / m, ?_⟩
  have h1 := Int.mul_ediv_add_emod x m
  have h2 := Int.mul_ediv_add_emod y m
  rw [Int.mul_sub]
  omega
theorem emod_is {m x t : Int} (t0 : 0 ≤ t) (t1 : t < m) : x % m = t ↔ m ∣ x - t := by
  have tt : t % m = t := Int.emod_eq_of_lt t0 t1
  constructor
  · intro h
    refine Int.dvd_of_emod_eq_zero (Int.emod_eq_emod_iff_emod_sub_eq_zero.mp ?_)
    rw [h, tt]
  · intro h
    have := Int.emod_eq_emod_iff_emod_sub_eq_zero.mpr (Int.emod_eq_zero_of_dvd h)
    rw [this, tt]
theorem dvd_emod_sub {m x : Int} : m ∣ x % m - x := by
  refine ⟨-(x / m), ?_⟩
  have := Int.emod_add_mul_ediv x m
  grind
theorem days_perm {b w ring : Int} (r0 : 0 < ring) (hw : w = 1 ∨ w = -1) : ((rangeI 0 ring).map fun i => (b + w * i) % ring).Perm (rangeI 0 ring) := by
  refine (List.perm_ext_iff_of_nodup ?_ ?_).mpr fun x => ?_
  · unfold List.Nodup
    rw [List.pairwise_map]
    refine List.Pairwise.imp_of_mem (fun {i j} hi hj hij e => ?_) (rangeI_asc 0 ring)
    obtain ⟨i0, i1⟩ := rangeI_mem hi
    obtain ⟨j0, j1⟩ := rangeI_mem hj
    have d := emod_dvd e
    have d2 : ring ∣ j - i := by
      rcases hw with rfl | rfl
      · obtain ⟨v, hv⟩ := d
        exact ⟨-v, by rw [Int.mul_neg]; omega⟩
      · obtain ⟨v, hv⟩ := d
        exact ⟨v, by omega⟩
    have := Int.le_of_dvd (by omega) d2
    omega
  · exact (rangeI_asc 0 ring).imp fun {i j} h => by omega
  · rw [List.mem_map]
    constructor
    · rintro ⟨i, _, rfl⟩
      exact rangeI_in.mpr ⟨Int.emod_nonneg _ (by omega), Int.emod_lt_of_pos _ r0⟩
    · intro hx
      obtain ⟨x0, x1⟩ := rangeI_mem hx
      refine ⟨(w * (x - b)) % ring, rangeI_in.mpr ⟨Int.emod_nonneg _ (by omega), Int.emod_lt_of_pos _ r0⟩, ?_⟩
      rw [emod_is x0 x1]
      have d := @dvd_emod_sub ring (w * (x - b))
      obtain ⟨v, hv⟩ := d
      rcases hw with rfl | rfl
      · exact ⟨v, by omega⟩
      · exact ⟨-v, by rw [Int.mul_neg]; omega⟩
theorem at_nat' {α : Type} {xs : List α} {i : Int} {c : α} (h0 : 0 ≤ i) (h : xs[i.toNat]? = some c) : atI xs i = some c := by
  rw [show i = ((i.toNat : Nat) : Int) by omega]
  exact atI_nat h
theorem cut_dropM {α : Type} (xs : List α) {k : Int} (h : 0 ≤ k) : cutM xs (some k) none = xs.drop k.toNat := by
  obtain ⟨n, rfl⟩ := Int.eq_ofNat_of_zero_le h
  unfold cutM
  rw [HT.sIx_none, HT.sIx_nat, Int.toNat_natCast]
  by_cases c : n ≤ xs.length
  · rw [Nat.min_eq_left c, List.take_of_length_le (by rw [List.length_drop]; omega)]
  · rw [Nat.min_eq_right (by omega), Nat.sub_self, List.take_zero, List.drop_of_length_le (by omega)]
theorem atI_last {α : Type} (i : List α) (x : α) : atI (i ++ [x]) (-1) = some x := by
  unfold atI
  have e : ixN (i ++ [x]).length (-1) = some i.length := by
    unfold ixN
    simp
    omega
  rw [e]
  simp
/-! the days that are drawn -/
theorem flat2 {f g : Int → Int} : ∀ l : List Int, (l.flatMap fun k => [f k, g k]).Perm (l.map f ++ l.map g)
  | [] => List.Perm.refl _
  | k :: l => by
    rw [List.flatMap_cons, List.map_cons, List.map_cons]
    show (f k :: g k :: (l.flatMap fun k => [f k, g k])).Perm (f k :: (l.map f ++ g k :: l.map g))
    refine List.Perm.cons _ ?_
    exact ((flat2 l).cons _).trans (List.perm_middle.symm)
theorem range_split {a b c : Int} (h1 : a ≤ b) (h2 : b ≤ c) : (rangeI a b ++ rangeI b c).Perm (rangeI a c) := by
  refine (List.perm_ext_iff_of_nodup ?_ ?_).mpr fun x => ?_
  · refine List.nodup_append.mpr ⟨(range_lt a b).imp fun {i j} h => by omega, (range_lt b c).imp fun {i j} h => by omega, fun x hx y hy e => ?_⟩
    have := rangeI_mem hx
    have := rangeI_mem hy
    omega
  · exact (range_lt a c).imp fun {i j} h => by omega
  · rw [List.mem_append, mem_range, mem_range, mem_range]
    omega
theorem range_flip {n r : Int} (h : 1 ≤ n) (hr : r = 2 * n - 1) : ((rangeI 1 n).map fun k => r - k).Perm (rangeI n r) := by
  refine (List.perm_ext_iff_of_nodup ?_ ?_).mpr fun x => ?_
  · exact List.pairwise_map.mpr ((range_lt 1 n).imp fun {i j} h => by omega)
  · exact (range_lt n r).imp fun {i j} h => by omega
  · rw [List.mem_map, mem_range]
    constructor
    · rintro ⟨k, hk, rfl⟩
      have := rangeI_mem hk
      omega
    · intro hx
      exact ⟨r - x, mem_range.mpr (by omega), by omega⟩
theorem circ_dv {n : Nat} (h1 : 2 ≤ n) {x : Int} (x0 : 0 ≤ x) (x1 : x < 2 * (n : Int) - 1) :
    DV n (([((2 * (n : Int) - (1 : Int)), x)] : List (Int × Int)) ++ (rangeI 1 (n : Int)).map fun k => (((x + k) % (2 * (n : Int) - (1 : Int))), ((x - k) % (2 * (n : Int) - (1 : Int))))) := by
  generalize hr : (2 * (n : Int) - (1 : Int)) = r at *
  refine ⟨by rw [List.length_append, List.length_map, rangeI_len, List.length_singleton]; omega, ?_⟩
  rw [List.flatMap_append, List.flatMap_map]
  show ([r, x] ++ ((rangeI 1 (n : Int)).flatMap fun k => [(x + k) % r, (x - k) % r])).Perm _
  have e2 : rangeI 0 (2 * (n : Int)) = rangeI 0 r ++ [r] := by
    rw [show 2 * (n : Int) = r + 1 from by omega]
    exact range_snoc (by omega)
  rw [e2]
  refine List.Perm.trans ?_ (List.perm_append_comm (l₁ := [r]))
  refine List.Perm.cons r ?_
  have p := days_perm (b := x) (w := 1) (ring := r) (by omega) (.inl rfl)
  refine List.Perm.trans ?_ p
  have s1 := range_split (a := 0) (b := (n : Int)) (c := r) (by omega) (by omega)
  refine List.Perm.trans ?_ (s1.map fun i => (x + 1 * i) % r)
  rw [List.map_append, rangeI_cons (a := 0) (b := (n : Int)) (by omega), List.map_cons]
  have ex : (x + 1 * 0) % r = x := by
    rw [Int.mul_zero, Int.add_zero]
    exact Int.emod_eq_of_lt x0 (by omega)
  rw [ex]
  refine List.Perm.cons x ?_
  refine (flat2 _).trans ?_
  refine List.Perm.append ?_ ?_
  · have e3 : (rangeI 1 (n : Int)).map (fun k => (x + k) % r) = (rangeI (0 + 1) (n : Int)).map fun i => (x + 1 * i) % r := by
      refine List.map_congr_left fun k _ => ?_
      rw [Int.one_mul]
    rw [e3]
  · refine List.Perm.trans ?_ ((range_flip (n := (n : Int)) (r := r) (by omega) (by omega)).map fun i => (x + 1 * i) % r)
    rw [List.map_map]
    have e4 : (rangeI 1 (n : Int)).map (fun k => (x - k) % r) = (rangeI 1 (n : Int)).map ((fun i => (x + 1 * i) % r) ∘ fun k => r - k) := by
      refine List.map_congr_left fun k _ => ?_
      show (x - k) % r = (x + 1 * (r - k)) % r
      rw [Int.one_mul, show x + (r - k) = x - k + r from by omega, Int.add_emod_right]
    rw [e4]
theorem circle_ok {n : Nat} (h1 : 2 ≤ n) (h2 : n ≤ 12) {k : List (List (Int × Int)) → Prop} (q : ∀ ds, OKD n ds → ds.length = 2 * n - 1 → k ds) : M_circle (2 * (n : Int)) k := by
  unfold M_circle
  have hn : 2 * (n : Int) / 2 = (n : Int) := by omega
  refine forC_al (fun (_ : Int) d => DV n d) (fun x hx s k' hl hk => ?_) fun ys hy => ?_
  · have hb := rangeI_mem hx
    rw [List.length_nil, rangeI_len] at hl
    rw [hn]
    refine ⟨by rw [rangeI_len]; omega, ?_⟩
    refine mapC_ok (fun k => (((x + k) % (2 * (n : Int) - (1 : Int))), ((x - k) % (2 * (n : Int) - (1 : Int))))) (fun y hy k'' hk'' => ⟨by omega, by omega, hk''⟩) ?_
    rw [List.nil_append]
    refine ⟨?_, by omega, hk _ (circ_dv h1 hb.1 hb.2)⟩
    rw [List.length_map, rangeI_len, List.length_singleton, sizeLine_eq]
    omega
  · have l := al_len hy
    rw [rangeI_len] at l
    rw [List.nil_append]
    refine q ys ⟨h1, h2, by omega, by omega, fun d hd => ?_⟩ (by omega)
    obtain ⟨_, _, r⟩ := al_mem hy d hd
    exact r
theorem get_all (r : List Int) : (rangeI 0 (r.length : Int)).map (fun x => r.getD x.toNat 0) = r := by
  unfold rangeI
  rw [List.map_map]
  refine List.ext_getElem (by simp) fun i h1 h2 => ?_
  rw [List.getElem_map, List.getElem_range]
  show r.getD (0 + (i : Int)).toNat 0 = _
  rw [show (0 + (i : Int)).toNat = i by omega, List.getD_eq_getElem?_getD, List.getElem?_eq_getElem h2]
  rfl
abbrev lab (r : List Int) (p : Int × Int) : Int × Int := (r.getD p.1.toNat 0, r.getD p.2.toNat 0)
theorem two_lab (r : List Int) : ∀ d : List (Int × Int), (d.map (lab r)).flatMap two = (d.flatMap two).map fun x => r.getD x.toNat 0
  | [] => rfl
  | p :: d => by
    rw [List.map_cons, List.flatMap_cons, List.flatMap_cons, two_lab r d, List.map_append]
    rfl
theorem lab_dv {n : Nat} {r : List Int} (hr : r.Perm (rangeI 0 (2 * (n : Int)))) {d : List (Int × Int)} (h : DV n d) : DV n (d.map (lab r)) := by
  have hl := hr.length_eq
  rw [rangeI_len] at hl
  have hl2 : (r.length : Int) = 2 * (n : Int) := by omega
  refine ⟨by rw [List.length_map]; exact h.len, ?_⟩
  rw [two_lab]
  refine (h.all.map _).trans ?_
  have e := get_all r
  rw [hl2] at e
  rw [e]
  exact hr
theorem DV.perm {n : Nat} {d e : List (Int × Int)} (h : DV n d) (p : e.Perm d) : DV n e := ⟨by rw [p.length_eq]; exact h.len, (p.flatMap_right two).trans h.all⟩
theorem DV.swp {n : Nat} {d : List (Int × Int)} (h : DV n d) : DV n (d.map swp) := by
  refine ⟨by rw [List.length_map]; exact h.len, List.Perm.trans ?_ h.all⟩
  have hv := h.len
  clear h hv
  induction d with
  | nil => exact List.Perm.refl _
  | cons p d ih =>
    rw [List.map_cons, List.flatMap_cons, List.flatMap_cons]
    exact List.Perm.append (List.Perm.swap _ _ _) ih
theorem DV.cross {n : Nat} {p q : Int × Int} {d : List (Int × Int)} (h : DV n (p :: q :: d)) : DV n ([(p.1, q.2), (q.1, p.2)] ++ d) := by
  refine ⟨by simpa using h.len, List.Perm.trans ?_ h.all⟩
  show (p.1 :: q.2 :: q.1 :: p.2 :: d.flatMap two).Perm (p.1 :: p.2 :: q.1 :: q.2 :: d.flatMap two)
  refine List.Perm.cons _ ?_
  have a : ([q.2, q.1, p.2] : List Int).Perm [p.2, q.1, q.2] := (List.reverse_perm [p.2, q.1, q.2])
  exact a.append_right (d.flatMap two)
theorem at_in {ys : List (List (Int × Int))} {r : Int} (r0 : 0 ≤ r) (r1 : r < (ys.length : Int)) : ∃ y, atI ys r = some y ∧ y ∈ ys ∧ y = ys[r.toNat]'(by omega) := by
  refine ⟨ys[r.toNat]'(by omega), at_nat' r0 (List.getElem?_eq_getElem (by omega)), List.getElem_mem _, rfl⟩
theorem at_prev {ys : List (List (Int × Int))} {r : Int} (r0 : 0 ≤ r) (r1 : r < (ys.length : Int)) : ∃ y, atI ys (r - 1) = some y ∧ y ∈ ys := by
  by_cases c : r = 0
  · subst c
    have ne : ys ≠ [] := fun z => by rw [z] at r1; simp at r1
    refine ⟨ys.getLast ne, ?_, List.getLast_mem ne⟩
    have e := List.dropLast_concat_getLast ne
    have a := atI_last ys.dropLast (ys.getLast ne)
    rw [e] at a
    exact a
  · obtain ⟨y, h1, h2, _⟩ := at_in (ys := ys) (r := r - 1) (by omega) (by omega)
    exact ⟨y, h1, h2⟩
theorem OKD.set {n : Nat} {ys : List (List (Int × Int))} (h : OKD n ys) {d : List (Int × Int)} (hd : DV n d) (i : Nat) : OKD n (ys.set i d) :=
  ⟨h.n1, h.n2, by rw [List.length_set]; exact h.pos, by rw [List.length_set]; exact h.len, fun e he => by
    rcases List.mem_or_eq_of_mem_set he with z | z
    · exact h.dv e z
    · rw [z]
      exact hd⟩
theorem pairs_days_ok {n : Nat} (h1 : 2 ≤ n) (h2 : n ≤ 12) {k : List (List (Int × Int)) → Prop} (q : ∀ ds, OKD n ds → k ds) : M_pairs_days (2 * (n : Int)) k := by
  unfold M_pairs_days
  refine circle_ok h1 h2 fun c hc lc => mixedL_ok (by have := hc.len; omega) fun m hm => ?_
  have hm2 := hc.perm hm
  have lm := hm.length_eq
  refine ⟨?_, mixed_ok (by rw [rangeI_len]; omega) fun lot hlot => ⟨by omega, ?_⟩⟩
  · first | exact ⟨by omega, by omega⟩ | (unfold RgOk; omega) | (unfold RgOk; refine ⟨?_, ?_⟩ <;> omega)
  have hl := hlot.length_eq
  rw [rangeI_len] at hl
  refine mapC_rel (fun (_ : List (Int × Int)) d => DV n d) (fun x hx k' hk => ?_) fun ys hy => ?_
  · have hv := hm2.dv x hx
    have lx := hv.len
    refine mixedP_ok (by omega) fun r hr => ?_
    have rl := hr.length_eq
    have rv := hv.perm hr
    refine ⟨by omega, ?_⟩
    refine mapC_ok (lab lot) (fun p hp k'' hk'' => ?_) (by rw [List.nil_append]; exact hk _ (lab_dv hlot rv))
    have b := rv.bd hp
    refine ⟨b.1.1, by omega, ?_⟩
    rintro _ rfl
    refine ⟨b.2.1, by omega, ?_⟩
    rintro _ rfl
    rw [getD_at (l := lot) (i := p.1.toNat) (by omega), getD_at (l := lot) (i := p.2.toNat) (by omega)]
    exact hk''
  · rw [List.nil_append]
    have ly := al_len hy
    have hys : OKD n ys := ⟨h1, h2, by omega, by omega, fun d hd => by
      obtain ⟨_, _, r⟩ := al_mem hy d hd
      exact r⟩
    refine draw_ok (by decide) (by decide) fun w w0 w1 => draw_ok (by omega) (by omega) fun r r0 r1 => ?_
    have len1 : ∀ d, DV n d → d.length < 100000 := fun d hd => by have := hd.len; omega
    by_cases c1 : w = 1
    · rw [if_pos (by rw [c1]; rfl)]
      obtain ⟨i, rfl⟩ := Int.eq_ofNat_of_zero_le r0
      have e2 : cutM ys (some ((i : Int) + (1 : Int))) none = ys.drop (i + 1) := by
        have := cut_dropM ys (k := (i : Int) + 1) (by omega)
        rw [this]
        congr 1
      rw [cut_takeM, e2]
      have l2 : (ys.take i ++ ys.drop (i + 1)).length = ys.length - 1 := by
        rw [List.length_append, List.length_take, List.length_drop]
        omega
      refine ⟨by rw [sizeLine_eq, List.length_take, List.length_drop]; omega, q _ ⟨h1, h2, by rw [l2]; omega, by rw [l2]; omega, fun d hd => ?_⟩⟩
      rcases List.mem_append.mp hd with z | z
      · exact hys.dv d (List.mem_of_mem_take z)
      · exact hys.dv d (List.mem_of_mem_drop z)
    rw [if_neg (by rw [eqI]; simpa using c1)]
    by_cases c2 : w = 2
    · rw [if_pos (by rw [c2]; rfl)]
      obtain ⟨y, hy1, hy2, _⟩ := at_in r0 r1
      have hv := hys.dv y hy2
      refine ⟨y, hy1, len1 y hv, ?_⟩
      refine mapC_ok swp (fun p hp k'' hk'' => hk'') ?_
      rw [List.nil_append]
      refine ⟨by rw [sizeLine_eq, List.length_singleton]; omega, q _ ⟨h1, h2, by rw [List.length_append]; omega, by rw [List.length_append, List.length_singleton]; omega, fun d hd => ?_⟩⟩
      rcases List.mem_append.mp hd with z | z
      · exact hys.dv d z
      · rw [List.mem_singleton.mp z]
        exact hv.swp
    rw [if_neg (by rw [eqI]; simpa using c2)]
    by_cases c3 : w = 3
    · rw [if_pos (by rw [c3]; rfl)]
      obtain ⟨y, hy1, hy2⟩ := at_prev r0 r1
      have hv := hys.dv y hy2
      refine ⟨y, hy1, len1 y hv, ?_⟩
      refine mapC_ok swp (fun p hp k'' hk'' => hk'') ?_
      rw [List.nil_append]
      exact ⟨r0, by omega, q _ (hys.set hv.swp _)⟩
    rw [if_neg (by rw [eqI]; simpa using c3)]
    by_cases c4 : w = 4
    · rw [if_pos (by rw [c4]; rfl)]
      obtain ⟨y, hy1, hy2, _⟩ := at_in r0 r1
      have hv := hys.dv y hy2
      have ly := hv.len
      obtain ⟨p, p2, rest, rfl⟩ : ∃ p p2 rest, y = p :: p2 :: rest := by
        match y, ly with
        | [], l => simp at l; omega
        | [_], l => simp at l; omega
        | p :: p2 :: rest, _ => exact ⟨p, p2, rest, rfl⟩
      refine ⟨_, hy1, by decide, by simp, ?_⟩
      rintro x ex
      refine ⟨_, hy1, by decide, by simp, ?_⟩
      rintro x2 ex2
      have ex : x = p := ex
      have ex2 : x2 = p2 := ex2
      refine ⟨_, hy1, ?_⟩
      have e3 : cutM (p :: p2 :: rest) (some (2 : Int)) none = rest := cut_dropM (p :: p2 :: rest) (k := 2) (by decide)
      rw [e3, ex, ex2]
      simp only [List.length_cons] at ly
      refine ⟨by rw [sizeLine_eq]; simp only [List.length_cons, List.length_nil]; omega, r0, by omega, q _ (hys.set hv.cross _)⟩
    rw [if_neg (by rw [eqI]; simpa using c4)]
    by_cases c5 : w = 5
    · rw [if_pos (by rw [c5]; rfl)]
      refine draw_ok (by decide) (by decide) fun t t0 t1 => ⟨by rw [rangeI_len]; omega, ?_⟩
      refine mapC_any (DV n) (fun x hx k' hk => day_ok h1 h2 fun d hd => hk d hd) fun zs hl hp => ?_
      rw [rangeI_len] at hl
      rw [List.nil_append]
      refine ⟨by rw [sizeLine_eq]; omega, q _ ⟨h1, h2, by rw [List.length_append]; omega, by rw [List.length_append]; omega, fun d hd => ?_⟩⟩
      rcases List.mem_append.mp hd with z | z
      · exact hys.dv d z
      · exact hp d z
    rw [if_neg (by rw [eqI]; simpa using c5)]
    exact q _ hys
/-! who meets whom, all together -/
abbrev mts (d : List (Int × Int)) (t : Int × Int) : Bool := decide ((t.1, t.2) ∈ d ∨ (t.2, t.1) ∈ d)
theorem gm_len {a b : Int} : ∀ {is : List Int} {tb : List (List (Int × Int))}, is.length = tb.length → ((is.zip tb).filterMap (gm a b)).length = tb.countP fun d => mts d (a, b)
  | [], [], _ => rfl
  | i :: is, d :: tb, h => by
    have ih := gm_len (a := a) (b := b) (is := is) (tb := tb) (by simpa using h)
    rw [List.zip_cons_cons, List.countP_cons]
    by_cases c : (a, b) ∈ d ∨ (b, a) ∈ d
    · rw [List.filterMap_cons_some (show gm a b (i, d) = some i from if_pos c), List.length_cons, ih, if_pos (decide_eq_true c)]
    · rw [List.filterMap_cons_none (show gm a b (i, d) = none from if_neg c), ih, if_neg (by simpa using c)]
      rfl
  | [], _ :: _, h => by simp at h
  | _ :: _, [], h => by simp at h
def tri (i : Int) : List (Int × Int) := (rangeI 0 i).flatMap fun w => (rangeI 0 w).map fun m => (w, m)
theorem mem_tri {i : Int} {t : Int × Int} : t ∈ tri i ↔ 0 ≤ t.2 ∧ t.2 < t.1 ∧ t.1 < i := by
  unfold tri
  rw [List.mem_flatMap]
  constructor
  · rintro ⟨a, ha, h⟩
    obtain ⟨b, hb, rfl⟩ := List.mem_map.mp h
    have h1 := rangeI_mem ha
    have h2 := rangeI_mem hb
    exact ⟨h2.1, h2.2, h1.2⟩
  · rintro ⟨h1, h2, h3⟩
    exact ⟨t.1, mem_range.mpr ⟨by omega, h3⟩, List.mem_map.mpr ⟨t.2, mem_range.mpr ⟨h1, h2⟩, rfl⟩⟩
theorem tri_nd (i : Int) : (tri i).Nodup := by
  unfold tri
  refine List.pairwise_flatMap.mpr ⟨fun a _ => ?_, List.Pairwise.imp ?_ (range_lt 0 i)⟩
  · refine List.pairwise_map.mpr (List.Pairwise.imp ?_ (range_lt _ _))
    intro b c h z
    have := (Prod.mk.inj z).2
    omega
  · intro a b h x hx y hy z
    obtain ⟨_, _, rfl⟩ := List.mem_map.mp hx
    obtain ⟨_, _, rfl⟩ := List.mem_map.mp hy
    have := (Prod.mk.inj z).1
    omega
def ps (p : Int × Int) : Int × Int := if p.2 < p.1 then p else (p.2, p.1)
theorem day_count {n : Nat} {d : List (Int × Int)} (h : DV n d) : (tri (2 * (n : Int))).countP (mts d) = n := by
  rw [List.countP_eq_length_filter]
  have p : ((tri (2 * (n : Int))).filter (mts d)).Perm (d.map ps) := by
    refine (List.perm_ext_iff_of_nodup ((tri_nd _).filter _) ?_).mpr fun t => ?_
    · refine List.pairwise_map.mpr (List.Pairwise.imp_of_mem (fun {x y} hx hy hne e => ?_) (turn_nodup h.nd))
      have xy : x = y ∨ (x.1 = y.2 ∧ x.2 = y.1) := by
        unfold ps at e
        split at e <;> split at e
        · exact .inl e
        · rw [e]
          exact .inr ⟨rfl, rfl⟩
        · rw [← e]
          exact .inr ⟨rfl, rfl⟩
        · have := Prod.mk.inj e
          exact .inl (Prod.ext this.2 this.1)
      rcases xy with z | z
      · exact hne z
      · exact xor_go (x := x.1) h.nd ⟨List.mem_map.mpr ⟨x, hx, rfl⟩, List.mem_map.mpr ⟨y, hy, z.1.symm⟩⟩
    · rw [List.mem_filter, mem_tri, List.mem_map]
      constructor
      · rintro ⟨⟨t0, t1, t2⟩, m⟩
        rcases of_decide_eq_true m with m | m
        · exact ⟨_, m, by unfold ps; rw [if_pos t1]⟩
        · refine ⟨_, m, ?_⟩
          unfold ps
          rw [if_neg (by show ¬ t.1 < t.2; omega)]
      · rintro ⟨x, hx, rfl⟩
        have b := h.bd hx
        have e := h.ne hx
        unfold ps
        by_cases c : x.2 < x.1
        · rw [if_pos c]
          exact ⟨⟨b.2.1, c, b.1.2⟩, decide_eq_true (.inl hx)⟩
        · rw [if_neg c]
          exact ⟨⟨b.1.1, by show x.1 < x.2; omega, b.2.2⟩, decide_eq_true (.inr hx)⟩
  rw [p.length_eq, List.length_map]
  exact h.len
theorem sum_two {α : Type} {f g : α → Int} : ∀ l : List α, (l.map fun x => f x + g x).sum = (l.map f).sum + (l.map g).sum
  | [] => rfl
  | x :: l => by
    rw [List.map_cons, List.map_cons, List.map_cons, List.sum_cons, List.sum_cons, List.sum_cons, sum_two l]
    omega
theorem sum_count {α : Type} {p : α → Bool} : ∀ l : List α, (l.map fun x => if p x = true then (1 : Int) else 0).sum = ((l.countP p : Nat) : Int)
  | [] => rfl
  | x :: l => by
    rw [List.map_cons, List.sum_cons, sum_count l, List.countP_cons]
    by_cases c : p x = true
    · rw [if_pos c, if_pos c]
      omega
    · rw [if_neg c, if_neg c]
      omega
theorem sum_zero {α : Type} : ∀ l : List α, (l.map fun _ => (0 : Int)).sum = 0
  | [] => rfl
  | x :: l => by
    rw [List.map_cons, List.sum_cons, sum_zero l]
    rfl
theorem tot {n : Nat} : ∀ {tb : List (List (Int × Int))}, (∀ d ∈ tb, DV n d) → ((tri (2 * (n : Int))).map fun t => ((tb.countP fun d => mts d t : Nat) : Int)).sum = (tb.length : Int) * (n : Int)
  | [], _ => by
    show ((tri (2 * (n : Int))).map fun _ => (0 : Int)).sum = _
    rw [sum_zero]
    simp
  | d :: tb, h => by
    have ih := tot (tb := tb) fun e he => h e (List.mem_cons_of_mem _ he)
    have e : (fun t : Int × Int => (((d :: tb).countP fun d => mts d t : Nat) : Int)) = fun t => ((tb.countP fun d => mts d t : Nat) : Int) + if mts d t = true then (1 : Int) else 0 := by
      funext t
      rw [List.countP_cons]
      by_cases c : mts d t = true
      · rw [if_pos c, if_pos c]
        omega
      · rw [if_neg c, if_neg c]
        omega
    rw [e, sum_two, ih, sum_count, day_count (h d List.mem_cons_self), List.length_cons]
    have : (((tb.length + 1 : Nat) : Int)) * (n : Int) = (tb.length : Int) * (n : Int) + (n : Int) := by
      rw [Int.natCast_add, Int.add_mul]
      simp
    omega
theorem tri_succ {i : Int} (h : 0 ≤ i) : tri (i + 1) = tri i ++ (rangeI 0 i).map fun m => (i, m) := by
  unfold tri
  rw [range_snoc h, List.flatMap_append]
  simp
theorem total_ok {n : Nat} {tb : List (List (Int × Int))} (h : OKD n tb) {k : Int → Prop} (q : k ((tb.length : Int) * (n : Int))) :
    forC (fun (x124 : Int) (s126 : Int) (k127 : Int → Prop) => ((rangeI (0 : Int) x124).length < 100000 ∧ mapC (fun (x145 : Int) (k138 : Int → Prop) => (M_Table_met_in tb x124 x145 fun r152 => (k138 (r152.length : Int)))) (rangeI (0 : Int) x124) [] fun ys162 => (k127 ((s126 + (List.sum ys162)))))) (rangeI (0 : Int) (2 * (n : Int))) ((0 : Int)) k := by
  have n2 := h.n2
  refine forC_rg (fun i (s : Int) => 0 ≤ i ∧ s = ((tri i).map fun t => ((tb.countP fun d => mts d t : Nat) : Int)).sum) _ rfl (by omega) ⟨Int.le_refl _, rfl⟩ (fun i s k' i0 i1 ⟨_, hs⟩ hk => ?_) fun s ⟨_, hs⟩ => ?_
  · refine ⟨by rw [rangeI_len]; omega, ?_⟩
    refine mapC_ok (fun m => ((tb.countP fun d => mts d (i, m) : Nat) : Int)) (fun m hm k'' hk'' => ?_) ?_
    · have hb := rangeI_mem hm
      refine met_ok h ⟨i0, i1⟩ ⟨hb.1, by omega⟩ (by omega) ?_
      rw [gm_len (by rw [rangeI_len]; omega)]
      exact hk''
    · rw [List.nil_append]
      refine hk _ ⟨by omega, ?_⟩
      rw [tri_succ i0, List.map_append, List.sum_append, ← hs, List.map_map]
      rfl
  · rw [hs, tot h.dv]
    exact q
abbrev e3 (y_ : Int × Int × Int) : D := D.tup [(D.v (V.int y_.1)), (D.v (V.int y_.2.1)), (D.v (V.int y_.2.2))]
theorem fo_oks {n : Nat} {ds : List (List (Int × Int))} (h : OKD n ds) : OkS (encO e3 (fo (2 * (n : Int)) (cnt ds))) 2 5771 := by
  have n2 := h.n2
  have fl := h.fl
  have pw : (1000 : Nat) < 2 ^ 1920 := Nat.lt_of_lt_of_le (show 1000 < 2 ^ 10 by decide) (Nat.pow_le_pow_right (by decide) (by decide))
  unfold fo
  cases e : (pairs (2 * (n : Int))).find? (fun p => !(decide (cnt ds p = 1))) with
  | none =>
    show OkS (D.v V.non) 2 5771
    exact OkS.mono (k := 1) (n := 5) ⟨rfl, rfl, rfl, by decide, by decide +kernel, rfl⟩ (by decide) (by decide)
  | some p =>
    have hp := mem_pairs.mp (List.mem_of_find?_eq_some e)
    have c0 : 0 ≤ cnt ds p ∧ cnt ds p ≤ 360 := by
      unfold cnt
      have := List.count_le_length (a := p) (l := ds.flatten.map pr)
      rw [List.length_map] at this
      omega
    refine oks_tup (k := 1) (n := 1921) (m := 3) (fun d hd => ?_) (by simp)
    simp only [List.mem_cons, List.not_mem_nil, or_false] at hd
    rcases hd with rfl | rfl | rfl
    · exact oks_int (by show p.1.natAbs < _; omega)
    · exact oks_int (by show p.2.natAbs < _; omega)
    · exact oks_int (by show (cnt ds p).natAbs < _; omega)
theorem fo_tx {n : Nat} {ds : List (List (Int × Int))} (h : OKD n ds) (b : Bool) : plainX (D.lst (([(encO e3 (fo (2 * (n : Int)) (cnt ds))), (D.v (V.bl b))] : List D).map (fun y_ : D => y_))) = true ∧ (pyX (D.lst (([(encO e3 (fo (2 * (n : Int)) (cnt ds))), (D.v (V.bl b))] : List D).map (fun y_ : D => y_)))).showable = true ∧ (pyX (D.lst (([(encO e3 (fo (2 * (n : Int)) (cnt ds))), (D.v (V.bl b))] : List D).map (fun y_ : D => y_)))).depth ≤ 60 ∧ (pyX (D.lst (([(encO e3 (fo (2 * (n : Int)) (cnt ds))), (D.v (V.bl b))] : List D).map (fun y_ : D => y_)))).shown.length ≤ sizeLine := by
  rw [List.map_id']
  refine OkS.tx (k := 3) (n := 11548) (oks_lst (k := 2) (n := 5771) (m := 2) (fun d hd => ?_) (by simp)) (by decide) (by decide)
  simp only [List.mem_cons, List.not_mem_nil, or_false] at hd
  rcases hd with rfl | rfl
  · exact fo_oks h
  · cases b <;> exact OkS.mono (k := 1) (n := 5) ⟨rfl, rfl, rfl, by decide, by decide +kernel, rfl⟩ (by decide) (by decide)
theorem days_right_ok {n : Nat} {ds : List (List (Int × Int))} (h : OKD n ds) {k : Bool → Prop} (q : k true) : M_days_right ds (2 * (n : Int)) k := by
  have l := h.len
  have n2 := h.n2
  unfold M_days_right
  refine passed_ok h fun b xs hx => tinitS_ok (h.pe hx) fun tb ht => ?_
  have t : TB ds tb := tb_pe hx ht
  have c1 : cnt tb = cnt ds := cnt_perm (tb_to t).flat
  have g := h.tb t
  refine due_ok h (first_ok g (single_ok g ?_))
  rw [c1]
  refine ⟨fo_tx h _, fo_tx h _, ?_⟩
  rw [dec_s, if_neg (by decide)]
  refine any_ok h fun es hes => tinit_ok (h.sw hes) fun tb2 t2 => ?_
  have c2 : cnt tb2 = cnt ds := (cnt_perm (tb_to t2).flat).trans (cnt_perm (by rw [SWs.flat hes]))
  have g2 := (h.sw hes).tb t2
  refine first_ok g2 (single_ok g2 ?_)
  rw [c2]
  refine ⟨fo_tx h _, fo_tx h _, ?_⟩
  rw [dec_s, if_neg (by decide)]
  refine mixedL_ok (by omega) fun ms hm => tinit_ok (h.perm hm) fun tb3 t3 => ?_
  have c3 : cnt tb3 = cnt ds := (cnt_perm (tb_to t3).flat).trans (cnt_perm (flat_perm hm))
  have g3 := (h.perm hm).tb t3
  refine first_ok g3 (single_ok g3 ?_)
  rw [c3]
  refine ⟨fo_tx h _, fo_tx h _, ?_⟩
  rw [dec_s, if_neg (by decide)]
  refine total_ok g ⟨wide_mul (a := 5) (b := 5) (by omega) (by omega) (by decide) (by decide) (by decide), ?_⟩
  have lt := al_len t
  have ee : ((ds.length : Int) * (2 * (n : Int))) / (2 : Int) = (tb.length : Int) * (n : Int) := by
    rw [lt, Int.mul_left_comm, Int.mul_ediv_cancel_left _ (by decide)]
  rw [ee, if_pos (decide_eq_true rfl)]
  exact is_ok h t q
theorem right_true : M_right fun r => r = true := by
  unfold M_right
  refine many_ok fun n n1 n2 => forC_ok (fun _ => True) (fun x _ s k' _ hk => pairs_days_ok n1 n2 fun ds h => days_right_ok h ?_) trivial fun _ _ => circle_ok n1 n2 fun c hc lc => mixedL_ok (by have := hc.len; omega) fun m hm => days_right_ok (hc.perm hm) ?_
  · rw [if_neg (by decide)]
    exact hk _ trivial
  · rw [if_neg (by decide)]
    refine days_ok n1 n2 (by decide) (by decide) fun ds d0 d1 hd => days_right_ok ⟨n1, n2, d0, by omega, hd⟩ rfl

def sp_law (K : PySem.W.Frag) : Sp := fun vs H Q _ => ∃ (a : Addr) (ns : List Int), vs = [.ref a] ∧ SqL K H a (ns.map V.int) ∧ ns.length ≤ 63 ∧ ∀ H1 : Hp, Q (.bl true) H1
theorem law_enter {K : PySem.W.Frag} {H : Hp} {a : Addr} {ns : List Int} (hl : ns.length ≤ 63) (_ : Only H) (hS : SqL K H a (ns.map V.int)) : sp_law K [.ref a] H (fun v _ => v = .bl true) fun _ _ _ => False := ⟨a, ns, rfl, hS, hl, fun _ => rfl⟩
theorem sq_keep {K : PySem.W.Frag} {H H1 : Hp} {a : Addr} {xs : List V} (k : ∀ b o, H b = some o → H1 b = some o) (h : SqL K H a xs) : SqL K H1 a xs := by
  rcases h with (h | ⟨o, h⟩) | h
  · exact .inl (.inl (k _ _ h))
  · exact .inl (.inr ⟨o, k _ _ h⟩)
  · exact .inr h
theorem ok_law {P : Program} {w : World} {K : PySem.W.Frag} {mg : Str → Option Value} {base : Heap} {A : Ad} (T : Txt w K mg A) : FnG P w K mg base 9 A.a_law A.d_law ["_law_script"] (sp_law K) := by
  refine okG T.F_law sc_law (fun vs H Q E h => ?_) (fun cdv A_ outer s_ H_0 vs Q E gu hr h => ?_)
  · obtain ⟨a, ns, rfl, _⟩ := h
    rfl
  · obtain ⟨a, ns, rfl, hS, hl, hQ⟩ := h
    refine ⟨_, pss_one (ps_ret (pe_callB (cr_all rfl) (by rfl) T.z_all (by decide +kernel) (pa_cons (pe_lc (own := [("_law_k", 1)]) (g := gName 1) rfl sc_law.nd
      (pi_range1 (by rfl) T.z_range (pa_cons (pe_callB (call_max2 rfl) (by rfl) T.z_max (by decide +kernel) (pa_cons pe_int (pa_cons (pe_callB (call_min2 rfl) (by rfl) T.z_min (by decide +kernel) (pa_cons (pe_callB call_len (by rfl) T.z_len PySem.boot_len (pa_cons (pv 0) pa_nil)) (pa_cons pe_int pa_nil))) pa_nil))) pa_nil))
      (blkOk_by (N := ["_law_script", "_law_k"]) (sc := defScope s_law) (by decide +kernel)) (fun _ _ _ _ _ => pg_name (i := 1) sc_law.nd rfl (by first | exact Or.inl rfl | exact Or.inr rfl)) (fun _ _ _ _ _ => pts_nil)
      (fun _ _ _ _ _ => pe_callG (ok_right T) gu (hr.mono (by decide)) (by rfl) T.g_right T.F_right.kp T.b_right (pa_cons (pe_call (ok_pot T) (hr.mono (by decide)) (by rfl) T.g_pot T.F_pot.kp T.b_pot .nil pass0 (pa_cons (pv 0) (pa_cons (pv 1) pa_nil))) pa_nil))) pa_nil))), ?_⟩
    refine ⟨_, rfl, _, ns.length, rfl, .inl ⟨_, hS, by rw [List.length_map]⟩, _, _, rfl, _, _, rfl, _, rfl, ?_, ?_, fun L nl => ?_⟩
    · split <;> split <;> omega
    · split <;> split <;> omega
    have hsq : ∀ H : Hp, (∀ o, H_0 a = some o → H a = some o) → SqL K H a (ns.map V.int) := fun H k => by
      rcases hS with (h | ⟨o, h⟩) | h
      · exact .inl (.inl (k _ h))
      · exact .inl (.inr ⟨o, k _ h⟩)
      · exact .inr h
    refine lc_range (lo := 0) (fun i H => (∀ o, H_0 a = some o → H a = some o) ∧ ∃ n, n ≤ i ∧ H L = some (.lst (List.replicate n (.bl true)))) ⟨fun o h => (Rx.Ext.new nl).keep h, 0, Nat.le_refl _, upd_same⟩ (fun i H hi ⟨hS1, n, hn, hL⟩ => ?_) (fun H ⟨hS1, n, hn, hL⟩ => ?_)
    · refine ⟨rfl, ?_⟩
      refine tyes_of ?_
      have hi4 : i < 64 := by
        refine Nat.lt_of_lt_of_le hi ?_
        split <;> split <;> omega
      refine ⟨_, rfl, _, rfl, a, ns, 0 + (i : Int), rfl, hsq H hS1, hl, by omega, by omega, fun p H1 i1 j1 np e1 hp hj => ?_⟩
      refine ⟨[p], p, fun r => r = true, rfl, ⟨fun _ _ _ h => h, fun _ h => h, fun m hm => ?_, fun b hb => ?_, fun b hb => hb, fun c hc => absurd hc List.not_mem_nil⟩, right_true, fun r u H2 hr2 e2 hu => ?_⟩
      · rw [List.mem_singleton.mp hm, hp]
        exact fun z => nomatch z
      · rw [List.mem_singleton.mp hb]
        exact (⟨i1, j1, hp, hj⟩ : PotH _ _)
      · obtain rfl := of_v hu
        have e3 : ∀ b o, H b = some o → H2 b = some o := fun b o h => e2.kp b o (fun z => by
          rw [(List.mem_singleton.mp z : b = p), np] at h
          cases h) (e1.keep h)
        refine ⟨_, e3 _ _ hL, ?_, fun o h => ?_, n + 1, Nat.succ_le_succ hn, by rw [upd_same, hr2, List.replicate_succ']⟩
        · rw [List.length_replicate]
          exact Nat.lt_of_le_of_lt (show n ≤ 64 by omega) (by decide)
        · rw [upd_ne (ne_of_none h nl)]
          exact e3 _ _ (hS1 _ h)
    · refine ⟨L, List.replicate n true, rfl, .inl (.inl (by rw [List.map_replicate]; exact hL)), ?_⟩
      have : (List.replicate n true).all id = true := by
        rw [List.all_eq_true]
        intro x hx
        rw [(List.mem_replicate.mp hx).2]
        rfl
      rw [this]
      exact hQ _

theorem all_mk {l : PySem.W.OpenLaw} {w : World} {K : PySem.W.Frag} {h : Heap} {mg : Str → Option Value} {fa Adraw Apick Amany Acircle Amixed Aday Apairs_days Apassed Ais_list Ais_integer Ais_meeting Ais_round Acheck_rounds ATable_init Acounts Adue ATable_rounds ATable_size Afirst_odd_pair Ais_single Aany_way Ais_count Acheck_team Acheck_pair ATable_met_in ATable_len Acheck_day ATable_meetings Asorted ATable_repr Amark_in ATable_row_of Arow Ais Adays_right Adays Aright Apot Alaw CTable : Addr} (X : K.In h) (G : h.Ns mainGlobals mg) (hfa : mg "law" = some (.ref fa))
    {oddraw andraw : Option Addr} {sldraw : Array (Option Value)} {ocdraw kVdraw dcdraw pmdraw cddraw ctdraw : Value}
    {odpick anpick : Option Addr} {slpick : Array (Option Value)} {ocpick kVpick dcpick pmpick cdpick ctpick : Value}
    {odmany anmany : Option Addr} {slmany : Array (Option Value)} {ocmany kVmany dcmany pmmany cdmany ctmany : Value}
    {odcircle ancircle : Option Addr} {slcircle : Array (Option Value)} {occircle kVcircle dccircle pmcircle cdcircle ctcircle : Value}
    {odmixed anmixed : Option Addr} {slmixed : Array (Option Value)} {ocmixed kVmixed dcmixed pmmixed cdmixed ctmixed : Value}
    {odday anday : Option Addr} {slday : Array (Option Value)} {ocday kVday dcday pmday cdday ctday : Value}
    {odpairs_days anpairs_days : Option Addr} {slpairs_days : Array (Option Value)} {ocpairs_days kVpairs_days dcpairs_days pmpairs_days cdpairs_days ctpairs_days : Value}
    {odpassed anpassed : Option Addr} {slpassed : Array (Option Value)} {ocpassed kVpassed dcpassed pmpassed cdpassed ctpassed : Value}
    {odis_list anis_list : Option Addr} {slis_list : Array (Option Value)} {ocis_list kVis_list dcis_list pmis_list cdis_list ctis_list : Value}
    {odis_integer anis_integer : Option Addr} {slis_integer : Array (Option Value)} {ocis_integer kVis_integer dcis_integer pmis_integer cdis_integer ctis_integer : Value}
    {odis_meeting anis_meeting : Option Addr} {slis_meeting : Array (Option Value)} {ocis_meeting kVis_meeting dcis_meeting pmis_meeting cdis_meeting ctis_meeting : Value}
    {odis_round anis_round : Option Addr} {slis_round : Array (Option Value)} {ocis_round kVis_round dcis_round pmis_round cdis_round ctis_round : Value}
    {odcheck_rounds ancheck_rounds : Option Addr} {slcheck_rounds : Array (Option Value)} {occheck_rounds kVcheck_rounds dccheck_rounds pmcheck_rounds cdcheck_rounds ctcheck_rounds : Value}
    {odTable_init anTable_init : Option Addr} {slTable_init : Array (Option Value)} {ocTable_init kVTable_init dcTable_init pmTable_init cdTable_init ctTable_init : Value}
    {odcounts ancounts : Option Addr} {slcounts : Array (Option Value)} {occounts kVcounts dccounts pmcounts cdcounts ctcounts : Value}
    {oddue andue : Option Addr} {sldue : Array (Option Value)} {ocdue kVdue dcdue pmdue cddue ctdue : Value}
    {odTable_rounds anTable_rounds : Option Addr} {slTable_rounds : Array (Option Value)} {ocTable_rounds kVTable_rounds dcTable_rounds pmTable_rounds cdTable_rounds ctTable_rounds : Value}
    {PTable_size : Addr}
    {RTable_size : List Value}
    {odTable_size anTable_size : Option Addr} {slTable_size : Array (Option Value)} {ocTable_size kVTable_size dcTable_size pmTable_size cdTable_size ctTable_size : Value}
    {odfirst_odd_pair anfirst_odd_pair : Option Addr} {slfirst_odd_pair : Array (Option Value)} {ocfirst_odd_pair kVfirst_odd_pair dcfirst_odd_pair pmfirst_odd_pair cdfirst_odd_pair ctfirst_odd_pair : Value}
    {odis_single anis_single : Option Addr} {slis_single : Array (Option Value)} {ocis_single kVis_single dcis_single pmis_single cdis_single ctis_single : Value}
    {odany_way anany_way : Option Addr} {slany_way : Array (Option Value)} {ocany_way kVany_way dcany_way pmany_way cdany_way ctany_way : Value}
    {odis_count anis_count : Option Addr} {slis_count : Array (Option Value)} {ocis_count kVis_count dcis_count pmis_count cdis_count ctis_count : Value}
    {odcheck_team ancheck_team : Option Addr} {slcheck_team : Array (Option Value)} {occheck_team kVcheck_team dccheck_team pmcheck_team cdcheck_team ctcheck_team : Value}
    {odcheck_pair ancheck_pair : Option Addr} {slcheck_pair : Array (Option Value)} {occheck_pair kVcheck_pair dccheck_pair pmcheck_pair cdcheck_pair ctcheck_pair : Value}
    {odTable_met_in anTable_met_in : Option Addr} {slTable_met_in : Array (Option Value)} {ocTable_met_in kVTable_met_in dcTable_met_in pmTable_met_in cdTable_met_in ctTable_met_in : Value}
    {odTable_len anTable_len : Option Addr} {slTable_len : Array (Option Value)} {ocTable_len kVTable_len dcTable_len pmTable_len cdTable_len ctTable_len : Value}
    {odcheck_day ancheck_day : Option Addr} {slcheck_day : Array (Option Value)} {occheck_day kVcheck_day dccheck_day pmcheck_day cdcheck_day ctcheck_day : Value}
    {odTable_meetings anTable_meetings : Option Addr} {slTable_meetings : Array (Option Value)} {ocTable_meetings kVTable_meetings dcTable_meetings pmTable_meetings cdTable_meetings ctTable_meetings : Value}
    {odsorted ansorted : Option Addr} {slsorted : Array (Option Value)} {ocsorted kVsorted dcsorted pmsorted cdsorted ctsorted : Value}
    {odTable_repr anTable_repr : Option Addr} {slTable_repr : Array (Option Value)} {ocTable_repr kVTable_repr dcTable_repr pmTable_repr cdTable_repr ctTable_repr : Value}
    {odmark_in anmark_in : Option Addr} {slmark_in : Array (Option Value)} {ocmark_in kVmark_in dcmark_in pmmark_in cdmark_in ctmark_in : Value}
    {odTable_row_of anTable_row_of : Option Addr} {slTable_row_of : Array (Option Value)} {ocTable_row_of kVTable_row_of dcTable_row_of pmTable_row_of cdTable_row_of ctTable_row_of : Value}
    {odrow anrow : Option Addr} {slrow : Array (Option Value)} {ocrow kVrow dcrow pmrow cdrow ctrow : Value}
    {odis anis : Option Addr} {slis : Array (Option Value)} {ocis kVis dcis pmis cdis ctis : Value}
    {oddays_right andays_right : Option Addr} {sldays_right : Array (Option Value)} {ocdays_right kVdays_right dcdays_right pmdays_right cddays_right ctdays_right : Value}
    {oddays andays : Option Addr} {sldays : Array (Option Value)} {ocdays kVdays dcdays pmdays cddays ctdays : Value}
    {odright anright : Option Addr} {slright : Array (Option Value)} {ocright kVright dcright pmright cdright ctright : Value}
    {odpot anpot : Option Addr} {slpot : Array (Option Value)} {ocpot kVpot dcpot pmpot cdpot ctpot : Value}
    {odlaw anlaw : Option Addr} {sllaw : Array (Option Value)} {oclaw kVlaw dclaw pmlaw cdlaw ctlaw : Value}
    {tFEWEST_MEETINGS : Tok}
    {tMOST_MEETINGS : Tok}
    {tMOST_ROUNDS : Tok}
    (a_draw : PySem.W.nsIn K mainGlobals "_law_draw" = some (some (.ref Adraw)))
    (l_draw : K.lookup Adraw = some ⟨ocdraw, oddraw, .func (PySem.W.fnOf "_law_draw" "_law_draw" (defArgs s_draw) (defBody s_draw) (defScope s_draw) .none kVdraw dcdraw pmdraw andraw cddraw ctdraw), sldraw⟩)
    (o_draw : PySem.W.codeIn K cddraw "_law_draw" = true)
    (k_draw : PySem.W.keepIn K (.ref Adraw) = true)
    (a_pick : PySem.W.nsIn K mainGlobals "_law_pick" = some (some (.ref Apick)))
    (l_pick : K.lookup Apick = some ⟨ocpick, odpick, .func (PySem.W.fnOf "_law_pick" "_law_pick" (defArgs s_pick) (defBody s_pick) (defScope s_pick) .none kVpick dcpick pmpick anpick cdpick ctpick), slpick⟩)
    (o_pick : PySem.W.codeIn K cdpick "_law_pick" = true)
    (k_pick : PySem.W.keepIn K (.ref Apick) = true)
    (a_many : PySem.W.nsIn K mainGlobals "_law_many" = some (some (.ref Amany)))
    (l_many : K.lookup Amany = some ⟨ocmany, odmany, .func (PySem.W.fnOf "_law_many" "_law_many" (defArgs s_many) (defBody s_many) (defScope s_many) .none kVmany dcmany pmmany anmany cdmany ctmany), slmany⟩)
    (o_many : PySem.W.codeIn K cdmany "_law_many" = true)
    (k_many : PySem.W.keepIn K (.ref Amany) = true)
    (a_circle : PySem.W.nsIn K mainGlobals "_law_circle" = some (some (.ref Acircle)))
    (l_circle : K.lookup Acircle = some ⟨occircle, odcircle, .func (PySem.W.fnOf "_law_circle" "_law_circle" (defArgs s_circle) (defBody s_circle) (defScope s_circle) .none kVcircle dccircle pmcircle ancircle cdcircle ctcircle), slcircle⟩)
    (o_circle : PySem.W.codeIn K cdcircle "_law_circle" = true)
    (k_circle : PySem.W.keepIn K (.ref Acircle) = true)
    (a_mixed : PySem.W.nsIn K mainGlobals "_law_mixed" = some (some (.ref Amixed)))
    (l_mixed : K.lookup Amixed = some ⟨ocmixed, odmixed, .func (PySem.W.fnOf "_law_mixed" "_law_mixed" (defArgs s_mixed) (defBody s_mixed) (defScope s_mixed) .none kVmixed dcmixed pmmixed anmixed cdmixed ctmixed), slmixed⟩)
    (o_mixed : PySem.W.codeIn K cdmixed "_law_mixed" = true)
    (k_mixed : PySem.W.keepIn K (.ref Amixed) = true)
    (a_day : PySem.W.nsIn K mainGlobals "_law_day" = some (some (.ref Aday)))
    (l_day : K.lookup Aday = some ⟨ocday, odday, .func (PySem.W.fnOf "_law_day" "_law_day" (defArgs s_day) (defBody s_day) (defScope s_day) .none kVday dcday pmday anday cdday ctday), slday⟩)
    (o_day : PySem.W.codeIn K cdday "_law_day" = true)
    (k_day : PySem.W.keepIn K (.ref Aday) = true)
    (a_pairs_days : PySem.W.nsIn K mainGlobals "_law_pairs_days" = some (some (.ref Apairs_days)))
    (l_pairs_days : K.lookup Apairs_days = some ⟨ocpairs_days, odpairs_days, .func (PySem.W.fnOf "_law_pairs_days" "_law_pairs_days" (defArgs s_pairs_days) (defBody s_pairs_days) (defScope s_pairs_days) .none kVpairs_days dcpairs_days pmpairs_days anpairs_days cdpairs_days ctpairs_days), slpairs_days⟩)
    (o_pairs_days : PySem.W.codeIn K cdpairs_days "_law_pairs_days" = true)
    (k_pairs_days : PySem.W.keepIn K (.ref Apairs_days) = true)
    (a_passed : PySem.W.nsIn K mainGlobals "_law_passed" = some (some (.ref Apassed)))
    (l_passed : K.lookup Apassed = some ⟨ocpassed, odpassed, .func (PySem.W.fnOf "_law_passed" "_law_passed" (defArgs s_passed) (defBody s_passed) (defScope s_passed) .none kVpassed dcpassed pmpassed anpassed cdpassed ctpassed), slpassed⟩)
    (o_passed : PySem.W.codeIn K cdpassed "_law_passed" = true)
    (k_passed : PySem.W.keepIn K (.ref Apassed) = true)
    (a_is_list : PySem.W.nsIn K mainGlobals "is_list" = some (some (.ref Ais_list)))
    (l_is_list : K.lookup Ais_list = some ⟨ocis_list, odis_list, .func (PySem.W.fnOf "is_list" "is_list" (defArgs s_is_list) (defBody s_is_list) (defScope s_is_list) .none kVis_list dcis_list pmis_list anis_list cdis_list ctis_list), slis_list⟩)
    (o_is_list : PySem.W.codeIn K cdis_list "is_list" = true)
    (k_is_list : PySem.W.keepIn K (.ref Ais_list) = true)
    (a_is_integer : PySem.W.nsIn K mainGlobals "is_integer" = some (some (.ref Ais_integer)))
    (l_is_integer : K.lookup Ais_integer = some ⟨ocis_integer, odis_integer, .func (PySem.W.fnOf "is_integer" "is_integer" (defArgs s_is_integer) (defBody s_is_integer) (defScope s_is_integer) .none kVis_integer dcis_integer pmis_integer anis_integer cdis_integer ctis_integer), slis_integer⟩)
    (o_is_integer : PySem.W.codeIn K cdis_integer "is_integer" = true)
    (k_is_integer : PySem.W.keepIn K (.ref Ais_integer) = true)
    (a_is_meeting : PySem.W.nsIn K mainGlobals "_is_meeting" = some (some (.ref Ais_meeting)))
    (l_is_meeting : K.lookup Ais_meeting = some ⟨ocis_meeting, odis_meeting, .func (PySem.W.fnOf "_is_meeting" "_is_meeting" (defArgs s_is_meeting) (defBody s_is_meeting) (defScope s_is_meeting) .none kVis_meeting dcis_meeting pmis_meeting anis_meeting cdis_meeting ctis_meeting), slis_meeting⟩)
    (o_is_meeting : PySem.W.codeIn K cdis_meeting "_is_meeting" = true)
    (k_is_meeting : PySem.W.keepIn K (.ref Ais_meeting) = true)
    (a_is_round : PySem.W.nsIn K mainGlobals "is_round" = some (some (.ref Ais_round)))
    (l_is_round : K.lookup Ais_round = some ⟨ocis_round, odis_round, .func (PySem.W.fnOf "is_round" "is_round" (defArgs s_is_round) (defBody s_is_round) (defScope s_is_round) .none kVis_round dcis_round pmis_round anis_round cdis_round ctis_round), slis_round⟩)
    (o_is_round : PySem.W.codeIn K cdis_round "is_round" = true)
    (k_is_round : PySem.W.keepIn K (.ref Ais_round) = true)
    (a_check_rounds : PySem.W.nsIn K mainGlobals "_check_rounds" = some (some (.ref Acheck_rounds)))
    (l_check_rounds : K.lookup Acheck_rounds = some ⟨occheck_rounds, odcheck_rounds, .func (PySem.W.fnOf "_check_rounds" "_check_rounds" (defArgs s_check_rounds) (defBody s_check_rounds) (defScope s_check_rounds) .none kVcheck_rounds dccheck_rounds pmcheck_rounds ancheck_rounds cdcheck_rounds ctcheck_rounds), slcheck_rounds⟩)
    (o_check_rounds : PySem.W.codeIn K cdcheck_rounds "_check_rounds" = true)
    (k_check_rounds : PySem.W.keepIn K (.ref Acheck_rounds) = true)
    (a_Table_init : PySem.W.findIn K (.ref CTable) "__init__" = some (some (.ref ATable_init)))
    (i_Table_init : PySem.W.isFn K (.ref ATable_init) = true)
    (l_Table_init : K.lookup ATable_init = some ⟨ocTable_init, odTable_init, .func (PySem.W.fnOf "__init__" "Table.__init__" (defArgs s_Table_init) (defBody s_Table_init) (defScope s_Table_init) .none kVTable_init dcTable_init pmTable_init anTable_init cdTable_init ctTable_init), slTable_init⟩)
    (o_Table_init : PySem.W.codeIn K cdTable_init "Table.__init__" = true)
    (k_Table_init : PySem.W.keepIn K (.ref ATable_init) = true)
    (a_counts : PySem.W.nsIn K mainGlobals "_law_counts" = some (some (.ref Acounts)))
    (l_counts : K.lookup Acounts = some ⟨occounts, odcounts, .func (PySem.W.fnOf "_law_counts" "_law_counts" (defArgs s_counts) (defBody s_counts) (defScope s_counts) .none kVcounts dccounts pmcounts ancounts cdcounts ctcounts), slcounts⟩)
    (o_counts : PySem.W.codeIn K cdcounts "_law_counts" = true)
    (k_counts : PySem.W.keepIn K (.ref Acounts) = true)
    (a_due : PySem.W.nsIn K mainGlobals "_law_due" = some (some (.ref Adue)))
    (l_due : K.lookup Adue = some ⟨ocdue, oddue, .func (PySem.W.fnOf "_law_due" "_law_due" (defArgs s_due) (defBody s_due) (defScope s_due) .none kVdue dcdue pmdue andue cddue ctdue), sldue⟩)
    (o_due : PySem.W.codeIn K cddue "_law_due" = true)
    (k_due : PySem.W.keepIn K (.ref Adue) = true)
    (a_Table_rounds : PySem.W.findIn K (.ref CTable) "rounds" = some (some (.ref ATable_rounds)))
    (i_Table_rounds : PySem.W.isFn K (.ref ATable_rounds) = true)
    (l_Table_rounds : K.lookup ATable_rounds = some ⟨ocTable_rounds, odTable_rounds, .func (PySem.W.fnOf "rounds" "Table.rounds" (defArgs s_Table_rounds) (defBody s_Table_rounds) (defScope s_Table_rounds) .none kVTable_rounds dcTable_rounds pmTable_rounds anTable_rounds cdTable_rounds ctTable_rounds), slTable_rounds⟩)
    (o_Table_rounds : PySem.W.codeIn K cdTable_rounds "Table.rounds" = true)
    (k_Table_rounds : PySem.W.keepIn K (.ref ATable_rounds) = true)
    (pa_Table_size : PySem.W.findIn K (.ref CTable) "size" = some (some (.ref PTable_size)))
    (pg_Table_size : PySem.W.specialIn K (.ref PTable_size) "__get__" = some (some (.builtin "property.__get__")))
    (pt_Table_size : PySem.W.takesIn K (.ref PTable_size) = some true)
    (pr_Table_size : PySem.W.recIn K PTable_size "property" = some (.ref ATable_size :: RTable_size))
    (l_Table_size : K.lookup ATable_size = some ⟨ocTable_size, odTable_size, .func (PySem.W.fnOf "size" "Table.size" (defArgs s_Table_size) (defBody s_Table_size) (defScope s_Table_size) .none kVTable_size dcTable_size pmTable_size anTable_size cdTable_size ctTable_size), slTable_size⟩)
    (o_Table_size : PySem.W.codeIn K cdTable_size "Table.size" = true)
    (k_Table_size : PySem.W.keepIn K (.ref ATable_size) = true)
    (a_first_odd_pair : PySem.W.nsIn K mainGlobals "first_odd_pair" = some (some (.ref Afirst_odd_pair)))
    (l_first_odd_pair : K.lookup Afirst_odd_pair = some ⟨ocfirst_odd_pair, odfirst_odd_pair, .func (PySem.W.fnOf "first_odd_pair" "first_odd_pair" (defArgs s_first_odd_pair) (defBody s_first_odd_pair) (defScope s_first_odd_pair) .none kVfirst_odd_pair dcfirst_odd_pair pmfirst_odd_pair anfirst_odd_pair cdfirst_odd_pair ctfirst_odd_pair), slfirst_odd_pair⟩)
    (o_first_odd_pair : PySem.W.codeIn K cdfirst_odd_pair "first_odd_pair" = true)
    (k_first_odd_pair : PySem.W.keepIn K (.ref Afirst_odd_pair) = true)
    (a_is_single : PySem.W.nsIn K mainGlobals "is_single" = some (some (.ref Ais_single)))
    (l_is_single : K.lookup Ais_single = some ⟨ocis_single, odis_single, .func (PySem.W.fnOf "is_single" "is_single" (defArgs s_is_single) (defBody s_is_single) (defScope s_is_single) .none kVis_single dcis_single pmis_single anis_single cdis_single ctis_single), slis_single⟩)
    (o_is_single : PySem.W.codeIn K cdis_single "is_single" = true)
    (k_is_single : PySem.W.keepIn K (.ref Ais_single) = true)
    (a_any_way : PySem.W.nsIn K mainGlobals "_law_any_way" = some (some (.ref Aany_way)))
    (l_any_way : K.lookup Aany_way = some ⟨ocany_way, odany_way, .func (PySem.W.fnOf "_law_any_way" "_law_any_way" (defArgs s_any_way) (defBody s_any_way) (defScope s_any_way) .none kVany_way dcany_way pmany_way anany_way cdany_way ctany_way), slany_way⟩)
    (o_any_way : PySem.W.codeIn K cdany_way "_law_any_way" = true)
    (k_any_way : PySem.W.keepIn K (.ref Aany_way) = true)
    (a_is_count : PySem.W.nsIn K mainGlobals "is_count" = some (some (.ref Ais_count)))
    (l_is_count : K.lookup Ais_count = some ⟨ocis_count, odis_count, .func (PySem.W.fnOf "is_count" "is_count" (defArgs s_is_count) (defBody s_is_count) (defScope s_is_count) .none kVis_count dcis_count pmis_count anis_count cdis_count ctis_count), slis_count⟩)
    (o_is_count : PySem.W.codeIn K cdis_count "is_count" = true)
    (k_is_count : PySem.W.keepIn K (.ref Ais_count) = true)
    (a_check_team : PySem.W.nsIn K mainGlobals "check_team" = some (some (.ref Acheck_team)))
    (l_check_team : K.lookup Acheck_team = some ⟨occheck_team, odcheck_team, .func (PySem.W.fnOf "check_team" "check_team" (defArgs s_check_team) (defBody s_check_team) (defScope s_check_team) .none kVcheck_team dccheck_team pmcheck_team ancheck_team cdcheck_team ctcheck_team), slcheck_team⟩)
    (o_check_team : PySem.W.codeIn K cdcheck_team "check_team" = true)
    (k_check_team : PySem.W.keepIn K (.ref Acheck_team) = true)
    (a_check_pair : PySem.W.nsIn K mainGlobals "check_pair" = some (some (.ref Acheck_pair)))
    (l_check_pair : K.lookup Acheck_pair = some ⟨occheck_pair, odcheck_pair, .func (PySem.W.fnOf "check_pair" "check_pair" (defArgs s_check_pair) (defBody s_check_pair) (defScope s_check_pair) .none kVcheck_pair dccheck_pair pmcheck_pair ancheck_pair cdcheck_pair ctcheck_pair), slcheck_pair⟩)
    (o_check_pair : PySem.W.codeIn K cdcheck_pair "check_pair" = true)
    (k_check_pair : PySem.W.keepIn K (.ref Acheck_pair) = true)
    (a_Table_met_in : PySem.W.findIn K (.ref CTable) "met_in" = some (some (.ref ATable_met_in)))
    (i_Table_met_in : PySem.W.isFn K (.ref ATable_met_in) = true)
    (l_Table_met_in : K.lookup ATable_met_in = some ⟨ocTable_met_in, odTable_met_in, .func (PySem.W.fnOf "met_in" "Table.met_in" (defArgs s_Table_met_in) (defBody s_Table_met_in) (defScope s_Table_met_in) .none kVTable_met_in dcTable_met_in pmTable_met_in anTable_met_in cdTable_met_in ctTable_met_in), slTable_met_in⟩)
    (o_Table_met_in : PySem.W.codeIn K cdTable_met_in "Table.met_in" = true)
    (k_Table_met_in : PySem.W.keepIn K (.ref ATable_met_in) = true)
    (a_Table_len : PySem.W.findIn K (.ref CTable) "__len__" = some (some (.ref ATable_len)))
    (i_Table_len : PySem.W.isFn K (.ref ATable_len) = true)
    (l_Table_len : K.lookup ATable_len = some ⟨ocTable_len, odTable_len, .func (PySem.W.fnOf "__len__" "Table.__len__" (defArgs s_Table_len) (defBody s_Table_len) (defScope s_Table_len) .none kVTable_len dcTable_len pmTable_len anTable_len cdTable_len ctTable_len), slTable_len⟩)
    (o_Table_len : PySem.W.codeIn K cdTable_len "Table.__len__" = true)
    (k_Table_len : PySem.W.keepIn K (.ref ATable_len) = true)
    (a_check_day : PySem.W.nsIn K mainGlobals "check_day" = some (some (.ref Acheck_day)))
    (l_check_day : K.lookup Acheck_day = some ⟨occheck_day, odcheck_day, .func (PySem.W.fnOf "check_day" "check_day" (defArgs s_check_day) (defBody s_check_day) (defScope s_check_day) .none kVcheck_day dccheck_day pmcheck_day ancheck_day cdcheck_day ctcheck_day), slcheck_day⟩)
    (o_check_day : PySem.W.codeIn K cdcheck_day "check_day" = true)
    (k_check_day : PySem.W.keepIn K (.ref Acheck_day) = true)
    (a_Table_meetings : PySem.W.findIn K (.ref CTable) "meetings" = some (some (.ref ATable_meetings)))
    (i_Table_meetings : PySem.W.isFn K (.ref ATable_meetings) = true)
    (l_Table_meetings : K.lookup ATable_meetings = some ⟨ocTable_meetings, odTable_meetings, .func (PySem.W.fnOf "meetings" "Table.meetings" (defArgs s_Table_meetings) (defBody s_Table_meetings) (defScope s_Table_meetings) .none kVTable_meetings dcTable_meetings pmTable_meetings anTable_meetings cdTable_meetings ctTable_meetings), slTable_meetings⟩)
    (o_Table_meetings : PySem.W.codeIn K cdTable_meetings "Table.meetings" = true)
    (k_Table_meetings : PySem.W.keepIn K (.ref ATable_meetings) = true)
    (a_sorted : PySem.W.nsIn K mainGlobals "_law_sorted" = some (some (.ref Asorted)))
    (l_sorted : K.lookup Asorted = some ⟨ocsorted, odsorted, .func (PySem.W.fnOf "_law_sorted" "_law_sorted" (defArgs s_sorted) (defBody s_sorted) (defScope s_sorted) .none kVsorted dcsorted pmsorted ansorted cdsorted ctsorted), slsorted⟩)
    (o_sorted : PySem.W.codeIn K cdsorted "_law_sorted" = true)
    (k_sorted : PySem.W.keepIn K (.ref Asorted) = true)
    (a_Table_repr : PySem.W.findIn K (.ref CTable) "__repr__" = some (some (.ref ATable_repr)))
    (i_Table_repr : PySem.W.isFn K (.ref ATable_repr) = true)
    (l_Table_repr : K.lookup ATable_repr = some ⟨ocTable_repr, odTable_repr, .func (PySem.W.fnOf "__repr__" "Table.__repr__" (defArgs s_Table_repr) (defBody s_Table_repr) (defScope s_Table_repr) .none kVTable_repr dcTable_repr pmTable_repr anTable_repr cdTable_repr ctTable_repr), slTable_repr⟩)
    (o_Table_repr : PySem.W.codeIn K cdTable_repr "Table.__repr__" = true)
    (k_Table_repr : PySem.W.keepIn K (.ref ATable_repr) = true)
    (a_mark_in : PySem.W.nsIn K mainGlobals "_mark_in" = some (some (.ref Amark_in)))
    (l_mark_in : K.lookup Amark_in = some ⟨ocmark_in, odmark_in, .func (PySem.W.fnOf "_mark_in" "_mark_in" (defArgs s_mark_in) (defBody s_mark_in) (defScope s_mark_in) .none kVmark_in dcmark_in pmmark_in anmark_in cdmark_in ctmark_in), slmark_in⟩)
    (o_mark_in : PySem.W.codeIn K cdmark_in "_mark_in" = true)
    (k_mark_in : PySem.W.keepIn K (.ref Amark_in) = true)
    (a_Table_row_of : PySem.W.findIn K (.ref CTable) "row_of" = some (some (.ref ATable_row_of)))
    (i_Table_row_of : PySem.W.isFn K (.ref ATable_row_of) = true)
    (l_Table_row_of : K.lookup ATable_row_of = some ⟨ocTable_row_of, odTable_row_of, .func (PySem.W.fnOf "row_of" "Table.row_of" (defArgs s_Table_row_of) (defBody s_Table_row_of) (defScope s_Table_row_of) .none kVTable_row_of dcTable_row_of pmTable_row_of anTable_row_of cdTable_row_of ctTable_row_of), slTable_row_of⟩)
    (o_Table_row_of : PySem.W.codeIn K cdTable_row_of "Table.row_of" = true)
    (k_Table_row_of : PySem.W.keepIn K (.ref ATable_row_of) = true)
    (a_row : PySem.W.nsIn K mainGlobals "_law_row" = some (some (.ref Arow)))
    (l_row : K.lookup Arow = some ⟨ocrow, odrow, .func (PySem.W.fnOf "_law_row" "_law_row" (defArgs s_row) (defBody s_row) (defScope s_row) .none kVrow dcrow pmrow anrow cdrow ctrow), slrow⟩)
    (o_row : PySem.W.codeIn K cdrow "_law_row" = true)
    (k_row : PySem.W.keepIn K (.ref Arow) = true)
    (a_is : PySem.W.nsIn K mainGlobals "_law_is" = some (some (.ref Ais)))
    (l_is : K.lookup Ais = some ⟨ocis, odis, .func (PySem.W.fnOf "_law_is" "_law_is" (defArgs s_is) (defBody s_is) (defScope s_is) .none kVis dcis pmis anis cdis ctis), slis⟩)
    (o_is : PySem.W.codeIn K cdis "_law_is" = true)
    (k_is : PySem.W.keepIn K (.ref Ais) = true)
    (a_days_right : PySem.W.nsIn K mainGlobals "_law_days_right" = some (some (.ref Adays_right)))
    (l_days_right : K.lookup Adays_right = some ⟨ocdays_right, oddays_right, .func (PySem.W.fnOf "_law_days_right" "_law_days_right" (defArgs s_days_right) (defBody s_days_right) (defScope s_days_right) .none kVdays_right dcdays_right pmdays_right andays_right cddays_right ctdays_right), sldays_right⟩)
    (o_days_right : PySem.W.codeIn K cddays_right "_law_days_right" = true)
    (k_days_right : PySem.W.keepIn K (.ref Adays_right) = true)
    (a_days : PySem.W.nsIn K mainGlobals "_law_days" = some (some (.ref Adays)))
    (l_days : K.lookup Adays = some ⟨ocdays, oddays, .func (PySem.W.fnOf "_law_days" "_law_days" (defArgs s_days) (defBody s_days) (defScope s_days) .none kVdays dcdays pmdays andays cddays ctdays), sldays⟩)
    (o_days : PySem.W.codeIn K cddays "_law_days" = true)
    (k_days : PySem.W.keepIn K (.ref Adays) = true)
    (a_right : PySem.W.nsIn K mainGlobals "_law_right" = some (some (.ref Aright)))
    (l_right : K.lookup Aright = some ⟨ocright, odright, .func (PySem.W.fnOf "_law_right" "_law_right" (defArgs s_right) (defBody s_right) (defScope s_right) .none kVright dcright pmright anright cdright ctright), slright⟩)
    (o_right : PySem.W.codeIn K cdright "_law_right" = true)
    (k_right : PySem.W.keepIn K (.ref Aright) = true)
    (a_pot : PySem.W.nsIn K mainGlobals "_law_pot" = some (some (.ref Apot)))
    (l_pot : K.lookup Apot = some ⟨ocpot, odpot, .func (PySem.W.fnOf "_law_pot" "_law_pot" (defArgs s_pot) (defBody s_pot) (defScope s_pot) .none kVpot dcpot pmpot anpot cdpot ctpot), slpot⟩)
    (o_pot : PySem.W.codeIn K cdpot "_law_pot" = true)
    (k_pot : PySem.W.keepIn K (.ref Apot) = true)
    (a_law : PySem.W.nsIn K mainGlobals "law" = some (some (.ref Alaw)))
    (l_law : K.lookup Alaw = some ⟨oclaw, odlaw, .func (PySem.W.fnOf "law" "law" (defArgs s_law) (defBody s_law) (defScope s_law) .none kVlaw dclaw pmlaw anlaw cdlaw ctlaw), sllaw⟩)
    (o_law : PySem.W.codeIn K cdlaw "law" = true)
    (k_law : PySem.W.keepIn K (.ref Alaw) = true)
    (aC_Table : PySem.W.nsIn K mainGlobals "Table" = some (some (.ref CTable)))
    (pg_Table : PySem.W.plainGet K CTable Str.empty = true)
    (hd_Table : PySem.W.hasDictIn K CTable = true)
    (po_Table : PySem.W.plainOver K CTable = true)
    (sa_Table : PySem.W.findIn K (.ref CTable) "__setattr__" = some (some (.builtin "object.__setattr__")))
    (mk_Table : PySem.W.makesIn K CTable = true)
    (kc_Table : PySem.W.keepIn K (.ref CTable) = true)
    (na_Table__rounds : PySem.W.findIn K (.ref CTable) "_rounds" = some none)
    (z_abs : PySem.W.nsIn K mainGlobals "abs" = some none)
    (z_all : PySem.W.nsIn K mainGlobals "all" = some none)
    (z_any : PySem.W.nsIn K mainGlobals "any" = some none)
    (z_bool : PySem.W.nsIn K mainGlobals "bool" = some none)
    (z_dict : PySem.W.nsIn K mainGlobals "dict" = some none)
    (z_divmod : PySem.W.nsIn K mainGlobals "divmod" = some none)
    (z_enumerate : PySem.W.nsIn K mainGlobals "enumerate" = some none)
    (z_int : PySem.W.nsIn K mainGlobals "int" = some none)
    (z_isinstance : PySem.W.nsIn K mainGlobals "isinstance" = some none)
    (z_len : PySem.W.nsIn K mainGlobals "len" = some none)
    (z_list : PySem.W.nsIn K mainGlobals "list" = some none)
    (z_max : PySem.W.nsIn K mainGlobals "max" = some none)
    (z_min : PySem.W.nsIn K mainGlobals "min" = some none)
    (z_range : PySem.W.nsIn K mainGlobals "range" = some none)
    (z_repr : PySem.W.nsIn K mainGlobals "repr" = some none)
    (z_set : PySem.W.nsIn K mainGlobals "set" = some none)
    (z_sorted : PySem.W.nsIn K mainGlobals "sorted" = some none)
    (z_sum : PySem.W.nsIn K mainGlobals "sum" = some none)
    (z_tuple : PySem.W.nsIn K mainGlobals "tuple" = some none)
    (z_zip : PySem.W.nsIn K mainGlobals "zip" = some none)
    (c_FEWEST_MEETINGS : PySem.W.nsIn K mainGlobals "FEWEST_MEETINGS" = some (some (.int 2 tFEWEST_MEETINGS)))
    (c_MOST_MEETINGS : PySem.W.nsIn K mainGlobals "MOST_MEETINGS" = some (some (.int 12 tMOST_MEETINGS)))
    (c_MOST_ROUNDS : PySem.W.nsIn K mainGlobals "MOST_ROUNDS" = some (some (.int 60 tMOST_ROUNDS))) :
    ∃ fd : FuncData, (∀ (s : Shared) (v : Value), BindsTo s fd ⟨[v], []⟩ [("_law_script", v)]) ∧ ∀ base : Heap, K.In base → base.Ns mainGlobals mg → FnG l.prog w K mg base 9 fa fd ["_law_script"] (sp_law K) := by
  have e := hfa.symm.trans (PySem.W.mg_of X G a_law)
  cases e
  have T : Txt w K mg ⟨Adraw, (PySem.W.fnOf "_law_draw" "_law_draw" (defArgs s_draw) (defBody s_draw) (defScope s_draw) .none kVdraw dcdraw pmdraw andraw cddraw ctdraw), Apick, (PySem.W.fnOf "_law_pick" "_law_pick" (defArgs s_pick) (defBody s_pick) (defScope s_pick) .none kVpick dcpick pmpick anpick cdpick ctpick), Amany, (PySem.W.fnOf "_law_many" "_law_many" (defArgs s_many) (defBody s_many) (defScope s_many) .none kVmany dcmany pmmany anmany cdmany ctmany), Acircle, (PySem.W.fnOf "_law_circle" "_law_circle" (defArgs s_circle) (defBody s_circle) (defScope s_circle) .none kVcircle dccircle pmcircle ancircle cdcircle ctcircle), Amixed, (PySem.W.fnOf "_law_mixed" "_law_mixed" (defArgs s_mixed) (defBody s_mixed) (defScope s_mixed) .none kVmixed dcmixed pmmixed anmixed cdmixed ctmixed), Aday, (PySem.W.fnOf "_law_day" "_law_day" (defArgs s_day) (defBody s_day) (defScope s_day) .none kVday dcday pmday anday cdday ctday), Apairs_days, (PySem.W.fnOf "_law_pairs_days" "_law_pairs_days" (defArgs s_pairs_days) (defBody s_pairs_days) (defScope s_pairs_days) .none kVpairs_days dcpairs_days pmpairs_days anpairs_days cdpairs_days ctpairs_days), Apassed, (PySem.W.fnOf "_law_passed" "_law_passed" (defArgs s_passed) (defBody s_passed) (defScope s_passed) .none kVpassed dcpassed pmpassed anpassed cdpassed ctpassed), Ais_list, (PySem.W.fnOf "is_list" "is_list" (defArgs s_is_list) (defBody s_is_list) (defScope s_is_list) .none kVis_list dcis_list pmis_list anis_list cdis_list ctis_list), Ais_integer, (PySem.W.fnOf "is_integer" "is_integer" (defArgs s_is_integer) (defBody s_is_integer) (defScope s_is_integer) .none kVis_integer dcis_integer pmis_integer anis_integer cdis_integer ctis_integer), Ais_meeting, (PySem.W.fnOf "_is_meeting" "_is_meeting" (defArgs s_is_meeting) (defBody s_is_meeting) (defScope s_is_meeting) .none kVis_meeting dcis_meeting pmis_meeting anis_meeting cdis_meeting ctis_meeting), Ais_round, (PySem.W.fnOf "is_round" "is_round" (defArgs s_is_round) (defBody s_is_round) (defScope s_is_round) .none kVis_round dcis_round pmis_round anis_round cdis_round ctis_round), Acheck_rounds, (PySem.W.fnOf "_check_rounds" "_check_rounds" (defArgs s_check_rounds) (defBody s_check_rounds) (defScope s_check_rounds) .none kVcheck_rounds dccheck_rounds pmcheck_rounds ancheck_rounds cdcheck_rounds ctcheck_rounds), ATable_init, (PySem.W.fnOf "__init__" "Table.__init__" (defArgs s_Table_init) (defBody s_Table_init) (defScope s_Table_init) .none kVTable_init dcTable_init pmTable_init anTable_init cdTable_init ctTable_init), Acounts, (PySem.W.fnOf "_law_counts" "_law_counts" (defArgs s_counts) (defBody s_counts) (defScope s_counts) .none kVcounts dccounts pmcounts ancounts cdcounts ctcounts), Adue, (PySem.W.fnOf "_law_due" "_law_due" (defArgs s_due) (defBody s_due) (defScope s_due) .none kVdue dcdue pmdue andue cddue ctdue), ATable_rounds, (PySem.W.fnOf "rounds" "Table.rounds" (defArgs s_Table_rounds) (defBody s_Table_rounds) (defScope s_Table_rounds) .none kVTable_rounds dcTable_rounds pmTable_rounds anTable_rounds cdTable_rounds ctTable_rounds), ATable_size, (PySem.W.fnOf "size" "Table.size" (defArgs s_Table_size) (defBody s_Table_size) (defScope s_Table_size) .none kVTable_size dcTable_size pmTable_size anTable_size cdTable_size ctTable_size), Afirst_odd_pair, (PySem.W.fnOf "first_odd_pair" "first_odd_pair" (defArgs s_first_odd_pair) (defBody s_first_odd_pair) (defScope s_first_odd_pair) .none kVfirst_odd_pair dcfirst_odd_pair pmfirst_odd_pair anfirst_odd_pair cdfirst_odd_pair ctfirst_odd_pair), Ais_single, (PySem.W.fnOf "is_single" "is_single" (defArgs s_is_single) (defBody s_is_single) (defScope s_is_single) .none kVis_single dcis_single pmis_single anis_single cdis_single ctis_single), Aany_way, (PySem.W.fnOf "_law_any_way" "_law_any_way" (defArgs s_any_way) (defBody s_any_way) (defScope s_any_way) .none kVany_way dcany_way pmany_way anany_way cdany_way ctany_way), Ais_count, (PySem.W.fnOf "is_count" "is_count" (defArgs s_is_count) (defBody s_is_count) (defScope s_is_count) .none kVis_count dcis_count pmis_count anis_count cdis_count ctis_count), Acheck_team, (PySem.W.fnOf "check_team" "check_team" (defArgs s_check_team) (defBody s_check_team) (defScope s_check_team) .none kVcheck_team dccheck_team pmcheck_team ancheck_team cdcheck_team ctcheck_team), Acheck_pair, (PySem.W.fnOf "check_pair" "check_pair" (defArgs s_check_pair) (defBody s_check_pair) (defScope s_check_pair) .none kVcheck_pair dccheck_pair pmcheck_pair ancheck_pair cdcheck_pair ctcheck_pair), ATable_met_in, (PySem.W.fnOf "met_in" "Table.met_in" (defArgs s_Table_met_in) (defBody s_Table_met_in) (defScope s_Table_met_in) .none kVTable_met_in dcTable_met_in pmTable_met_in anTable_met_in cdTable_met_in ctTable_met_in), ATable_len, (PySem.W.fnOf "__len__" "Table.__len__" (defArgs s_Table_len) (defBody s_Table_len) (defScope s_Table_len) .none kVTable_len dcTable_len pmTable_len anTable_len cdTable_len ctTable_len), Acheck_day, (PySem.W.fnOf "check_day" "check_day" (defArgs s_check_day) (defBody s_check_day) (defScope s_check_day) .none kVcheck_day dccheck_day pmcheck_day ancheck_day cdcheck_day ctcheck_day), ATable_meetings, (PySem.W.fnOf "meetings" "Table.meetings" (defArgs s_Table_meetings) (defBody s_Table_meetings) (defScope s_Table_meetings) .none kVTable_meetings dcTable_meetings pmTable_meetings anTable_meetings cdTable_meetings ctTable_meetings), Asorted, (PySem.W.fnOf "_law_sorted" "_law_sorted" (defArgs s_sorted) (defBody s_sorted) (defScope s_sorted) .none kVsorted dcsorted pmsorted ansorted cdsorted ctsorted), ATable_repr, (PySem.W.fnOf "__repr__" "Table.__repr__" (defArgs s_Table_repr) (defBody s_Table_repr) (defScope s_Table_repr) .none kVTable_repr dcTable_repr pmTable_repr anTable_repr cdTable_repr ctTable_repr), Amark_in, (PySem.W.fnOf "_mark_in" "_mark_in" (defArgs s_mark_in) (defBody s_mark_in) (defScope s_mark_in) .none kVmark_in dcmark_in pmmark_in anmark_in cdmark_in ctmark_in), ATable_row_of, (PySem.W.fnOf "row_of" "Table.row_of" (defArgs s_Table_row_of) (defBody s_Table_row_of) (defScope s_Table_row_of) .none kVTable_row_of dcTable_row_of pmTable_row_of anTable_row_of cdTable_row_of ctTable_row_of), Arow, (PySem.W.fnOf "_law_row" "_law_row" (defArgs s_row) (defBody s_row) (defScope s_row) .none kVrow dcrow pmrow anrow cdrow ctrow), Ais, (PySem.W.fnOf "_law_is" "_law_is" (defArgs s_is) (defBody s_is) (defScope s_is) .none kVis dcis pmis anis cdis ctis), Adays_right, (PySem.W.fnOf "_law_days_right" "_law_days_right" (defArgs s_days_right) (defBody s_days_right) (defScope s_days_right) .none kVdays_right dcdays_right pmdays_right andays_right cddays_right ctdays_right), Adays, (PySem.W.fnOf "_law_days" "_law_days" (defArgs s_days) (defBody s_days) (defScope s_days) .none kVdays dcdays pmdays andays cddays ctdays), Aright, (PySem.W.fnOf "_law_right" "_law_right" (defArgs s_right) (defBody s_right) (defScope s_right) .none kVright dcright pmright anright cdright ctright), Apot, (PySem.W.fnOf "_law_pot" "_law_pot" (defArgs s_pot) (defBody s_pot) (defScope s_pot) .none kVpot dcpot pmpot anpot cdpot ctpot), fa, (PySem.W.fnOf "law" "law" (defArgs s_law) (defBody s_law) (defScope s_law) .none kVlaw dclaw pmlaw anlaw cdlaw ctlaw), CTable, PTable_size⟩ := ⟨fun_mk (st := s_draw) l_draw o_draw k_draw, (fun_mk (st := s_draw) l_draw o_draw k_draw).binds (ps := ["_law_pot_here", "_law_many_here"]) fun _ _ _ _ _ _ us hl => match us, hl with | [_, _], _ => rfl, PySem.W.mg_of X G a_draw, fun_mk (st := s_pick) l_pick o_pick k_pick, (fun_mk (st := s_pick) l_pick o_pick k_pick).binds (ps := ["_law_pot_here", "_law_some"]) fun _ _ _ _ _ _ us hl => match us, hl with | [_, _], _ => rfl, PySem.W.mg_of X G a_pick, fun_mk (st := s_many) l_many o_many k_many, (fun_mk (st := s_many) l_many o_many k_many).binds (ps := ["_law_pot_here"]) fun _ _ _ _ _ _ us hl => match us, hl with | [_], _ => rfl, PySem.W.mg_of X G a_many, fun_mk (st := s_circle) l_circle o_circle k_circle, (fun_mk (st := s_circle) l_circle o_circle k_circle).binds (ps := ["_law_many_here"]) fun _ _ _ _ _ _ us hl => match us, hl with | [_], _ => rfl, PySem.W.mg_of X G a_circle, fun_mk (st := s_mixed) l_mixed o_mixed k_mixed, (fun_mk (st := s_mixed) l_mixed o_mixed k_mixed).binds (ps := ["_law_pot_here", "_law_some"]) fun _ _ _ _ _ _ us hl => match us, hl with | [_, _], _ => rfl, PySem.W.mg_of X G a_mixed, fun_mk (st := s_day) l_day o_day k_day, (fun_mk (st := s_day) l_day o_day k_day).binds (ps := ["_law_pot_here", "_law_many_here"]) fun _ _ _ _ _ _ us hl => match us, hl with | [_, _], _ => rfl, PySem.W.mg_of X G a_day, fun_mk (st := s_pairs_days) l_pairs_days o_pairs_days k_pairs_days, (fun_mk (st := s_pairs_days) l_pairs_days o_pairs_days k_pairs_days).binds (ps := ["_law_pot_here", "_law_many_here"]) fun _ _ _ _ _ _ us hl => match us, hl with | [_, _], _ => rfl, PySem.W.mg_of X G a_pairs_days, fun_mk (st := s_passed) l_passed o_passed k_passed, (fun_mk (st := s_passed) l_passed o_passed k_passed).binds (ps := ["_law_pot_here", "_law_days_here"]) fun _ _ _ _ _ _ us hl => match us, hl with | [_, _], _ => rfl, PySem.W.mg_of X G a_passed, fun_mk (st := s_is_list) l_is_list o_is_list k_is_list, (fun_mk (st := s_is_list) l_is_list o_is_list k_is_list).binds (ps := ["value"]) fun _ _ _ _ _ _ us hl => match us, hl with | [_], _ => rfl, PySem.W.mg_of X G a_is_list, fun_mk (st := s_is_integer) l_is_integer o_is_integer k_is_integer, (fun_mk (st := s_is_integer) l_is_integer o_is_integer k_is_integer).binds (ps := ["value"]) fun _ _ _ _ _ _ us hl => match us, hl with | [_], _ => rfl, PySem.W.mg_of X G a_is_integer, fun_mk (st := s_is_meeting) l_is_meeting o_is_meeting k_is_meeting, (fun_mk (st := s_is_meeting) l_is_meeting o_is_meeting k_is_meeting).binds (ps := ["value"]) fun _ _ _ _ _ _ us hl => match us, hl with | [_], _ => rfl, PySem.W.mg_of X G a_is_meeting, fun_mk (st := s_is_round) l_is_round o_is_round k_is_round, (fun_mk (st := s_is_round) l_is_round o_is_round k_is_round).binds (ps := ["value"]) fun _ _ _ _ _ _ us hl => match us, hl with | [_], _ => rfl, PySem.W.mg_of X G a_is_round, fun_mk (st := s_check_rounds) l_check_rounds o_check_rounds k_check_rounds, (fun_mk (st := s_check_rounds) l_check_rounds o_check_rounds k_check_rounds).binds (ps := ["rounds"]) fun _ _ _ _ _ _ us hl => match us, hl with | [_], _ => rfl, PySem.W.mg_of X G a_check_rounds, fun_mk (st := s_Table_init) l_Table_init o_Table_init k_Table_init, (fun_mk (st := s_Table_init) l_Table_init o_Table_init k_Table_init).binds (ps := ["self", "rounds"]) fun _ _ _ _ _ _ us hl => match us, hl with | [_, _], _ => rfl, fun_mk (st := s_counts) l_counts o_counts k_counts, (fun_mk (st := s_counts) l_counts o_counts k_counts).binds (ps := ["_law_days_here", "_law_many_here"]) fun _ _ _ _ _ _ us hl => match us, hl with | [_, _], _ => rfl, PySem.W.mg_of X G a_counts, fun_mk (st := s_due) l_due o_due k_due, (fun_mk (st := s_due) l_due o_due k_due).binds (ps := ["_law_days_here", "_law_many_here"]) fun _ _ _ _ _ _ us hl => match us, hl with | [_, _], _ => rfl, PySem.W.mg_of X G a_due, fun_mk (st := s_Table_rounds) l_Table_rounds o_Table_rounds k_Table_rounds, (fun_mk (st := s_Table_rounds) l_Table_rounds o_Table_rounds k_Table_rounds).binds (ps := ["self"]) fun _ _ _ _ _ _ us hl => match us, hl with | [_], _ => rfl, ⟨a_Table_rounds, i_Table_rounds, k_Table_rounds⟩, fun_mk (st := s_Table_size) l_Table_size o_Table_size k_Table_size, (fun_mk (st := s_Table_size) l_Table_size o_Table_size k_Table_size).binds (ps := ["self"]) fun _ _ _ _ _ _ us hl => match us, hl with | [_], _ => rfl, ⟨pa_Table_size, pg_Table_size, pt_Table_size, ⟨_, pr_Table_size⟩⟩, fun_mk (st := s_first_odd_pair) l_first_odd_pair o_first_odd_pair k_first_odd_pair, (fun_mk (st := s_first_odd_pair) l_first_odd_pair o_first_odd_pair k_first_odd_pair).binds (ps := ["table"]) fun _ _ _ _ _ _ us hl => match us, hl with | [_], _ => rfl, PySem.W.mg_of X G a_first_odd_pair, fun_mk (st := s_is_single) l_is_single o_is_single k_is_single, (fun_mk (st := s_is_single) l_is_single o_is_single k_is_single).binds (ps := ["table"]) fun _ _ _ _ _ _ us hl => match us, hl with | [_], _ => rfl, PySem.W.mg_of X G a_is_single, fun_mk (st := s_any_way) l_any_way o_any_way k_any_way, (fun_mk (st := s_any_way) l_any_way o_any_way k_any_way).binds (ps := ["_law_pot_here", "_law_days_here"]) fun _ _ _ _ _ _ us hl => match us, hl with | [_, _], _ => rfl, PySem.W.mg_of X G a_any_way, fun_mk (st := s_is_count) l_is_count o_is_count k_is_count, (fun_mk (st := s_is_count) l_is_count o_is_count k_is_count).binds (ps := ["value"]) fun _ _ _ _ _ _ us hl => match us, hl with | [_], _ => rfl, PySem.W.mg_of X G a_is_count, fun_mk (st := s_check_team) l_check_team o_check_team k_check_team, (fun_mk (st := s_check_team) l_check_team o_check_team k_check_team).binds (ps := ["team", "teams"]) fun _ _ _ _ _ _ us hl => match us, hl with | [_, _], _ => rfl, PySem.W.mg_of X G a_check_team, fun_mk (st := s_check_pair) l_check_pair o_check_pair k_check_pair, (fun_mk (st := s_check_pair) l_check_pair o_check_pair k_check_pair).binds (ps := ["one", "other", "teams"]) fun _ _ _ _ _ _ us hl => match us, hl with | [_, _, _], _ => rfl, PySem.W.mg_of X G a_check_pair, fun_mk (st := s_Table_met_in) l_Table_met_in o_Table_met_in k_Table_met_in, (fun_mk (st := s_Table_met_in) l_Table_met_in o_Table_met_in k_Table_met_in).binds (ps := ["self", "one", "other"]) fun _ _ _ _ _ _ us hl => match us, hl with | [_, _, _], _ => rfl, ⟨a_Table_met_in, i_Table_met_in, k_Table_met_in⟩, fun_mk (st := s_Table_len) l_Table_len o_Table_len k_Table_len, (fun_mk (st := s_Table_len) l_Table_len o_Table_len k_Table_len).binds (ps := ["self"]) fun _ _ _ _ _ _ us hl => match us, hl with | [_], _ => rfl, ⟨a_Table_len, i_Table_len, k_Table_len⟩, fun_mk (st := s_check_day) l_check_day o_check_day k_check_day, (fun_mk (st := s_check_day) l_check_day o_check_day k_check_day).binds (ps := ["day", "rounds"]) fun _ _ _ _ _ _ us hl => match us, hl with | [_, _], _ => rfl, PySem.W.mg_of X G a_check_day, fun_mk (st := s_Table_meetings) l_Table_meetings o_Table_meetings k_Table_meetings, (fun_mk (st := s_Table_meetings) l_Table_meetings o_Table_meetings k_Table_meetings).binds (ps := ["self", "day"]) fun _ _ _ _ _ _ us hl => match us, hl with | [_, _], _ => rfl, ⟨a_Table_meetings, i_Table_meetings, k_Table_meetings⟩, fun_mk (st := s_sorted) l_sorted o_sorted k_sorted, (fun_mk (st := s_sorted) l_sorted o_sorted k_sorted).binds (ps := ["_law_days_here"]) fun _ _ _ _ _ _ us hl => match us, hl with | [_], _ => rfl, PySem.W.mg_of X G a_sorted, fun_mk (st := s_Table_repr) l_Table_repr o_Table_repr k_Table_repr, (fun_mk (st := s_Table_repr) l_Table_repr o_Table_repr k_Table_repr).binds (ps := ["self"]) fun _ _ _ _ _ _ us hl => match us, hl with | [_], _ => rfl, ⟨a_Table_repr, i_Table_repr, k_Table_repr⟩, fun_mk (st := s_mark_in) l_mark_in o_mark_in k_mark_in, (fun_mk (st := s_mark_in) l_mark_in o_mark_in k_mark_in).binds (ps := ["meetings", "team"]) fun _ _ _ _ _ _ us hl => match us, hl with | [_, _], _ => rfl, PySem.W.mg_of X G a_mark_in, fun_mk (st := s_Table_row_of) l_Table_row_of o_Table_row_of k_Table_row_of, (fun_mk (st := s_Table_row_of) l_Table_row_of o_Table_row_of k_Table_row_of).binds (ps := ["self", "team"]) fun _ _ _ _ _ _ us hl => match us, hl with | [_, _], _ => rfl, ⟨a_Table_row_of, i_Table_row_of, k_Table_row_of⟩, fun_mk (st := s_row) l_row o_row k_row, (fun_mk (st := s_row) l_row o_row k_row).binds (ps := ["_law_days_here", "_law_who"]) fun _ _ _ _ _ _ us hl => match us, hl with | [_, _], _ => rfl, PySem.W.mg_of X G a_row, fun_mk (st := s_is) l_is o_is k_is, (fun_mk (st := s_is) l_is o_is k_is).binds (ps := ["_law_made", "_law_days_here", "_law_many_here"]) fun _ _ _ _ _ _ us hl => match us, hl with | [_, _, _], _ => rfl, PySem.W.mg_of X G a_is, fun_mk (st := s_days_right) l_days_right o_days_right k_days_right, (fun_mk (st := s_days_right) l_days_right o_days_right k_days_right).binds (ps := ["_law_pot_here", "_law_days_here", "_law_many_here"]) fun _ _ _ _ _ _ us hl => match us, hl with | [_, _, _], _ => rfl, PySem.W.mg_of X G a_days_right, fun_mk (st := s_days) l_days o_days k_days, (fun_mk (st := s_days) l_days o_days k_days).binds (ps := ["_law_pot_here", "_law_many_here", "_law_most"]) fun _ _ _ _ _ _ us hl => match us, hl with | [_, _, _], _ => rfl, PySem.W.mg_of X G a_days, fun_mk (st := s_right) l_right o_right k_right, (fun_mk (st := s_right) l_right o_right k_right).binds (ps := ["_law_pot_here"]) fun _ _ _ _ _ _ us hl => match us, hl with | [_], _ => rfl, PySem.W.mg_of X G a_right, fun_mk (st := s_pot) l_pot o_pot k_pot, (fun_mk (st := s_pot) l_pot o_pot k_pot).binds (ps := ["_law_script", "_law_k"]) fun _ _ _ _ _ _ us hl => match us, hl with | [_, _], _ => rfl, PySem.W.mg_of X G a_pot, fun_mk (st := s_law) l_law o_law k_law, (fun_mk (st := s_law) l_law o_law k_law).binds (ps := ["_law_script"]) fun _ _ _ _ _ _ us hl => match us, hl with | [_], _ => rfl, PySem.W.mg_of X G a_law, ⟨pg_Table, hd_Table, po_Table, sa_Table⟩, PySem.W.mg_of X G aC_Table, ⟨mk_Table, a_Table_init, i_Table_init, kc_Table⟩, na_Table__rounds, ⟨a_Table_len, i_Table_len⟩, ⟨a_Table_repr, i_Table_repr⟩, PySem.W.mg_none_of X G z_abs, PySem.W.mg_none_of X G z_all, PySem.W.mg_none_of X G z_any, PySem.W.mg_none_of X G z_bool, PySem.W.mg_none_of X G z_dict, PySem.W.mg_none_of X G z_divmod, PySem.W.mg_none_of X G z_enumerate, PySem.W.mg_none_of X G z_int, PySem.W.mg_none_of X G z_isinstance, PySem.W.mg_none_of X G z_len, PySem.W.mg_none_of X G z_list, PySem.W.mg_none_of X G z_max, PySem.W.mg_none_of X G z_min, PySem.W.mg_none_of X G z_range, PySem.W.mg_none_of X G z_repr, PySem.W.mg_none_of X G z_set, PySem.W.mg_none_of X G z_sorted, PySem.W.mg_none_of X G z_sum, PySem.W.mg_none_of X G z_tuple, PySem.W.mg_none_of X G z_zip, ⟨_, PySem.W.mg_of X G c_FEWEST_MEETINGS, ⟨_, rfl⟩⟩, ⟨_, PySem.W.mg_of X G c_MOST_MEETINGS, ⟨_, rfl⟩⟩, ⟨_, PySem.W.mg_of X G c_MOST_ROUNDS, ⟨_, rfl⟩⟩, ⟨fun s us ws _ h1 h2 => match us, ws, h1, h2 with | [], [_], _, _ => .of_eq rfl, fun r1 r2 => r1.append (.cons (vals_getD r2 0) (.nil))⟩, ⟨fun s us ws _ h1 h2 => match us, ws, h1, h2 with | [], [_], _, _ => .of_eq rfl, fun r1 r2 => r1.append (.cons (vals_getD r2 0) (.nil))⟩⟩
  exact ⟨_, fun s v => .of_eq rfl, fun base _ _ => ok_law T⟩
theorem ob_eq (s : PySem.W.SharedT) : ob s = hk.obs s.abs := obF_eq s
theorem facts {l : PySem.W.OpenLaw} {w : World} {mg : Str → Option Value} {fa : Addr} {h : Heap} (Y : hk.says w h) (G : h.Ns mainGlobals mg) (hfa : mg "law" = some (.ref fa)) :
    ∃ K : PySem.W.Frag, K.In h ∧ ∃ (fd : FuncData) (sp : Sp), (∀ (s : Shared) (u : Value), BindsTo s fd ⟨[u], []⟩ [("_law_script", u)]) ∧
      (∀ (H : Hp) (a : Addr) (ns : List Int), ns.length ≤ 63 → Only H → SqL K H a (ns.map V.int) → sp [.ref a] H (fun v _ => v = .bl true) E0) ∧
      ∀ base : Heap, K.In base → base.Ns mainGlobals mg → FnG l.prog w K mg base 9 fa fd ["_law_script"] sp := by
  obtain ⟨K, KX, c_⟩ := Y
  have cx0_ : (gxa K && gxb K) = true := congrArg (fun z : AlR => z.1) c_
  obtain ⟨cx_, cy_⟩ := He.ba cx0_
  have cf_ : (fnL.map fun a => shR K (a K)) = fnV := congrArg (fun z : AlR => z.2.1) c_
  have ct_ : (tsL.map fun t => He.dicW K (t.1 K)) = tsL.map fun t => some (He.keysIn w.params t.2) := congrArg (fun z : AlR => z.2.2) c_
  obtain ⟨g0_, cx_⟩ := He.ba cx_
  obtain ⟨a_draw, fd_draw, o_draw, k_draw, a_pick, fd_pick, o_pick, k_pick, a_many, fd_many⟩ := of_decide_eq_true g0_
  obtain ⟨g1_, cx_⟩ := He.ba cx_
  obtain ⟨o_many, k_many, a_circle, fd_circle, o_circle, k_circle, a_mixed, fd_mixed, o_mixed, k_mixed⟩ := of_decide_eq_true g1_
  obtain ⟨g2_, cx_⟩ := He.ba cx_
  obtain ⟨a_day, fd_day, o_day, k_day, a_pairs_days, fd_pairs_days, o_pairs_days, k_pairs_days, a_passed, fd_passed⟩ := of_decide_eq_true g2_
  obtain ⟨g3_, cx_⟩ := He.ba cx_
  obtain ⟨o_passed, k_passed, a_is_list, fd_is_list, o_is_list, k_is_list, a_is_integer, fd_is_integer, o_is_integer, k_is_integer⟩ := of_decide_eq_true g3_
  obtain ⟨g4_, cx_⟩ := He.ba cx_
  obtain ⟨a_is_meeting, fd_is_meeting, o_is_meeting, k_is_meeting, a_is_round, fd_is_round, o_is_round, k_is_round, a_check_rounds, fd_check_rounds⟩ := of_decide_eq_true g4_
  obtain ⟨g5_, cx_⟩ := He.ba cx_
  obtain ⟨o_check_rounds, k_check_rounds, a_Table_init, i_Table_init, fd_Table_init, o_Table_init, k_Table_init, a_counts, fd_counts, o_counts⟩ := of_decide_eq_true g5_
  obtain ⟨g6_, cx_⟩ := He.ba cx_
  obtain ⟨k_counts, a_due, fd_due, o_due, k_due, a_Table_rounds, i_Table_rounds, fd_Table_rounds, o_Table_rounds, k_Table_rounds⟩ := of_decide_eq_true g6_
  obtain ⟨g7_, cx_⟩ := He.ba cx_
  obtain ⟨pa_Table_size, pg_Table_size, pt_Table_size, fpr_Table_size, fd_Table_size, o_Table_size, k_Table_size, a_first_odd_pair, fd_first_odd_pair, o_first_odd_pair⟩ := of_decide_eq_true g7_
  obtain ⟨g8_, cx_⟩ := He.ba cx_
  obtain ⟨k_first_odd_pair, a_is_single, fd_is_single, o_is_single, k_is_single, a_any_way, fd_any_way, o_any_way, k_any_way, a_is_count⟩ := of_decide_eq_true g8_
  have g9_ := cx_
  obtain ⟨fd_is_count, o_is_count, k_is_count, a_check_team, fd_check_team, o_check_team, k_check_team, a_check_pair, fd_check_pair, o_check_pair⟩ := of_decide_eq_true g9_
  obtain ⟨g10_, cy_⟩ := He.ba cy_
  obtain ⟨k_check_pair, a_Table_met_in, i_Table_met_in, fd_Table_met_in, o_Table_met_in, k_Table_met_in, a_Table_len, i_Table_len, fd_Table_len, o_Table_len⟩ := of_decide_eq_true g10_
  obtain ⟨g11_, cy_⟩ := He.ba cy_
  obtain ⟨k_Table_len, a_check_day, fd_check_day, o_check_day, k_check_day, a_Table_meetings, i_Table_meetings, fd_Table_meetings, o_Table_meetings, k_Table_meetings⟩ := of_decide_eq_true g11_
  obtain ⟨g12_, cy_⟩ := He.ba cy_
  obtain ⟨a_sorted, fd_sorted, o_sorted, k_sorted, a_Table_repr, i_Table_repr, fd_Table_repr, o_Table_repr, k_Table_repr, a_mark_in⟩ := of_decide_eq_true g12_
  obtain ⟨g13_, cy_⟩ := He.ba cy_
  obtain ⟨fd_mark_in, o_mark_in, k_mark_in, a_Table_row_of, i_Table_row_of, fd_Table_row_of, o_Table_row_of, k_Table_row_of, a_row, fd_row⟩ := of_decide_eq_true g13_
  obtain ⟨g14_, cy_⟩ := He.ba cy_
  obtain ⟨o_row, k_row, a_is, fd_is, o_is, k_is, a_days_right, fd_days_right, o_days_right, k_days_right⟩ := of_decide_eq_true g14_
  obtain ⟨g15_, cy_⟩ := He.ba cy_
  obtain ⟨a_days, fd_days, o_days, k_days, a_right, fd_right, o_right, k_right, a_pot, fd_pot⟩ := of_decide_eq_true g15_
  obtain ⟨g16_, cy_⟩ := He.ba cy_
  obtain ⟨o_pot, k_pot, a_law, fd_law, o_law, k_law, aC_Table, pg_Table, hd_Table, po_Table⟩ := of_decide_eq_true g16_
  obtain ⟨g17_, cy_⟩ := He.ba cy_
  obtain ⟨sa_Table, mk_Table, kc_Table, na_Table__rounds, z_abs, z_all, z_any, z_bool, z_dict, z_divmod⟩ := of_decide_eq_true g17_
  obtain ⟨g18_, cy_⟩ := He.ba cy_
  obtain ⟨z_enumerate, z_int, z_isinstance, z_len, z_list, z_max, z_min, z_range, z_repr, z_set⟩ := of_decide_eq_true g18_
  have g19_ := cy_
  obtain ⟨z_sorted, z_sum, z_tuple, z_zip, c_FEWEST_MEETINGS, c_MOST_MEETINGS, c_MOST_ROUNDS⟩ := of_decide_eq_true g19_
  obtain ⟨_, _, _, _, _, _, _, _, l_draw⟩ := shR_ok (fnAt cf_ 0 (a := xa_Adraw) (v := sv_draw) (by rfl) (by rfl)) fd_draw rfl
  obtain ⟨_, _, _, _, _, _, _, _, l_pick⟩ := shR_ok (fnAt cf_ 1 (a := xa_Apick) (v := sv_pick) (by rfl) (by rfl)) fd_pick rfl
  obtain ⟨_, _, _, _, _, _, _, _, l_many⟩ := shR_ok (fnAt cf_ 2 (a := xa_Amany) (v := sv_many) (by rfl) (by rfl)) fd_many rfl
  obtain ⟨_, _, _, _, _, _, _, _, l_circle⟩ := shR_ok (fnAt cf_ 3 (a := xa_Acircle) (v := sv_circle) (by rfl) (by rfl)) fd_circle rfl
  obtain ⟨_, _, _, _, _, _, _, _, l_mixed⟩ := shR_ok (fnAt cf_ 4 (a := xa_Amixed) (v := sv_mixed) (by rfl) (by rfl)) fd_mixed rfl
  obtain ⟨_, _, _, _, _, _, _, _, l_day⟩ := shR_ok (fnAt cf_ 5 (a := xa_Aday) (v := sv_day) (by rfl) (by rfl)) fd_day rfl
  obtain ⟨_, _, _, _, _, _, _, _, l_pairs_days⟩ := shR_ok (fnAt cf_ 6 (a := xa_Apairs_days) (v := sv_pairs_days) (by rfl) (by rfl)) fd_pairs_days rfl
  obtain ⟨_, _, _, _, _, _, _, _, l_passed⟩ := shR_ok (fnAt cf_ 7 (a := xa_Apassed) (v := sv_passed) (by rfl) (by rfl)) fd_passed rfl
  obtain ⟨_, _, _, _, _, _, _, _, l_is_list⟩ := shR_ok (fnAt cf_ 8 (a := xa_Ais_list) (v := sv_is_list) (by rfl) (by rfl)) fd_is_list rfl
  obtain ⟨_, _, _, _, _, _, _, _, l_is_integer⟩ := shR_ok (fnAt cf_ 9 (a := xa_Ais_integer) (v := sv_is_integer) (by rfl) (by rfl)) fd_is_integer rfl
  obtain ⟨_, _, _, _, _, _, _, _, l_is_meeting⟩ := shR_ok (fnAt cf_ 10 (a := xa_Ais_meeting) (v := sv_is_meeting) (by rfl) (by rfl)) fd_is_meeting rfl
  obtain ⟨_, _, _, _, _, _, _, _, l_is_round⟩ := shR_ok (fnAt cf_ 11 (a := xa_Ais_round) (v := sv_is_round) (by rfl) (by rfl)) fd_is_round rfl
  obtain ⟨_, _, _, _, _, _, _, _, l_check_rounds⟩ := shR_ok (fnAt cf_ 12 (a := xa_Acheck_rounds) (v := sv_check_rounds) (by rfl) (by rfl)) fd_check_rounds rfl
  obtain ⟨_, _, _, _, _, _, _, _, l_Table_init⟩ := shR_ok (fnAt cf_ 13 (a := xa_ATable_init) (v := sv_Table_init) (by rfl) (by rfl)) fd_Table_init rfl
  obtain ⟨_, _, _, _, _, _, _, _, l_counts⟩ := shR_ok (fnAt cf_ 14 (a := xa_Acounts) (v := sv_counts) (by rfl) (by rfl)) fd_counts rfl
  obtain ⟨_, _, _, _, _, _, _, _, l_due⟩ := shR_ok (fnAt cf_ 15 (a := xa_Adue) (v := sv_due) (by rfl) (by rfl)) fd_due rfl
  obtain ⟨_, _, _, _, _, _, _, _, l_Table_rounds⟩ := shR_ok (fnAt cf_ 16 (a := xa_ATable_rounds) (v := sv_Table_rounds) (by rfl) (by rfl)) fd_Table_rounds rfl
  obtain ⟨_, pr_Table_size⟩ := rcB_ok fpr_Table_size
  obtain ⟨_, _, _, _, _, _, _, _, l_Table_size⟩ := shR_ok (fnAt cf_ 17 (a := xa_ATable_size) (v := sv_Table_size) (by rfl) (by rfl)) fd_Table_size rfl
  obtain ⟨_, _, _, _, _, _, _, _, l_first_odd_pair⟩ := shR_ok (fnAt cf_ 18 (a := xa_Afirst_odd_pair) (v := sv_first_odd_pair) (by rfl) (by rfl)) fd_first_odd_pair rfl
  obtain ⟨_, _, _, _, _, _, _, _, l_is_single⟩ := shR_ok (fnAt cf_ 19 (a := xa_Ais_single) (v := sv_is_single) (by rfl) (by rfl)) fd_is_single rfl
  obtain ⟨_, _, _, _, _, _, _, _, l_any_way⟩ := shR_ok (fnAt cf_ 20 (a := xa_Aany_way) (v := sv_any_way) (by rfl) (by rfl)) fd_any_way rfl
  obtain ⟨_, _, _, _, _, _, _, _, l_is_count⟩ := shR_ok (fnAt cf_ 21 (a := xa_Ais_count) (v := sv_is_count) (by rfl) (by rfl)) fd_is_count rfl
  obtain ⟨_, _, _, _, _, _, _, _, l_check_team⟩ := shR_ok (fnAt cf_ 22 (a := xa_Acheck_team) (v := sv_check_team) (by rfl) (by rfl)) fd_check_team rfl
  obtain ⟨_, _, _, _, _, _, _, _, l_check_pair⟩ := shR_ok (fnAt cf_ 23 (a := xa_Acheck_pair) (v := sv_check_pair) (by rfl) (by rfl)) fd_check_pair rfl
  obtain ⟨_, _, _, _, _, _, _, _, l_Table_met_in⟩ := shR_ok (fnAt cf_ 24 (a := xa_ATable_met_in) (v := sv_Table_met_in) (by rfl) (by rfl)) fd_Table_met_in rfl
  obtain ⟨_, _, _, _, _, _, _, _, l_Table_len⟩ := shR_ok (fnAt cf_ 25 (a := xa_ATable_len) (v := sv_Table_len) (by rfl) (by rfl)) fd_Table_len rfl
  obtain ⟨_, _, _, _, _, _, _, _, l_check_day⟩ := shR_ok (fnAt cf_ 26 (a := xa_Acheck_day) (v := sv_check_day) (by rfl) (by rfl)) fd_check_day rfl
  obtain ⟨_, _, _, _, _, _, _, _, l_Table_meetings⟩ := shR_ok (fnAt cf_ 27 (a := xa_ATable_meetings) (v := sv_Table_meetings) (by rfl) (by rfl)) fd_Table_meetings rfl
  obtain ⟨_, _, _, _, _, _, _, _, l_sorted⟩ := shR_ok (fnAt cf_ 28 (a := xa_Asorted) (v := sv_sorted) (by rfl) (by rfl)) fd_sorted rfl
  obtain ⟨_, _, _, _, _, _, _, _, l_Table_repr⟩ := shR_ok (fnAt cf_ 29 (a := xa_ATable_repr) (v := sv_Table_repr) (by rfl) (by rfl)) fd_Table_repr rfl
  obtain ⟨_, _, _, _, _, _, _, _, l_mark_in⟩ := shR_ok (fnAt cf_ 30 (a := xa_Amark_in) (v := sv_mark_in) (by rfl) (by rfl)) fd_mark_in rfl
  obtain ⟨_, _, _, _, _, _, _, _, l_Table_row_of⟩ := shR_ok (fnAt cf_ 31 (a := xa_ATable_row_of) (v := sv_Table_row_of) (by rfl) (by rfl)) fd_Table_row_of rfl
  obtain ⟨_, _, _, _, _, _, _, _, l_row⟩ := shR_ok (fnAt cf_ 32 (a := xa_Arow) (v := sv_row) (by rfl) (by rfl)) fd_row rfl
  obtain ⟨_, _, _, _, _, _, _, _, l_is⟩ := shR_ok (fnAt cf_ 33 (a := xa_Ais) (v := sv_is) (by rfl) (by rfl)) fd_is rfl
  obtain ⟨_, _, _, _, _, _, _, _, l_days_right⟩ := shR_ok (fnAt cf_ 34 (a := xa_Adays_right) (v := sv_days_right) (by rfl) (by rfl)) fd_days_right rfl
  obtain ⟨_, _, _, _, _, _, _, _, l_days⟩ := shR_ok (fnAt cf_ 35 (a := xa_Adays) (v := sv_days) (by rfl) (by rfl)) fd_days rfl
  obtain ⟨_, _, _, _, _, _, _, _, l_right⟩ := shR_ok (fnAt cf_ 36 (a := xa_Aright) (v := sv_right) (by rfl) (by rfl)) fd_right rfl
  obtain ⟨_, _, _, _, _, _, _, _, l_pot⟩ := shR_ok (fnAt cf_ 37 (a := xa_Apot) (v := sv_pot) (by rfl) (by rfl)) fd_pot rfl
  obtain ⟨_, _, _, _, _, _, _, _, l_law⟩ := shR_ok (fnAt cf_ 38 (a := xa_Alaw) (v := sv_law) (by rfl) (by rfl)) fd_law rfl
  obtain ⟨fd_, b_, F_⟩ := all_mk (l := l) KX G hfa a_draw l_draw o_draw k_draw a_pick l_pick o_pick k_pick a_many l_many o_many k_many a_circle l_circle o_circle k_circle a_mixed l_mixed o_mixed k_mixed a_day l_day o_day k_day a_pairs_days l_pairs_days o_pairs_days k_pairs_days a_passed l_passed o_passed k_passed a_is_list l_is_list o_is_list k_is_list a_is_integer l_is_integer o_is_integer k_is_integer a_is_meeting l_is_meeting o_is_meeting k_is_meeting a_is_round l_is_round o_is_round k_is_round a_check_rounds l_check_rounds o_check_rounds k_check_rounds a_Table_init i_Table_init l_Table_init o_Table_init k_Table_init a_counts l_counts o_counts k_counts a_due l_due o_due k_due a_Table_rounds i_Table_rounds l_Table_rounds o_Table_rounds k_Table_rounds pa_Table_size pg_Table_size pt_Table_size pr_Table_size l_Table_size o_Table_size k_Table_size a_first_odd_pair l_first_odd_pair o_first_odd_pair k_first_odd_pair a_is_single l_is_single o_is_single k_is_single a_any_way l_any_way o_any_way k_any_way a_is_count l_is_count o_is_count k_is_count a_check_team l_check_team o_check_team k_check_team a_check_pair l_check_pair o_check_pair k_check_pair a_Table_met_in i_Table_met_in l_Table_met_in o_Table_met_in k_Table_met_in a_Table_len i_Table_len l_Table_len o_Table_len k_Table_len a_check_day l_check_day o_check_day k_check_day a_Table_meetings i_Table_meetings l_Table_meetings o_Table_meetings k_Table_meetings a_sorted l_sorted o_sorted k_sorted a_Table_repr i_Table_repr l_Table_repr o_Table_repr k_Table_repr a_mark_in l_mark_in o_mark_in k_mark_in a_Table_row_of i_Table_row_of l_Table_row_of o_Table_row_of k_Table_row_of a_row l_row o_row k_row a_is l_is o_is k_is a_days_right l_days_right o_days_right k_days_right a_days l_days o_days k_days a_right l_right o_right k_right a_pot l_pot o_pot k_pot a_law l_law o_law k_law aC_Table pg_Table hd_Table po_Table sa_Table mk_Table kc_Table na_Table__rounds z_abs z_all z_any z_bool z_dict z_divmod z_enumerate z_int z_isinstance z_len z_list z_max z_min z_range z_repr z_set z_sorted z_sum z_tuple z_zip c_FEWEST_MEETINGS c_MOST_MEETINGS c_MOST_ROUNDS
  exact ⟨K, KX, fd_, _, b_, fun H a ns hl hO hS => law_enter hl hO hS, F_⟩
end Lw
open PySem PySem.W PyProof.Rows in
set_option maxRecDepth 100000 in
set_option maxHeartbeats 0 in
theorem PySem.Challenge.cw_ringrows_k47_pairs_of_tables_holds : PySem.Challenge.rw_ringrows_k47_pairs_of_tables.Holds := by
  w_on; o_law
  refine HandSHeadRun.head_any (r := OpenLaw.row PySem.Challenge.rw_ringrows_k47_pairs_of_tables) (q := Lw.qV) (H := Lw.hk) (ob := Lw.ob) (M := 60000) (loose := Lw.looseL) (d := HandSHeadRun.topDef (OpenLaw.row PySem.Challenge.rw_ringrows_k47_pairs_of_tables).prog 46) (kwd := []) Lw.ob_eq (by kernel_rfl) (fun s => by kernel_rfl) Lw.run (by kernel_rfl) (by kernel_rfl) (by kernel_rfl) (by rfl) (by first | assumption | decide +kernel) (by decide +kernel) ⟨rfl, rfl, rfl, rfl, rfl, by decide +kernel⟩ ?hw ?hc
  case hw => w_witness2
  case hc =>
    refine Rx.walk_ofGE (l := PySem.Challenge.rw_ringrows_k47_pairs_of_tables) (n := 63) (k := 9) (x := "_law_script") rfl (by decide) (by kernel_rfl) ⟨rfl, by decide, by decide⟩ ?F
    intro w mg fa h Y G hmg0
    have hmg : mg ("law" : PySem.Str) = some (.ref fa) := by
      have e : (HandSHeadRun.topDef (OpenLaw.row PySem.Challenge.rw_ringrows_k47_pairs_of_tables).prog 46).name = ("law" : PySem.Str) := by kernel_rfl
      rw [← e]
      exact hmg0
    exact Lw.facts Y G hmg
