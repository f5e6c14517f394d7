import PyProof.Rows.All
import Wide.All
import OpenK.AllK
import Wide.FinOn
import HandS.DictComp
import HandS.TupSets
import HandS.Head0
import HandS.Head1
import HandS.Head2
import HandS.Head3
import HandS.HeadHook4
import HandS.HeadNt
import KE.GoesEnum
import KE.KExcInit
import PyProof.ExcBaseAll.RuntimeError
import PyProof.ExcBaseAll.ArithmeticError
import HandS.DictEq
import PyProof.ListStr
import KE.GoesMore
import KE.GoesZip
import HandS.ForMost
import HandS.Property
import HandS.IsInst
import HandS.Wide
import HandS.WideBits
import HandS.Defaults
import HandS.StrMore
import HandS.Style
import HandS.Codes
import HandS.OwnEq
import HandS.Conv
import HandS.SetFor
import HandS.WrittenGet
import PyProof.StrBlock2
import PyProof.LongRange
import PyProof.ReprRoads
import HandS.FStr
import HandS.MakeKwOnly
import HandS.ListItems
import HandS.Gcd
import HandS.Small
import HandS.NoneIn
import HandS.Walk
import HandS.Deep
import HandS.SortRule
import HandS.SortInts
import HandS.Star
import KE.KOpsOwn
import KE.KMathGC
import HandS.Flt
import KE.KMathG
import KE.DataMinMax
import HandS.SortKw
import HandS.Zip
import Flt.RightSqrt
import PyProof.ReprNest
import HandS.ClsMeth
import HandS.TupLe
import HandS.Lambda
import HandS.ExcInit
import HandS.ExcIs
import HandS.ExcField
import HandS.ExcOwn
import HandS.TryMany
import HandS.WordsExc
import KE.KExcIs
import HandS.EndTab
import KE.KDictZip
import PyProof.ListNew
import HandS.TupAny
import HandS.ExcValue
import PySem.Challenge.RW_ringrows_k19_errors_made
set_option Elab.async false
set_option linter.all false
set_option maxRecDepth 100000
set_option maxHeartbeats 4000000
namespace Rx
open PySem PySem.Spec PyProof.Rows L2
def fdR (K : PySem.W.Frag) (a : Addr) : Option FuncData := match K.lookup a with
  | some ⟨_, _, .func fd, _⟩ => some fd
  | _ => none
def shR (K : PySem.W.Frag) (a : Addr) : He.FnW := (fdR K a).map fun fd => (fd.name, fd.qualname, fd.params, fd.body, fd.scope, fd.globals, fd.closure, fd.builtins)
def dfR (K : PySem.W.Frag) (a : Addr) : Option Value := (fdR K a).map fun fd => fd.defaults
def cdR (K : PySem.W.Frag) (a : Addr) : Value := match fdR K a with
  | some fd => fd.code
  | none => .none
abbrev AlR : Type := Bool × List He.FnW × List (Option (List (Option (Str × Int))))
def obK (ex : PySem.W.Frag → Bool) (fn : List (PySem.W.Frag → Addr)) (ts : List He.Tab) (K : PySem.W.Frag) : AlR := (ex K, fn.map fun a => shR K (a K), ts.map fun t => He.dicW K (t.1 K))
def vaR (vs : List He.FnW) (ts : List He.Tab) (w : World) : AlR := (true, vs, ts.map fun t => some (He.keysIn w.params t.2))
def obR (n : Nat) (ex : PySem.W.Frag → Bool) (fn : List (PySem.W.Frag → Addr)) (ts : List He.Tab) (g : Addr → Option Obj) : AlR := obK ex fn ts (He.frT g (List.range n))
def hkR (n : Nat) (ex : PySem.W.Frag → Bool) (fn : List (PySem.W.Frag → Addr)) (vs : List He.FnW) (ts : List He.Tab) : PySem.W.Hook where
  α := AlR
  obs := fun s => obR n ex fn ts s.heap.get?
  val := fun w => vaR vs ts w
  says := fun w h => ∃ K : PySem.W.Frag, K.In h ∧ obK ex fn ts K = vaR vs ts w
  of := fun _ _ e => ⟨_, He.frT_in, e⟩
  keeps := fun _ _ _ ⟨K, hK, c⟩ k => ⟨K, PySem.W.Frag.In.keeps hK k, c⟩
def frcO {α : Type} (o : Obj) (k : Obj → α) : α := match o with
  | ⟨c, d, dt, sl⟩ => k ⟨c, d, dt, sl⟩
def frcK {α : Type} : PySem.W.Frag → (PySem.W.Frag → α) → α
  | [], k => k []
  | (a, o) :: r, k => frcO o fun o => frcK r fun r => k ((a, o) :: r)
def obA (n : Nat) (ex : PySem.W.Frag → Bool) (s : PySem.W.SharedT) : Bool := frcK (He.frT (HandSHeadRun.getT s) (List.range n)) ex
def obB (n : Nat) (fn : List (PySem.W.Frag → Addr)) (ts : List He.Tab) (s : PySem.W.SharedT) : List He.FnW × List (Option (List (Option (Str × Int)))) :=
  frcK (He.frT (HandSHeadRun.getT s) (List.range n)) fun K => (fn.map fun a => shR K (a K), ts.map fun t => He.dicW K (t.1 K))
def obF (n : Nat) (ea eb : PySem.W.Frag → Bool) (fn : List (PySem.W.Frag → Addr)) (ts : List He.Tab) (s : PySem.W.SharedT) : AlR := (obA n ea s && obA n eb s, obB n fn ts s)
theorem map_four {σ α β δ : Type} {o : Option σ} {f : σ → α} {g : σ → β} {h h2 : σ → Bool} {k : σ → δ} {a : α} {b : β} {d : δ} (x : o.map (fun s => (f s, g s)) = some (a, b)) (y : o.map h = some true) (y2 : o.map h2 = some true) (z : o.map k = some d) :
    o.map (fun s => (f s, g s, (h s && h2 s), k s)) = some (a, b, true, d) := by
  cases o with
  | none => cases x
  | some s =>
    have x1 := Option.some.inj x
    have y1 : h s = true := Option.some.inj y
    have y3 : h2 s = true := Option.some.inj y2
    have z1 : k s = d := Option.some.inj z
    obtain ⟨x2, x3⟩ := Prod.mk.inj x1
    show some (f s, g s, (h s && h2 s), k s) = _
    rw [x2, x3, y1, y3, z1]
    rfl
noncomputable abbrev endW (p : Program) (w : World) (os : OsState) : Option PySem.W.SharedT := HandSHeadRun.endF (HandSHeadRun.stepQ (HandSHeadRun.denQ HandSHeadRun.tabQ) p w) 60000 p w os
theorem runEq_of {R : PySem.W.OpenRow} {q : Program} {ea eb : PySem.W.Frag → Bool} {fn : List (PySem.W.Frag → Addr)} {vs : List He.FnW} {ts : List He.Tab} {loose : List Str} {w : World} {n : Nat}
    (x : ∀ os, (endW R.prog w os).map (fun x => (HandSHeadRun.looksF R.prog (PySem.W.boot_heap w.params) x.abs, HandSHeadRun.seenQ q loose (importedModules R.prog.main.body) (fun s => PySem.W.xlAt q [] s && PySem.W.recOk R.toRowW.records s) x.abs)) = some (true, PySem.W.openGood q loose))
    (y : ∀ os, (endW R.prog w os).map (fun x => obA n ea x) = some true) (y2 : ∀ os, (endW R.prog w os).map (fun x => obA n eb x) = some true)
    (z : ∀ os, (endW R.prog w os).map (fun x => obB n fn ts x) = some (vs, ts.map fun t => some (He.keysIn w.params t.2))) :
    HandSHeadRun.RunEq R q (hkR n (fun K => ea K && eb K) fn vs ts) (obF n ea eb fn ts) 60000 loose w := fun os => map_four (x os) (y os) (y2 os) (z os)
def xvB (K : PySem.W.Frag) (at_ : List Str) (C : Addr) : Bool :=
  xfB K C && decide (PySem.W.findIn K (.ref C) "__class__" = some (some (.builtin "object.__class__"))) && decide (PySem.W.mroIn K C (.type "object") = some true) && at_.all fun f => decide (PySem.W.findIn K (.ref C) f = some none)
def kitA (K : PySem.W.Frag) (cv : Value) (l : List Addr) (t : List Bool) : Bool := (l.zip t).all fun p => decide (PySem.W.kitOne K (.ref p.1) cv = some p.2)
end Rx
namespace Lw
open PySem PySem.Spec PyProof.Rows L2 Rx
def topS (i : Nat) : Stmt := PySem.Challenge.pw_ringrows_k19_errors_made.main.body.getD i (.Pass ⟨0, 0, 0, 0⟩)
abbrev s_draw : Stmt := (topS 36)
abbrev s_pick : Stmt := (topS 37)
abbrev s_all : Stmt := (topS 38)
abbrev s_named : Stmt := (topS 39)
abbrev s_kept : Stmt := (topS 40)
abbrev s_width : Stmt := (topS 45)
abbrev s_flags : Stmt := (topS 41)
abbrev s_grounds : Stmt := (topS 42)
abbrev s_ground : Stmt := (topS 43)
abbrev s_due_grounds : Stmt := (topS 44)
abbrev s_right : Stmt := (topS 46)
abbrev s_pot : Stmt := (topS 35)
abbrev s_law : Stmt := (topS 47)
abbrev s_CommandFailed_init : Stmt := (inClass (topS 31) 0)
abbrev s_InvalidCells_init : Stmt := (inClass (topS 15) 0)
abbrev s_InvalidClaim_init : Stmt := (inClass (topS 22) 0)
abbrev s_InvalidCommand_init : Stmt := (inClass (topS 23) 0)
abbrev s_InvalidCount_init : Stmt := (inClass (topS 17) 0)
abbrev s_InvalidFirst_init : Stmt := (inClass (topS 2) 0)
abbrev s_InvalidFixed_init : Stmt := (inClass (topS 19) 0)
abbrev s_InvalidGauge_init : Stmt := (inClass (topS 20) 0)
abbrev s_InvalidLegs_init : Stmt := (inClass (topS 16) 0)
abbrev s_InvalidLot_init : Stmt := (inClass (topS 18) 0)
abbrev s_InvalidMarks_init : Stmt := (inClass (topS 7) 0)
abbrev s_InvalidNumber_init : Stmt := (inClass (topS 5) 0)
abbrev s_InvalidPlace_init : Stmt := (inClass (topS 6) 0)
abbrev s_InvalidRound_init : Stmt := (inClass (topS 13) 0)
abbrev s_InvalidRounds_init : Stmt := (inClass (topS 14) 0)
abbrev s_InvalidRows_init : Stmt := (inClass (topS 4) 0)
abbrev s_InvalidSize_init : Stmt := (inClass (topS 11) 0)
abbrev s_InvalidStander_init : Stmt := (inClass (topS 9) 0)
abbrev s_InvalidStep_init : Stmt := (inClass (topS 8) 0)
abbrev s_InvalidTeam_init : Stmt := (inClass (topS 12) 0)
abbrev s_InvalidText_init : Stmt := (inClass (topS 21) 0)
abbrev s_InvalidTurned_init : Stmt := (inClass (topS 10) 0)
abbrev s_InvalidValues_init : Stmt := (inClass (topS 3) 0)
abbrev s_NoRound_init : Stmt := (inClass (topS 29) 0)
abbrev s_NotOpen_init : Stmt := (inClass (topS 27) 0)
abbrev s_NotRight_init : Stmt := (inClass (topS 26) 0)
abbrev s_NotSingle_init : Stmt := (inClass (topS 25) 0)
abbrev s_NothingToUndo_init : Stmt := (inClass (topS 30) 0)
abbrev s_TooMany_init : Stmt := (inClass (topS 33) 0)
abbrev s_Unplayed_init : Stmt := (inClass (topS 28) 0)
def xtb_ArithmeticError : List Bool := [false, false, false, false, false, false, false, false, false, false, false, false, false, false, false, false, false, false, false, false, false, false, false, false, false, false, false, true, false, false, false, false, true]
def xtb_CommandFailed : List Bool := [false, false, false, false, false, false, false, false, false, false, false, false, false, false, false, false, false, false, false, false, false, false, true, false, false, false, false, false, false, false, false, false, false]
def xtb_InvalidCells : List Bool := [false, false, false, false, false, false, false, false, false, false, false, false, false, false, false, false, true, false, false, false, false, false, false, false, false, false, false, false, false, false, false, false, false]
def xtb_InvalidClaim : List Bool := [false, false, false, false, false, false, false, false, false, false, false, true, false, false, false, false, false, false, false, false, false, false, false, false, false, false, false, false, false, false, false, false, false]
def xtb_InvalidCommand : List Bool := [false, false, false, false, false, false, false, false, false, false, false, false, true, false, false, false, false, false, false, false, false, false, false, false, false, false, false, false, false, false, false, false, false]
def xtb_InvalidCount : List Bool := [false, false, false, false, false, false, false, false, false, false, true, false, false, false, false, false, false, false, false, false, false, false, false, false, false, false, false, false, false, false, false, false, false]
def xtb_InvalidFirst : List Bool := [true, false, false, false, false, false, false, false, false, false, false, false, false, false, false, false, false, false, false, false, false, false, false, false, false, false, false, false, false, false, false, false, false]
def xtb_InvalidFixed : List Bool := [false, false, false, false, false, false, false, false, false, false, false, false, false, false, false, false, false, false, false, true, false, false, false, false, false, false, false, false, false, false, false, false, false]
def xtb_InvalidGauge : List Bool := [false, false, false, false, false, false, false, false, false, false, false, false, false, false, false, false, false, false, false, false, true, false, false, false, false, false, false, false, false, false, false, false, false]
def xtb_InvalidLegs : List Bool := [false, false, false, false, false, false, false, false, false, false, false, false, false, false, false, false, false, true, false, false, false, false, false, false, false, false, false, false, false, false, false, false, false]
def xtb_InvalidLot : List Bool := [false, false, false, false, false, false, false, false, false, false, false, false, false, false, false, false, false, false, true, false, false, false, false, false, false, false, false, false, false, false, false, false, false]
def xtb_InvalidMarks : List Bool := [false, false, false, true, false, false, false, false, false, false, false, false, false, false, false, false, false, false, false, false, false, false, false, false, false, false, false, false, false, false, false, false, false]
def xtb_InvalidNumber : List Bool := [false, true, false, false, false, false, false, false, false, false, false, false, false, false, false, false, false, false, false, false, false, false, false, false, false, false, false, false, false, false, false, false, false]
def xtb_InvalidPlace : List Bool := [false, false, true, false, false, false, false, false, false, false, false, false, false, false, false, false, false, false, false, false, false, false, false, false, false, false, false, false, false, false, false, false, false]
def xtb_InvalidRound : List Bool := [false, false, false, false, false, false, false, false, false, true, false, false, false, false, false, false, false, false, false, false, false, false, false, false, false, false, false, false, false, false, false, false, false]
def xtb_InvalidRounds : List Bool := [false, false, false, false, false, false, false, false, false, false, false, false, false, false, false, true, false, false, false, false, false, false, false, false, false, false, false, false, false, false, false, false, false]
def xtb_InvalidRows : List Bool := [false, false, false, false, false, false, false, false, false, false, false, false, false, false, true, false, false, false, false, false, false, false, false, false, false, false, false, false, false, false, false, false, false]
def xtb_InvalidSize : List Bool := [false, false, false, false, false, false, false, true, false, false, false, false, false, false, false, false, false, false, false, false, false, false, false, false, false, false, false, false, false, false, false, false, false]
def xtb_InvalidStander : List Bool := [false, false, false, false, false, true, false, false, false, false, false, false, false, false, false, false, false, false, false, false, false, false, false, false, false, false, false, false, false, false, false, false, false]
def xtb_InvalidStep : List Bool := [false, false, false, false, true, false, false, false, false, false, false, false, false, false, false, false, false, false, false, false, false, false, false, false, false, false, false, false, false, false, false, false, false]
def xtb_InvalidTeam : List Bool := [false, false, false, false, false, false, false, false, true, false, false, false, false, false, false, false, false, false, false, false, false, false, false, false, false, false, false, false, false, false, false, false, false]
def xtb_InvalidText : List Bool := [false, false, false, false, false, false, false, false, false, false, false, false, false, false, false, false, false, false, false, false, false, true, false, false, false, false, false, false, false, false, false, false, false]
def xtb_InvalidTurned : List Bool := [false, false, false, false, false, false, true, false, false, false, false, false, false, false, false, false, false, false, false, false, false, false, false, false, false, false, false, false, false, false, false, false, false]
def xtb_InvalidValues : List Bool := [false, false, false, false, false, false, false, false, false, false, false, false, false, true, false, false, false, false, false, false, false, false, false, false, false, false, false, false, false, false, false, false, false]
def xtb_LeagueError : List Bool := [true, true, true, true, true, true, true, true, true, true, true, true, true, true, true, true, true, true, true, true, true, true, false, false, false, false, false, false, false, false, true, false, false]
def xtb_LimitError : List Bool := [false, false, false, false, false, false, false, false, false, false, false, false, false, false, false, false, false, false, false, false, false, false, false, false, false, false, false, true, false, false, false, false, true]
def xtb_LookupError : List Bool := [false, false, false, false, false, false, false, false, false, false, false, false, false, false, false, false, false, false, false, false, false, false, false, false, false, false, false, false, false, false, false, false, false]
def xtb_NoRound : List Bool := [false, false, false, false, false, false, false, false, false, false, false, false, false, false, false, false, false, false, false, false, false, false, false, false, false, false, false, false, true, false, false, false, false]
def xtb_NotOpen : List Bool := [false, false, false, false, false, false, false, false, false, false, false, false, false, false, false, false, false, false, false, false, false, false, false, false, false, true, false, false, false, false, false, false, false]
def xtb_NotRight : List Bool := [false, false, false, false, false, false, false, false, false, false, false, false, false, false, false, false, false, false, false, false, false, false, false, true, false, false, false, false, false, false, false, false, false]
def xtb_NotSingle : List Bool := [false, false, false, false, false, false, false, false, false, false, false, false, false, false, false, false, false, false, false, false, false, false, false, false, true, false, false, false, false, false, false, false, false]
def xtb_NothingToUndo : List Bool := [false, false, false, false, false, false, false, false, false, false, false, false, false, false, false, false, false, false, false, false, false, false, false, false, false, false, false, false, false, true, false, false, false]
def xtb_RuntimeError : List Bool := [false, false, false, false, false, false, false, false, false, false, false, false, false, false, false, false, false, false, false, false, false, false, true, true, true, true, true, false, true, true, false, true, false]
def xtb_StateError : List Bool := [false, false, false, false, false, false, false, false, false, false, false, false, false, false, false, false, false, false, false, false, false, false, true, true, true, true, true, false, true, true, false, true, false]
def xtb_TooMany : List Bool := [false, false, false, false, false, false, false, false, false, false, false, false, false, false, false, false, false, false, false, false, false, false, false, false, false, false, false, true, false, false, false, false, false]
def xtb_TypeError : List Bool := [false, false, false, false, false, false, false, false, false, false, false, false, false, false, false, false, false, false, false, false, false, false, false, false, false, false, false, false, false, false, false, false, false]
def xtb_Unplayed : List Bool := [false, false, false, false, false, false, false, false, false, false, false, false, false, false, false, false, false, false, false, false, false, false, false, false, false, false, true, false, false, false, false, false, false]
def xtb_ValueError : List Bool := [true, true, true, true, true, true, true, true, true, true, true, true, true, true, true, true, true, true, true, true, true, true, false, false, false, false, false, false, false, false, true, false, false]
def xtb_ZeroDivisionError : List Bool := [false, false, false, false, false, false, false, false, false, false, false, false, false, false, false, false, false, false, false, false, false, false, false, false, false, false, false, false, false, false, false, false, false]
def xa_CCommandFailed (K : PySem.W.Frag) : Addr := He.ga K "CommandFailed"
def xa_CInvalidCells (K : PySem.W.Frag) : Addr := He.ga K "InvalidCells"
def xa_CInvalidClaim (K : PySem.W.Frag) : Addr := He.ga K "InvalidClaim"
def xa_CInvalidCommand (K : PySem.W.Frag) : Addr := He.ga K "InvalidCommand"
def xa_CInvalidCount (K : PySem.W.Frag) : Addr := He.ga K "InvalidCount"
def xa_CInvalidFirst (K : PySem.W.Frag) : Addr := He.ga K "InvalidFirst"
def xa_CInvalidFixed (K : PySem.W.Frag) : Addr := He.ga K "InvalidFixed"
def xa_CInvalidGauge (K : PySem.W.Frag) : Addr := He.ga K "InvalidGauge"
def xa_CInvalidLegs (K : PySem.W.Frag) : Addr := He.ga K "InvalidLegs"
def xa_CInvalidLot (K : PySem.W.Frag) : Addr := He.ga K "InvalidLot"
def xa_CInvalidMarks (K : PySem.W.Frag) : Addr := He.ga K "InvalidMarks"
def xa_CInvalidNumber (K : PySem.W.Frag) : Addr := He.ga K "InvalidNumber"
def xa_CInvalidPlace (K : PySem.W.Frag) : Addr := He.ga K "InvalidPlace"
def xa_CInvalidRound (K : PySem.W.Frag) : Addr := He.ga K "InvalidRound"
def xa_CInvalidRounds (K : PySem.W.Frag) : Addr := He.ga K "InvalidRounds"
def xa_CInvalidRows (K : PySem.W.Frag) : Addr := He.ga K "InvalidRows"
def xa_CInvalidSize (K : PySem.W.Frag) : Addr := He.ga K "InvalidSize"
def xa_CInvalidStander (K : PySem.W.Frag) : Addr := He.ga K "InvalidStander"
def xa_CInvalidStep (K : PySem.W.Frag) : Addr := He.ga K "InvalidStep"
def xa_CInvalidTeam (K : PySem.W.Frag) : Addr := He.ga K "InvalidTeam"
def xa_CInvalidText (K : PySem.W.Frag) : Addr := He.ga K "InvalidText"
def xa_CInvalidTurned (K : PySem.W.Frag) : Addr := He.ga K "InvalidTurned"
def xa_CInvalidValues (K : PySem.W.Frag) : Addr := He.ga K "InvalidValues"
def xa_CLeagueError (K : PySem.W.Frag) : Addr := He.ga K "LeagueError"
def xa_CLimitError (K : PySem.W.Frag) : Addr := He.ga K "LimitError"
def xa_CNoRound (K : PySem.W.Frag) : Addr := He.ga K "NoRound"
def xa_CNotOpen (K : PySem.W.Frag) : Addr := He.ga K "NotOpen"
def xa_CNotRight (K : PySem.W.Frag) : Addr := He.ga K "NotRight"
def xa_CNotSingle (K : PySem.W.Frag) : Addr := He.ga K "NotSingle"
def xa_CNothingToUndo (K : PySem.W.Frag) : Addr := He.ga K "NothingToUndo"
def xa_CStateError (K : PySem.W.Frag) : Addr := He.ga K "StateError"
def xa_CTooMany (K : PySem.W.Frag) : Addr := He.ga K "TooMany"
def xa_CUnplayed (K : PySem.W.Frag) : Addr := He.ga K "Unplayed"
def xa_Adraw (K : PySem.W.Frag) : Addr := He.ga K "_law_draw"
def xa_Apick (K : PySem.W.Frag) : Addr := He.ga K "_law_pick"
def xa_Aall (K : PySem.W.Frag) : Addr := He.ga K "_law_all"
def xa_Anamed (K : PySem.W.Frag) : Addr := He.ga K "_law_named"
def xa_Akept (K : PySem.W.Frag) : Addr := He.ga K "_law_kept"
def xa_Awidth (K : PySem.W.Frag) : Addr := He.ga K "_law_width"
def xa_Aflags (K : PySem.W.Frag) : Addr := He.ga K "_law_flags"
def xa_Agrounds (K : PySem.W.Frag) : Addr := He.ga K "_law_grounds"
def xa_Aground (K : PySem.W.Frag) : Addr := He.ga K "_law_ground"
def xa_Adue_grounds (K : PySem.W.Frag) : Addr := He.ga K "_law_due_grounds"
def xa_Aright (K : PySem.W.Frag) : Addr := He.ga K "_law_right"
def xa_Apot (K : PySem.W.Frag) : Addr := He.ga K "_law_pot"
def xa_Alaw (K : PySem.W.Frag) : Addr := He.ga K "law"
def xa_ACommandFailed_init (K : PySem.W.Frag) : Addr := He.ma K (xa_CCommandFailed K) "__init__"
def xa_AInvalidCells_init (K : PySem.W.Frag) : Addr := He.ma K (xa_CInvalidCells K) "__init__"
def xa_AInvalidClaim_init (K : PySem.W.Frag) : Addr := He.ma K (xa_CInvalidClaim K) "__init__"
def xa_AInvalidCommand_init (K : PySem.W.Frag) : Addr := He.ma K (xa_CInvalidCommand K) "__init__"
def xa_AInvalidCount_init (K : PySem.W.Frag) : Addr := He.ma K (xa_CInvalidCount K) "__init__"
def xa_AInvalidFirst_init (K : PySem.W.Frag) : Addr := He.ma K (xa_CInvalidFirst K) "__init__"
def xa_AInvalidFixed_init (K : PySem.W.Frag) : Addr := He.ma K (xa_CInvalidFixed K) "__init__"
def xa_AInvalidGauge_init (K : PySem.W.Frag) : Addr := He.ma K (xa_CInvalidGauge K) "__init__"
def xa_AInvalidLegs_init (K : PySem.W.Frag) : Addr := He.ma K (xa_CInvalidLegs K) "__init__"
def xa_AInvalidLot_init (K : PySem.W.Frag) : Addr := He.ma K (xa_CInvalidLot K) "__init__"
def xa_AInvalidMarks_init (K : PySem.W.Frag) : Addr := He.ma K (xa_CInvalidMarks K) "__init__"
def xa_AInvalidNumber_init (K : PySem.W.Frag) : Addr := He.ma K (xa_CInvalidNumber K) "__init__"
def xa_AInvalidPlace_init (K : PySem.W.Frag) : Addr := He.ma K (xa_CInvalidPlace K) "__init__"
def xa_AInvalidRound_init (K : PySem.W.Frag) : Addr := He.ma K (xa_CInvalidRound K) "__init__"
def xa_AInvalidRounds_init (K : PySem.W.Frag) : Addr := He.ma K (xa_CInvalidRounds K) "__init__"
def xa_AInvalidRows_init (K : PySem.W.Frag) : Addr := He.ma K (xa_CInvalidRows K) "__init__"
def xa_AInvalidSize_init (K : PySem.W.Frag) : Addr := He.ma K (xa_CInvalidSize K) "__init__"
def xa_AInvalidStander_init (K : PySem.W.Frag) : Addr := He.ma K (xa_CInvalidStander K) "__init__"
def xa_AInvalidStep_init (K : PySem.W.Frag) : Addr := He.ma K (xa_CInvalidStep K) "__init__"
def xa_AInvalidTeam_init (K : PySem.W.Frag) : Addr := He.ma K (xa_CInvalidTeam K) "__init__"
def xa_AInvalidText_init (K : PySem.W.Frag) : Addr := He.ma K (xa_CInvalidText K) "__init__"
def xa_AInvalidTurned_init (K : PySem.W.Frag) : Addr := He.ma K (xa_CInvalidTurned K) "__init__"
def xa_AInvalidValues_init (K : PySem.W.Frag) : Addr := He.ma K (xa_CInvalidValues K) "__init__"
def xa_ANoRound_init (K : PySem.W.Frag) : Addr := He.ma K (xa_CNoRound K) "__init__"
def xa_ANotOpen_init (K : PySem.W.Frag) : Addr := He.ma K (xa_CNotOpen K) "__init__"
def xa_ANotRight_init (K : PySem.W.Frag) : Addr := He.ma K (xa_CNotRight K) "__init__"
def xa_ANotSingle_init (K : PySem.W.Frag) : Addr := He.ma K (xa_CNotSingle K) "__init__"
def xa_ANothingToUndo_init (K : PySem.W.Frag) : Addr := He.ma K (xa_CNothingToUndo K) "__init__"
def xa_ATooMany_init (K : PySem.W.Frag) : Addr := He.ma K (xa_CTooMany K) "__init__"
def xa_AUnplayed_init (K : PySem.W.Frag) : Addr := He.ma K (xa_CUnplayed K) "__init__"
def sv_draw : He.FnW := some ("_law_draw", "_law_draw", defArgs s_draw, .stmts (defBody s_draw), defScope s_draw, mainGlobals, [], builtinsNs)
def sv_pick : He.FnW := some ("_law_pick", "_law_pick", defArgs s_pick, .stmts (defBody s_pick), defScope s_pick, mainGlobals, [], builtinsNs)
def sv_all : He.FnW := some ("_law_all", "_law_all", defArgs s_all, .stmts (defBody s_all), defScope s_all, mainGlobals, [], builtinsNs)
def sv_named : He.FnW := some ("_law_named", "_law_named", defArgs s_named, .stmts (defBody s_named), defScope s_named, mainGlobals, [], builtinsNs)
def sv_kept : He.FnW := some ("_law_kept", "_law_kept", defArgs s_kept, .stmts (defBody s_kept), defScope s_kept, mainGlobals, [], builtinsNs)
def sv_width : He.FnW := some ("_law_width", "_law_width", defArgs s_width, .stmts (defBody s_width), defScope s_width, mainGlobals, [], builtinsNs)
def sv_flags : He.FnW := some ("_law_flags", "_law_flags", defArgs s_flags, .stmts (defBody s_flags), defScope s_flags, mainGlobals, [], builtinsNs)
def sv_grounds : He.FnW := some ("_law_grounds", "_law_grounds", defArgs s_grounds, .stmts (defBody s_grounds), defScope s_grounds, mainGlobals, [], builtinsNs)
def sv_ground : He.FnW := some ("_law_ground", "_law_ground", defArgs s_ground, .stmts (defBody s_ground), defScope s_ground, mainGlobals, [], builtinsNs)
def sv_due_grounds : He.FnW := some ("_law_due_grounds", "_law_due_grounds", defArgs s_due_grounds, .stmts (defBody s_due_grounds), defScope s_due_grounds, mainGlobals, [], builtinsNs)
def sv_right : He.FnW := some ("_law_right", "_law_right", defArgs s_right, .stmts (defBody s_right), defScope s_right, mainGlobals, [], builtinsNs)
def sv_pot : He.FnW := some ("_law_pot", "_law_pot", defArgs s_pot, .stmts (defBody s_pot), defScope s_pot, mainGlobals, [], builtinsNs)
def sv_law : He.FnW := some ("law", "law", defArgs s_law, .stmts (defBody s_law), defScope s_law, mainGlobals, [], builtinsNs)
def sv_CommandFailed_init : He.FnW := some ("__init__", "CommandFailed.__init__", defArgs s_CommandFailed_init, .stmts (defBody s_CommandFailed_init), defScope s_CommandFailed_init, mainGlobals, [], builtinsNs)
def sv_InvalidCells_init : He.FnW := some ("__init__", "InvalidCells.__init__", defArgs s_InvalidCells_init, .stmts (defBody s_InvalidCells_init), defScope s_InvalidCells_init, mainGlobals, [], builtinsNs)
def sv_InvalidClaim_init : He.FnW := some ("__init__", "InvalidClaim.__init__", defArgs s_InvalidClaim_init, .stmts (defBody s_InvalidClaim_init), defScope s_InvalidClaim_init, mainGlobals, [], builtinsNs)
def sv_InvalidCommand_init : He.FnW := some ("__init__", "InvalidCommand.__init__", defArgs s_InvalidCommand_init, .stmts (defBody s_InvalidCommand_init), defScope s_InvalidCommand_init, mainGlobals, [], builtinsNs)
def sv_InvalidCount_init : He.FnW := some ("__init__", "InvalidCount.__init__", defArgs s_InvalidCount_init, .stmts (defBody s_InvalidCount_init), defScope s_InvalidCount_init, mainGlobals, [], builtinsNs)
def sv_InvalidFirst_init : He.FnW := some ("__init__", "InvalidFirst.__init__", defArgs s_InvalidFirst_init, .stmts (defBody s_InvalidFirst_init), defScope s_InvalidFirst_init, mainGlobals, [], builtinsNs)
def sv_InvalidFixed_init : He.FnW := some ("__init__", "InvalidFixed.__init__", defArgs s_InvalidFixed_init, .stmts (defBody s_InvalidFixed_init), defScope s_InvalidFixed_init, mainGlobals, [], builtinsNs)
def sv_InvalidGauge_init : He.FnW := some ("__init__", "InvalidGauge.__init__", defArgs s_InvalidGauge_init, .stmts (defBody s_InvalidGauge_init), defScope s_InvalidGauge_init, mainGlobals, [], builtinsNs)
def sv_InvalidLegs_init : He.FnW := some ("__init__", "InvalidLegs.__init__", defArgs s_InvalidLegs_init, .stmts (defBody s_InvalidLegs_init), defScope s_InvalidLegs_init, mainGlobals, [], builtinsNs)
def sv_InvalidLot_init : He.FnW := some ("__init__", "InvalidLot.__init__", defArgs s_InvalidLot_init, .stmts (defBody s_InvalidLot_init), defScope s_InvalidLot_init, mainGlobals, [], builtinsNs)
def sv_InvalidMarks_init : He.FnW := some ("__init__", "InvalidMarks.__init__", defArgs s_InvalidMarks_init, .stmts (defBody s_InvalidMarks_init), defScope s_InvalidMarks_init, mainGlobals, [], builtinsNs)
def sv_InvalidNumber_init : He.FnW := some ("__init__", "InvalidNumber.__init__", defArgs s_InvalidNumber_init, .stmts (defBody s_InvalidNumber_init), defScope s_InvalidNumber_init, mainGlobals, [], builtinsNs)
def sv_InvalidPlace_init : He.FnW := some ("__init__", "InvalidPlace.__init__", defArgs s_InvalidPlace_init, .stmts (defBody s_InvalidPlace_init), defScope s_InvalidPlace_init, mainGlobals, [], builtinsNs)
def sv_InvalidRound_init : He.FnW := some ("__init__", "InvalidRound.__init__", defArgs s_InvalidRound_init, .stmts (defBody s_InvalidRound_init), defScope s_InvalidRound_init, mainGlobals, [], builtinsNs)
def sv_InvalidRounds_init : He.FnW := some ("__init__", "InvalidRounds.__init__", defArgs s_InvalidRounds_init, .stmts (defBody s_InvalidRounds_init), defScope s_InvalidRounds_init, mainGlobals, [], builtinsNs)
def sv_InvalidRows_init : He.FnW := some ("__init__", "InvalidRows.__init__", defArgs s_InvalidRows_init, .stmts (defBody s_InvalidRows_init), defScope s_InvalidRows_init, mainGlobals, [], builtinsNs)
def sv_InvalidSize_init : He.FnW := some ("__init__", "InvalidSize.__init__", defArgs s_InvalidSize_init, .stmts (defBody s_InvalidSize_init), defScope s_InvalidSize_init, mainGlobals, [], builtinsNs)
def sv_InvalidStander_init : He.FnW := some ("__init__", "InvalidStander.__init__", defArgs s_InvalidStander_init, .stmts (defBody s_InvalidStander_init), defScope s_InvalidStander_init, mainGlobals, [], builtinsNs)
def sv_InvalidStep_init : He.FnW := some ("__init__", "InvalidStep.__init__", defArgs s_InvalidStep_init, .stmts (defBody s_InvalidStep_init), defScope s_InvalidStep_init, mainGlobals, [], builtinsNs)
def sv_InvalidTeam_init : He.FnW := some ("__init__", "InvalidTeam.__init__", defArgs s_InvalidTeam_init, .stmts (defBody s_InvalidTeam_init), defScope s_InvalidTeam_init, mainGlobals, [], builtinsNs)
def sv_InvalidText_init : He.FnW := some ("__init__", "InvalidText.__init__", defArgs s_InvalidText_init, .stmts (defBody s_InvalidText_init), defScope s_InvalidText_init, mainGlobals, [], builtinsNs)
def sv_InvalidTurned_init : He.FnW := some ("__init__", "InvalidTurned.__init__", defArgs s_InvalidTurned_init, .stmts (defBody s_InvalidTurned_init), defScope s_InvalidTurned_init, mainGlobals, [], builtinsNs)
def sv_InvalidValues_init : He.FnW := some ("__init__", "InvalidValues.__init__", defArgs s_InvalidValues_init, .stmts (defBody s_InvalidValues_init), defScope s_InvalidValues_init, mainGlobals, [], builtinsNs)
def sv_NoRound_init : He.FnW := some ("__init__", "NoRound.__init__", defArgs s_NoRound_init, .stmts (defBody s_NoRound_init), defScope s_NoRound_init, mainGlobals, [], builtinsNs)
def sv_NotOpen_init : He.FnW := some ("__init__", "NotOpen.__init__", defArgs s_NotOpen_init, .stmts (defBody s_NotOpen_init), defScope s_NotOpen_init, mainGlobals, [], builtinsNs)
def sv_NotRight_init : He.FnW := some ("__init__", "NotRight.__init__", defArgs s_NotRight_init, .stmts (defBody s_NotRight_init), defScope s_NotRight_init, mainGlobals, [], builtinsNs)
def sv_NotSingle_init : He.FnW := some ("__init__", "NotSingle.__init__", defArgs s_NotSingle_init, .stmts (defBody s_NotSingle_init), defScope s_NotSingle_init, mainGlobals, [], builtinsNs)
def sv_NothingToUndo_init : He.FnW := some ("__init__", "NothingToUndo.__init__", defArgs s_NothingToUndo_init, .stmts (defBody s_NothingToUndo_init), defScope s_NothingToUndo_init, mainGlobals, [], builtinsNs)
def sv_TooMany_init : He.FnW := some ("__init__", "TooMany.__init__", defArgs s_TooMany_init, .stmts (defBody s_TooMany_init), defScope s_TooMany_init, mainGlobals, [], builtinsNs)
def sv_Unplayed_init : He.FnW := some ("__init__", "Unplayed.__init__", defArgs s_Unplayed_init, .stmts (defBody s_Unplayed_init), defScope s_Unplayed_init, mainGlobals, [], builtinsNs)
def gx0 (K : PySem.W.Frag) : Bool := decide ((PySem.W.nsIn K mainGlobals "_law_draw" = some (some (.ref (xa_Adraw K)))) ∧ (dfR K (xa_Adraw K) = some .none) ∧ (PySem.W.codeIn K (cdR K (xa_Adraw K)) "_law_draw" = true) ∧ (PySem.W.keepIn K (.ref (xa_Adraw K)) = true) ∧ (PySem.W.nsIn K mainGlobals "_law_pick" = some (some (.ref (xa_Apick K)))) ∧ (dfR K (xa_Apick K) = some .none) ∧ (PySem.W.codeIn K (cdR K (xa_Apick K)) "_law_pick" = true) ∧ (PySem.W.keepIn K (.ref (xa_Apick K)) = true) ∧ (PySem.W.nsIn K mainGlobals "_law_all" = some (some (.ref (xa_Aall K)))) ∧ (dfR K (xa_Aall K) = some .none))
def gx1 (K : PySem.W.Frag) : Bool := decide ((PySem.W.codeIn K (cdR K (xa_Aall K)) "_law_all" = true) ∧ (PySem.W.keepIn K (.ref (xa_Aall K)) = true) ∧ (PySem.W.nsIn K mainGlobals "_law_named" = some (some (.ref (xa_Anamed K)))) ∧ (dfR K (xa_Anamed K) = some .none) ∧ (PySem.W.codeIn K (cdR K (xa_Anamed K)) "_law_named" = true) ∧ (PySem.W.keepIn K (.ref (xa_Anamed K)) = true) ∧ (PySem.W.nsIn K mainGlobals "_law_kept" = some (some (.ref (xa_Akept K)))) ∧ (dfR K (xa_Akept K) = some .none) ∧ (PySem.W.codeIn K (cdR K (xa_Akept K)) "_law_kept" = true) ∧ (PySem.W.keepIn K (.ref (xa_Akept K)) = true))
def gx2 (K : PySem.W.Frag) : Bool := decide ((PySem.W.nsIn K mainGlobals "_law_width" = some (some (.ref (xa_Awidth K)))) ∧ (dfR K (xa_Awidth K) = some .none) ∧ (PySem.W.codeIn K (cdR K (xa_Awidth K)) "_law_width" = true) ∧ (PySem.W.keepIn K (.ref (xa_Awidth K)) = true) ∧ (PySem.W.nsIn K mainGlobals "_law_flags" = some (some (.ref (xa_Aflags K)))) ∧ (dfR K (xa_Aflags K) = some .none) ∧ (PySem.W.codeIn K (cdR K (xa_Aflags K)) "_law_flags" = true) ∧ (PySem.W.keepIn K (.ref (xa_Aflags K)) = true) ∧ (PySem.W.nsIn K mainGlobals "_law_grounds" = some (some (.ref (xa_Agrounds K)))) ∧ (dfR K (xa_Agrounds K) = some .none))
def gx3 (K : PySem.W.Frag) : Bool := decide ((PySem.W.codeIn K (cdR K (xa_Agrounds K)) "_law_grounds" = true) ∧ (PySem.W.keepIn K (.ref (xa_Agrounds K)) = true) ∧ (PySem.W.nsIn K mainGlobals "_law_ground" = some (some (.ref (xa_Aground K)))) ∧ (dfR K (xa_Aground K) = some .none) ∧ (PySem.W.codeIn K (cdR K (xa_Aground K)) "_law_ground" = true) ∧ (PySem.W.keepIn K (.ref (xa_Aground K)) = true) ∧ (PySem.W.nsIn K mainGlobals "_law_due_grounds" = some (some (.ref (xa_Adue_grounds K)))) ∧ (dfR K (xa_Adue_grounds K) = some .none) ∧ (PySem.W.codeIn K (cdR K (xa_Adue_grounds K)) "_law_due_grounds" = true) ∧ (PySem.W.keepIn K (.ref (xa_Adue_grounds K)) = true))
def gx4 (K : PySem.W.Frag) : Bool := decide ((PySem.W.nsIn K mainGlobals "_law_right" = some (some (.ref (xa_Aright K)))) ∧ (dfR K (xa_Aright K) = some .none) ∧ (PySem.W.codeIn K (cdR K (xa_Aright K)) "_law_right" = true) ∧ (PySem.W.keepIn K (.ref (xa_Aright K)) = true) ∧ (PySem.W.nsIn K mainGlobals "_law_pot" = some (some (.ref (xa_Apot K)))) ∧ (dfR K (xa_Apot K) = some .none) ∧ (PySem.W.codeIn K (cdR K (xa_Apot K)) "_law_pot" = true) ∧ (PySem.W.keepIn K (.ref (xa_Apot K)) = true) ∧ (PySem.W.nsIn K mainGlobals "law" = some (some (.ref (xa_Alaw K)))) ∧ (dfR K (xa_Alaw K) = some .none))
def gx5 (K : PySem.W.Frag) : Bool := decide ((PySem.W.codeIn K (cdR K (xa_Alaw K)) "law" = true) ∧ (PySem.W.keepIn K (.ref (xa_Alaw K)) = true) ∧ (PySem.W.findIn K (.ref (xa_CCommandFailed K)) "__init__" = some (some (.ref (xa_ACommandFailed_init K)))) ∧ (PySem.W.isFn K (.ref (xa_ACommandFailed_init K)) = true) ∧ (dfR K (xa_ACommandFailed_init K) = some .none) ∧ (PySem.W.codeIn K (cdR K (xa_ACommandFailed_init K)) "CommandFailed.__init__" = true) ∧ (PySem.W.keepIn K (.ref (xa_ACommandFailed_init K)) = true) ∧ (PySem.W.findIn K (.ref (xa_CInvalidCells K)) "__init__" = some (some (.ref (xa_AInvalidCells_init K)))) ∧ (PySem.W.isFn K (.ref (xa_AInvalidCells_init K)) = true) ∧ (dfR K (xa_AInvalidCells_init K) = some .none))
def gx6 (K : PySem.W.Frag) : Bool := decide ((PySem.W.codeIn K (cdR K (xa_AInvalidCells_init K)) "InvalidCells.__init__" = true) ∧ (PySem.W.keepIn K (.ref (xa_AInvalidCells_init K)) = true) ∧ (PySem.W.findIn K (.ref (xa_CInvalidClaim K)) "__init__" = some (some (.ref (xa_AInvalidClaim_init K)))) ∧ (PySem.W.isFn K (.ref (xa_AInvalidClaim_init K)) = true) ∧ (dfR K (xa_AInvalidClaim_init K) = some .none) ∧ (PySem.W.codeIn K (cdR K (xa_AInvalidClaim_init K)) "InvalidClaim.__init__" = true) ∧ (PySem.W.keepIn K (.ref (xa_AInvalidClaim_init K)) = true) ∧ (PySem.W.findIn K (.ref (xa_CInvalidCommand K)) "__init__" = some (some (.ref (xa_AInvalidCommand_init K)))) ∧ (PySem.W.isFn K (.ref (xa_AInvalidCommand_init K)) = true) ∧ (dfR K (xa_AInvalidCommand_init K) = some .none))
def gx7 (K : PySem.W.Frag) : Bool := decide ((PySem.W.codeIn K (cdR K (xa_AInvalidCommand_init K)) "InvalidCommand.__init__" = true) ∧ (PySem.W.keepIn K (.ref (xa_AInvalidCommand_init K)) = true) ∧ (PySem.W.findIn K (.ref (xa_CInvalidCount K)) "__init__" = some (some (.ref (xa_AInvalidCount_init K)))) ∧ (PySem.W.isFn K (.ref (xa_AInvalidCount_init K)) = true) ∧ (dfR K (xa_AInvalidCount_init K) = some .none) ∧ (PySem.W.codeIn K (cdR K (xa_AInvalidCount_init K)) "InvalidCount.__init__" = true) ∧ (PySem.W.keepIn K (.ref (xa_AInvalidCount_init K)) = true) ∧ (PySem.W.findIn K (.ref (xa_CInvalidFirst K)) "__init__" = some (some (.ref (xa_AInvalidFirst_init K)))) ∧ (PySem.W.isFn K (.ref (xa_AInvalidFirst_init K)) = true) ∧ (dfR K (xa_AInvalidFirst_init K) = some .none))
def gx8 (K : PySem.W.Frag) : Bool := decide ((PySem.W.codeIn K (cdR K (xa_AInvalidFirst_init K)) "InvalidFirst.__init__" = true) ∧ (PySem.W.keepIn K (.ref (xa_AInvalidFirst_init K)) = true) ∧ (PySem.W.findIn K (.ref (xa_CInvalidFixed K)) "__init__" = some (some (.ref (xa_AInvalidFixed_init K)))) ∧ (PySem.W.isFn K (.ref (xa_AInvalidFixed_init K)) = true) ∧ (dfR K (xa_AInvalidFixed_init K) = some .none) ∧ (PySem.W.codeIn K (cdR K (xa_AInvalidFixed_init K)) "InvalidFixed.__init__" = true) ∧ (PySem.W.keepIn K (.ref (xa_AInvalidFixed_init K)) = true) ∧ (PySem.W.findIn K (.ref (xa_CInvalidGauge K)) "__init__" = some (some (.ref (xa_AInvalidGauge_init K)))) ∧ (PySem.W.isFn K (.ref (xa_AInvalidGauge_init K)) = true) ∧ (dfR K (xa_AInvalidGauge_init K) = some .none))
def gx9 (K : PySem.W.Frag) : Bool := decide ((PySem.W.codeIn K (cdR K (xa_AInvalidGauge_init K)) "InvalidGauge.__init__" = true) ∧ (PySem.W.keepIn K (.ref (xa_AInvalidGauge_init K)) = true) ∧ (PySem.W.findIn K (.ref (xa_CInvalidLegs K)) "__init__" = some (some (.ref (xa_AInvalidLegs_init K)))) ∧ (PySem.W.isFn K (.ref (xa_AInvalidLegs_init K)) = true) ∧ (dfR K (xa_AInvalidLegs_init K) = some .none) ∧ (PySem.W.codeIn K (cdR K (xa_AInvalidLegs_init K)) "InvalidLegs.__init__" = true) ∧ (PySem.W.keepIn K (.ref (xa_AInvalidLegs_init K)) = true) ∧ (PySem.W.findIn K (.ref (xa_CInvalidLot K)) "__init__" = some (some (.ref (xa_AInvalidLot_init K)))) ∧ (PySem.W.isFn K (.ref (xa_AInvalidLot_init K)) = true) ∧ (dfR K (xa_AInvalidLot_init K) = some .none))
def gx10 (K : PySem.W.Frag) : Bool := decide ((PySem.W.codeIn K (cdR K (xa_AInvalidLot_init K)) "InvalidLot.__init__" = true) ∧ (PySem.W.keepIn K (.ref (xa_AInvalidLot_init K)) = true) ∧ (PySem.W.findIn K (.ref (xa_CInvalidMarks K)) "__init__" = some (some (.ref (xa_AInvalidMarks_init K)))) ∧ (PySem.W.isFn K (.ref (xa_AInvalidMarks_init K)) = true) ∧ (dfR K (xa_AInvalidMarks_init K) = some .none) ∧ (PySem.W.codeIn K (cdR K (xa_AInvalidMarks_init K)) "InvalidMarks.__init__" = true) ∧ (PySem.W.keepIn K (.ref (xa_AInvalidMarks_init K)) = true) ∧ (PySem.W.findIn K (.ref (xa_CInvalidNumber K)) "__init__" = some (some (.ref (xa_AInvalidNumber_init K)))) ∧ (PySem.W.isFn K (.ref (xa_AInvalidNumber_init K)) = true) ∧ (dfR K (xa_AInvalidNumber_init K) = some .none))
def gx11 (K : PySem.W.Frag) : Bool := decide ((PySem.W.codeIn K (cdR K (xa_AInvalidNumber_init K)) "InvalidNumber.__init__" = true) ∧ (PySem.W.keepIn K (.ref (xa_AInvalidNumber_init K)) = true) ∧ (PySem.W.findIn K (.ref (xa_CInvalidPlace K)) "__init__" = some (some (.ref (xa_AInvalidPlace_init K)))) ∧ (PySem.W.isFn K (.ref (xa_AInvalidPlace_init K)) = true) ∧ (dfR K (xa_AInvalidPlace_init K) = some .none) ∧ (PySem.W.codeIn K (cdR K (xa_AInvalidPlace_init K)) "InvalidPlace.__init__" = true) ∧ (PySem.W.keepIn K (.ref (xa_AInvalidPlace_init K)) = true) ∧ (PySem.W.findIn K (.ref (xa_CInvalidRound K)) "__init__" = some (some (.ref (xa_AInvalidRound_init K)))) ∧ (PySem.W.isFn K (.ref (xa_AInvalidRound_init K)) = true) ∧ (dfR K (xa_AInvalidRound_init K) = some .none))
def gx12 (K : PySem.W.Frag) : Bool := decide ((PySem.W.codeIn K (cdR K (xa_AInvalidRound_init K)) "InvalidRound.__init__" = true) ∧ (PySem.W.keepIn K (.ref (xa_AInvalidRound_init K)) = true) ∧ (PySem.W.findIn K (.ref (xa_CInvalidRounds K)) "__init__" = some (some (.ref (xa_AInvalidRounds_init K)))) ∧ (PySem.W.isFn K (.ref (xa_AInvalidRounds_init K)) = true) ∧ (dfR K (xa_AInvalidRounds_init K) = some .none) ∧ (PySem.W.codeIn K (cdR K (xa_AInvalidRounds_init K)) "InvalidRounds.__init__" = true) ∧ (PySem.W.keepIn K (.ref (xa_AInvalidRounds_init K)) = true) ∧ (PySem.W.findIn K (.ref (xa_CInvalidRows K)) "__init__" = some (some (.ref (xa_AInvalidRows_init K)))) ∧ (PySem.W.isFn K (.ref (xa_AInvalidRows_init K)) = true) ∧ (dfR K (xa_AInvalidRows_init K) = some .none))
def gx13 (K : PySem.W.Frag) : Bool := decide ((PySem.W.codeIn K (cdR K (xa_AInvalidRows_init K)) "InvalidRows.__init__" = true) ∧ (PySem.W.keepIn K (.ref (xa_AInvalidRows_init K)) = true) ∧ (PySem.W.findIn K (.ref (xa_CInvalidSize K)) "__init__" = some (some (.ref (xa_AInvalidSize_init K)))) ∧ (PySem.W.isFn K (.ref (xa_AInvalidSize_init K)) = true) ∧ (dfR K (xa_AInvalidSize_init K) = some .none) ∧ (PySem.W.codeIn K (cdR K (xa_AInvalidSize_init K)) "InvalidSize.__init__" = true) ∧ (PySem.W.keepIn K (.ref (xa_AInvalidSize_init K)) = true) ∧ (PySem.W.findIn K (.ref (xa_CInvalidStander K)) "__init__" = some (some (.ref (xa_AInvalidStander_init K)))) ∧ (PySem.W.isFn K (.ref (xa_AInvalidStander_init K)) = true) ∧ (dfR K (xa_AInvalidStander_init K) = some .none))
def gx14 (K : PySem.W.Frag) : Bool := decide ((PySem.W.codeIn K (cdR K (xa_AInvalidStander_init K)) "InvalidStander.__init__" = true) ∧ (PySem.W.keepIn K (.ref (xa_AInvalidStander_init K)) = true) ∧ (PySem.W.findIn K (.ref (xa_CInvalidStep K)) "__init__" = some (some (.ref (xa_AInvalidStep_init K)))) ∧ (PySem.W.isFn K (.ref (xa_AInvalidStep_init K)) = true) ∧ (dfR K (xa_AInvalidStep_init K) = some .none) ∧ (PySem.W.codeIn K (cdR K (xa_AInvalidStep_init K)) "InvalidStep.__init__" = true) ∧ (PySem.W.keepIn K (.ref (xa_AInvalidStep_init K)) = true) ∧ (PySem.W.findIn K (.ref (xa_CInvalidTeam K)) "__init__" = some (some (.ref (xa_AInvalidTeam_init K)))) ∧ (PySem.W.isFn K (.ref (xa_AInvalidTeam_init K)) = true) ∧ (dfR K (xa_AInvalidTeam_init K) = some .none))
def gx15 (K : PySem.W.Frag) : Bool := decide ((PySem.W.codeIn K (cdR K (xa_AInvalidTeam_init K)) "InvalidTeam.__init__" = true) ∧ (PySem.W.keepIn K (.ref (xa_AInvalidTeam_init K)) = true) ∧ (PySem.W.findIn K (.ref (xa_CInvalidText K)) "__init__" = some (some (.ref (xa_AInvalidText_init K)))) ∧ (PySem.W.isFn K (.ref (xa_AInvalidText_init K)) = true) ∧ (dfR K (xa_AInvalidText_init K) = some .none) ∧ (PySem.W.codeIn K (cdR K (xa_AInvalidText_init K)) "InvalidText.__init__" = true) ∧ (PySem.W.keepIn K (.ref (xa_AInvalidText_init K)) = true) ∧ (PySem.W.findIn K (.ref (xa_CInvalidTurned K)) "__init__" = some (some (.ref (xa_AInvalidTurned_init K)))) ∧ (PySem.W.isFn K (.ref (xa_AInvalidTurned_init K)) = true) ∧ (dfR K (xa_AInvalidTurned_init K) = some .none))
def gx16 (K : PySem.W.Frag) : Bool := decide ((PySem.W.codeIn K (cdR K (xa_AInvalidTurned_init K)) "InvalidTurned.__init__" = true) ∧ (PySem.W.keepIn K (.ref (xa_AInvalidTurned_init K)) = true) ∧ (PySem.W.findIn K (.ref (xa_CInvalidValues K)) "__init__" = some (some (.ref (xa_AInvalidValues_init K)))) ∧ (PySem.W.isFn K (.ref (xa_AInvalidValues_init K)) = true) ∧ (dfR K (xa_AInvalidValues_init K) = some .none) ∧ (PySem.W.codeIn K (cdR K (xa_AInvalidValues_init K)) "InvalidValues.__init__" = true) ∧ (PySem.W.keepIn K (.ref (xa_AInvalidValues_init K)) = true) ∧ (PySem.W.findIn K (.ref (xa_CNoRound K)) "__init__" = some (some (.ref (xa_ANoRound_init K)))) ∧ (PySem.W.isFn K (.ref (xa_ANoRound_init K)) = true) ∧ (dfR K (xa_ANoRound_init K) = some .none))
def gx17 (K : PySem.W.Frag) : Bool := decide ((PySem.W.codeIn K (cdR K (xa_ANoRound_init K)) "NoRound.__init__" = true) ∧ (PySem.W.keepIn K (.ref (xa_ANoRound_init K)) = true) ∧ (PySem.W.findIn K (.ref (xa_CNotOpen K)) "__init__" = some (some (.ref (xa_ANotOpen_init K)))) ∧ (PySem.W.isFn K (.ref (xa_ANotOpen_init K)) = true) ∧ (dfR K (xa_ANotOpen_init K) = some .none) ∧ (PySem.W.codeIn K (cdR K (xa_ANotOpen_init K)) "NotOpen.__init__" = true) ∧ (PySem.W.keepIn K (.ref (xa_ANotOpen_init K)) = true) ∧ (PySem.W.findIn K (.ref (xa_CNotRight K)) "__init__" = some (some (.ref (xa_ANotRight_init K)))) ∧ (PySem.W.isFn K (.ref (xa_ANotRight_init K)) = true) ∧ (dfR K (xa_ANotRight_init K) = some .none))
def gx18 (K : PySem.W.Frag) : Bool := decide ((PySem.W.codeIn K (cdR K (xa_ANotRight_init K)) "NotRight.__init__" = true) ∧ (PySem.W.keepIn K (.ref (xa_ANotRight_init K)) = true) ∧ (PySem.W.findIn K (.ref (xa_CNotSingle K)) "__init__" = some (some (.ref (xa_ANotSingle_init K)))) ∧ (PySem.W.isFn K (.ref (xa_ANotSingle_init K)) = true) ∧ (dfR K (xa_ANotSingle_init K) = some .none) ∧ (PySem.W.codeIn K (cdR K (xa_ANotSingle_init K)) "NotSingle.__init__" = true) ∧ (PySem.W.keepIn K (.ref (xa_ANotSingle_init K)) = true) ∧ (PySem.W.findIn K (.ref (xa_CNothingToUndo K)) "__init__" = some (some (.ref (xa_ANothingToUndo_init K)))) ∧ (PySem.W.isFn K (.ref (xa_ANothingToUndo_init K)) = true) ∧ (dfR K (xa_ANothingToUndo_init K) = some .none))
def gx19 (K : PySem.W.Frag) : Bool := decide ((PySem.W.codeIn K (cdR K (xa_ANothingToUndo_init K)) "NothingToUndo.__init__" = true) ∧ (PySem.W.keepIn K (.ref (xa_ANothingToUndo_init K)) = true) ∧ (PySem.W.findIn K (.ref (xa_CTooMany K)) "__init__" = some (some (.ref (xa_ATooMany_init K)))) ∧ (PySem.W.isFn K (.ref (xa_ATooMany_init K)) = true) ∧ (dfR K (xa_ATooMany_init K) = some .none) ∧ (PySem.W.codeIn K (cdR K (xa_ATooMany_init K)) "TooMany.__init__" = true) ∧ (PySem.W.keepIn K (.ref (xa_ATooMany_init K)) = true) ∧ (PySem.W.findIn K (.ref (xa_CUnplayed K)) "__init__" = some (some (.ref (xa_AUnplayed_init K)))) ∧ (PySem.W.isFn K (.ref (xa_AUnplayed_init K)) = true) ∧ (dfR K (xa_AUnplayed_init K) = some .none))
def gx20 (K : PySem.W.Frag) : Bool := decide ((PySem.W.codeIn K (cdR K (xa_AUnplayed_init K)) "Unplayed.__init__" = true) ∧ (PySem.W.keepIn K (.ref (xa_AUnplayed_init K)) = true) ∧ (PySem.W.nsIn K mainGlobals "CommandFailed" = some (some (.ref (xa_CCommandFailed K)))) ∧ (PySem.W.nsIn K mainGlobals "InvalidCells" = some (some (.ref (xa_CInvalidCells K)))) ∧ (PySem.W.nsIn K mainGlobals "InvalidClaim" = some (some (.ref (xa_CInvalidClaim K)))) ∧ (PySem.W.nsIn K mainGlobals "InvalidCommand" = some (some (.ref (xa_CInvalidCommand K)))) ∧ (PySem.W.nsIn K mainGlobals "InvalidCount" = some (some (.ref (xa_CInvalidCount K)))) ∧ (PySem.W.nsIn K mainGlobals "InvalidFirst" = some (some (.ref (xa_CInvalidFirst K)))) ∧ (PySem.W.nsIn K mainGlobals "InvalidFixed" = some (some (.ref (xa_CInvalidFixed K)))) ∧ (PySem.W.nsIn K mainGlobals "InvalidGauge" = some (some (.ref (xa_CInvalidGauge K)))))
def gx21 (K : PySem.W.Frag) : Bool := decide ((PySem.W.nsIn K mainGlobals "InvalidLegs" = some (some (.ref (xa_CInvalidLegs K)))) ∧ (PySem.W.nsIn K mainGlobals "InvalidLot" = some (some (.ref (xa_CInvalidLot K)))) ∧ (PySem.W.nsIn K mainGlobals "InvalidMarks" = some (some (.ref (xa_CInvalidMarks K)))) ∧ (PySem.W.nsIn K mainGlobals "InvalidNumber" = some (some (.ref (xa_CInvalidNumber K)))) ∧ (PySem.W.nsIn K mainGlobals "InvalidPlace" = some (some (.ref (xa_CInvalidPlace K)))) ∧ (PySem.W.nsIn K mainGlobals "InvalidRound" = some (some (.ref (xa_CInvalidRound K)))) ∧ (PySem.W.nsIn K mainGlobals "InvalidRounds" = some (some (.ref (xa_CInvalidRounds K)))) ∧ (PySem.W.nsIn K mainGlobals "InvalidRows" = some (some (.ref (xa_CInvalidRows K)))) ∧ (PySem.W.nsIn K mainGlobals "InvalidSize" = some (some (.ref (xa_CInvalidSize K)))) ∧ (PySem.W.nsIn K mainGlobals "InvalidStander" = some (some (.ref (xa_CInvalidStander K)))))
def gx22 (K : PySem.W.Frag) : Bool := decide ((PySem.W.nsIn K mainGlobals "InvalidStep" = some (some (.ref (xa_CInvalidStep K)))) ∧ (PySem.W.nsIn K mainGlobals "InvalidTeam" = some (some (.ref (xa_CInvalidTeam K)))) ∧ (PySem.W.nsIn K mainGlobals "InvalidText" = some (some (.ref (xa_CInvalidText K)))) ∧ (PySem.W.nsIn K mainGlobals "InvalidTurned" = some (some (.ref (xa_CInvalidTurned K)))) ∧ (PySem.W.nsIn K mainGlobals "InvalidValues" = some (some (.ref (xa_CInvalidValues K)))) ∧ (PySem.W.nsIn K mainGlobals "LeagueError" = some (some (.ref (xa_CLeagueError K)))) ∧ (PySem.W.nsIn K mainGlobals "LimitError" = some (some (.ref (xa_CLimitError K)))) ∧ (PySem.W.nsIn K mainGlobals "NoRound" = some (some (.ref (xa_CNoRound K)))) ∧ (PySem.W.nsIn K mainGlobals "NotOpen" = some (some (.ref (xa_CNotOpen K)))) ∧ (PySem.W.nsIn K mainGlobals "NotRight" = some (some (.ref (xa_CNotRight K)))))
def gx23 (K : PySem.W.Frag) : Bool := decide ((PySem.W.nsIn K mainGlobals "NotSingle" = some (some (.ref (xa_CNotSingle K)))) ∧ (PySem.W.nsIn K mainGlobals "NothingToUndo" = some (some (.ref (xa_CNothingToUndo K)))) ∧ (PySem.W.nsIn K mainGlobals "StateError" = some (some (.ref (xa_CStateError K)))) ∧ (PySem.W.nsIn K mainGlobals "TooMany" = some (some (.ref (xa_CTooMany K)))) ∧ (PySem.W.nsIn K mainGlobals "Unplayed" = some (some (.ref (xa_CUnplayed K)))) ∧ (PySem.W.excInitIn K (xa_CCommandFailed K) [.type "RuntimeError", .type "Exception", .type "BaseException", .type "object"] "RuntimeError.__new__" = true) ∧ (PySem.W.excOver K (xa_CCommandFailed K) [.type "RuntimeError", .type "Exception", .type "BaseException", .type "object"] = true) ∧ ((PySem.W.clsIn K (xa_CCommandFailed K)).any (fun cd => cd.hasDict) = true) ∧ (PySem.W.findIn K (.ref (xa_CCommandFailed K)) "__setattr__" = some (some (.builtin "object.__setattr__"))) ∧ (PySem.W.subIn K (.ref (xa_CCommandFailed K)) (.type "BaseException") = some true))
def gx24 (K : PySem.W.Frag) : Bool := decide ((PySem.W.typeIn K (.ref (xa_CCommandFailed K)) = some (.type "type")) ∧ (PySem.W.keepIn K (.ref (xa_CCommandFailed K)) = true) ∧ (PySem.W.findIn K (.ref (xa_CCommandFailed K)) "position" = some none) ∧ (PySem.W.excInitIn K (xa_CInvalidCells K) [.type "ValueError", .type "Exception", .type "BaseException", .type "object"] "ValueError.__new__" = true) ∧ (PySem.W.excOver K (xa_CInvalidCells K) [.type "ValueError", .type "Exception", .type "BaseException", .type "object"] = true) ∧ ((PySem.W.clsIn K (xa_CInvalidCells K)).any (fun cd => cd.hasDict) = true) ∧ (PySem.W.findIn K (.ref (xa_CInvalidCells K)) "__setattr__" = some (some (.builtin "object.__setattr__"))) ∧ (PySem.W.subIn K (.ref (xa_CInvalidCells K)) (.type "BaseException") = some true) ∧ (PySem.W.typeIn K (.ref (xa_CInvalidCells K)) = some (.type "type")) ∧ (PySem.W.keepIn K (.ref (xa_CInvalidCells K)) = true))
def gx25 (K : PySem.W.Frag) : Bool := decide ((PySem.W.findIn K (.ref (xa_CInvalidCells K)) "position" = some none) ∧ (PySem.W.excInitIn K (xa_CInvalidClaim K) [.type "ValueError", .type "Exception", .type "BaseException", .type "object"] "ValueError.__new__" = true) ∧ (PySem.W.excOver K (xa_CInvalidClaim K) [.type "ValueError", .type "Exception", .type "BaseException", .type "object"] = true) ∧ ((PySem.W.clsIn K (xa_CInvalidClaim K)).any (fun cd => cd.hasDict) = true) ∧ (PySem.W.findIn K (.ref (xa_CInvalidClaim K)) "__setattr__" = some (some (.builtin "object.__setattr__"))) ∧ (PySem.W.subIn K (.ref (xa_CInvalidClaim K)) (.type "BaseException") = some true) ∧ (PySem.W.typeIn K (.ref (xa_CInvalidClaim K)) = some (.type "type")) ∧ (PySem.W.keepIn K (.ref (xa_CInvalidClaim K)) = true) ∧ (PySem.W.findIn K (.ref (xa_CInvalidClaim K)) "value" = some none) ∧ (PySem.W.excInitIn K (xa_CInvalidCommand K) [.type "ValueError", .type "Exception", .type "BaseException", .type "object"] "ValueError.__new__" = true))
def gx26 (K : PySem.W.Frag) : Bool := decide ((PySem.W.excOver K (xa_CInvalidCommand K) [.type "ValueError", .type "Exception", .type "BaseException", .type "object"] = true) ∧ ((PySem.W.clsIn K (xa_CInvalidCommand K)).any (fun cd => cd.hasDict) = true) ∧ (PySem.W.findIn K (.ref (xa_CInvalidCommand K)) "__setattr__" = some (some (.builtin "object.__setattr__"))) ∧ (PySem.W.subIn K (.ref (xa_CInvalidCommand K)) (.type "BaseException") = some true) ∧ (PySem.W.typeIn K (.ref (xa_CInvalidCommand K)) = some (.type "type")) ∧ (PySem.W.keepIn K (.ref (xa_CInvalidCommand K)) = true) ∧ (PySem.W.findIn K (.ref (xa_CInvalidCommand K)) "value" = some none) ∧ (PySem.W.excInitIn K (xa_CInvalidCount K) [.type "ValueError", .type "Exception", .type "BaseException", .type "object"] "ValueError.__new__" = true) ∧ (PySem.W.excOver K (xa_CInvalidCount K) [.type "ValueError", .type "Exception", .type "BaseException", .type "object"] = true) ∧ ((PySem.W.clsIn K (xa_CInvalidCount K)).any (fun cd => cd.hasDict) = true))
def gx27 (K : PySem.W.Frag) : Bool := decide ((PySem.W.findIn K (.ref (xa_CInvalidCount K)) "__setattr__" = some (some (.builtin "object.__setattr__"))) ∧ (PySem.W.subIn K (.ref (xa_CInvalidCount K)) (.type "BaseException") = some true) ∧ (PySem.W.typeIn K (.ref (xa_CInvalidCount K)) = some (.type "type")) ∧ (PySem.W.keepIn K (.ref (xa_CInvalidCount K)) = true) ∧ (PySem.W.findIn K (.ref (xa_CInvalidCount K)) "value" = some none) ∧ (PySem.W.excInitIn K (xa_CInvalidFirst K) [.type "ValueError", .type "Exception", .type "BaseException", .type "object"] "ValueError.__new__" = true) ∧ (PySem.W.excOver K (xa_CInvalidFirst K) [.type "ValueError", .type "Exception", .type "BaseException", .type "object"] = true) ∧ ((PySem.W.clsIn K (xa_CInvalidFirst K)).any (fun cd => cd.hasDict) = true) ∧ (PySem.W.findIn K (.ref (xa_CInvalidFirst K)) "__setattr__" = some (some (.builtin "object.__setattr__"))) ∧ (PySem.W.subIn K (.ref (xa_CInvalidFirst K)) (.type "BaseException") = some true))
def gx28 (K : PySem.W.Frag) : Bool := decide ((PySem.W.typeIn K (.ref (xa_CInvalidFirst K)) = some (.type "type")) ∧ (PySem.W.keepIn K (.ref (xa_CInvalidFirst K)) = true) ∧ (PySem.W.findIn K (.ref (xa_CInvalidFirst K)) "value" = some none) ∧ (PySem.W.excInitIn K (xa_CInvalidFixed K) [.type "ValueError", .type "Exception", .type "BaseException", .type "object"] "ValueError.__new__" = true) ∧ (PySem.W.excOver K (xa_CInvalidFixed K) [.type "ValueError", .type "Exception", .type "BaseException", .type "object"] = true) ∧ ((PySem.W.clsIn K (xa_CInvalidFixed K)).any (fun cd => cd.hasDict) = true) ∧ (PySem.W.findIn K (.ref (xa_CInvalidFixed K)) "__setattr__" = some (some (.builtin "object.__setattr__"))) ∧ (PySem.W.subIn K (.ref (xa_CInvalidFixed K)) (.type "BaseException") = some true) ∧ (PySem.W.typeIn K (.ref (xa_CInvalidFixed K)) = some (.type "type")) ∧ (PySem.W.keepIn K (.ref (xa_CInvalidFixed K)) = true))
def gx29 (K : PySem.W.Frag) : Bool := decide ((PySem.W.findIn K (.ref (xa_CInvalidFixed K)) "position" = some none) ∧ (PySem.W.excInitIn K (xa_CInvalidGauge K) [.type "ValueError", .type "Exception", .type "BaseException", .type "object"] "ValueError.__new__" = true) ∧ (PySem.W.excOver K (xa_CInvalidGauge K) [.type "ValueError", .type "Exception", .type "BaseException", .type "object"] = true) ∧ ((PySem.W.clsIn K (xa_CInvalidGauge K)).any (fun cd => cd.hasDict) = true) ∧ (PySem.W.findIn K (.ref (xa_CInvalidGauge K)) "__setattr__" = some (some (.builtin "object.__setattr__"))) ∧ (PySem.W.subIn K (.ref (xa_CInvalidGauge K)) (.type "BaseException") = some true) ∧ (PySem.W.typeIn K (.ref (xa_CInvalidGauge K)) = some (.type "type")) ∧ (PySem.W.keepIn K (.ref (xa_CInvalidGauge K)) = true) ∧ (PySem.W.findIn K (.ref (xa_CInvalidGauge K)) "position" = some none) ∧ (PySem.W.excInitIn K (xa_CInvalidLegs K) [.type "ValueError", .type "Exception", .type "BaseException", .type "object"] "ValueError.__new__" = true))
def gx30 (K : PySem.W.Frag) : Bool := decide ((PySem.W.excOver K (xa_CInvalidLegs K) [.type "ValueError", .type "Exception", .type "BaseException", .type "object"] = true) ∧ ((PySem.W.clsIn K (xa_CInvalidLegs K)).any (fun cd => cd.hasDict) = true) ∧ (PySem.W.findIn K (.ref (xa_CInvalidLegs K)) "__setattr__" = some (some (.builtin "object.__setattr__"))) ∧ (PySem.W.subIn K (.ref (xa_CInvalidLegs K)) (.type "BaseException") = some true) ∧ (PySem.W.typeIn K (.ref (xa_CInvalidLegs K)) = some (.type "type")) ∧ (PySem.W.keepIn K (.ref (xa_CInvalidLegs K)) = true) ∧ (PySem.W.findIn K (.ref (xa_CInvalidLegs K)) "position" = some none) ∧ (PySem.W.excInitIn K (xa_CInvalidLot K) [.type "ValueError", .type "Exception", .type "BaseException", .type "object"] "ValueError.__new__" = true) ∧ (PySem.W.excOver K (xa_CInvalidLot K) [.type "ValueError", .type "Exception", .type "BaseException", .type "object"] = true) ∧ ((PySem.W.clsIn K (xa_CInvalidLot K)).any (fun cd => cd.hasDict) = true))
def gx31 (K : PySem.W.Frag) : Bool := decide ((PySem.W.findIn K (.ref (xa_CInvalidLot K)) "__setattr__" = some (some (.builtin "object.__setattr__"))) ∧ (PySem.W.subIn K (.ref (xa_CInvalidLot K)) (.type "BaseException") = some true) ∧ (PySem.W.typeIn K (.ref (xa_CInvalidLot K)) = some (.type "type")) ∧ (PySem.W.keepIn K (.ref (xa_CInvalidLot K)) = true) ∧ (PySem.W.findIn K (.ref (xa_CInvalidLot K)) "position" = some none) ∧ (PySem.W.excInitIn K (xa_CInvalidMarks K) [.type "ValueError", .type "Exception", .type "BaseException", .type "object"] "ValueError.__new__" = true) ∧ (PySem.W.excOver K (xa_CInvalidMarks K) [.type "ValueError", .type "Exception", .type "BaseException", .type "object"] = true) ∧ ((PySem.W.clsIn K (xa_CInvalidMarks K)).any (fun cd => cd.hasDict) = true) ∧ (PySem.W.findIn K (.ref (xa_CInvalidMarks K)) "__setattr__" = some (some (.builtin "object.__setattr__"))) ∧ (PySem.W.subIn K (.ref (xa_CInvalidMarks K)) (.type "BaseException") = some true))
def gx32 (K : PySem.W.Frag) : Bool := decide ((PySem.W.typeIn K (.ref (xa_CInvalidMarks K)) = some (.type "type")) ∧ (PySem.W.keepIn K (.ref (xa_CInvalidMarks K)) = true) ∧ (PySem.W.findIn K (.ref (xa_CInvalidMarks K)) "value" = some none) ∧ (PySem.W.excInitIn K (xa_CInvalidNumber K) [.type "ValueError", .type "Exception", .type "BaseException", .type "object"] "ValueError.__new__" = true) ∧ (PySem.W.excOver K (xa_CInvalidNumber K) [.type "ValueError", .type "Exception", .type "BaseException", .type "object"] = true) ∧ ((PySem.W.clsIn K (xa_CInvalidNumber K)).any (fun cd => cd.hasDict) = true) ∧ (PySem.W.findIn K (.ref (xa_CInvalidNumber K)) "__setattr__" = some (some (.builtin "object.__setattr__"))) ∧ (PySem.W.subIn K (.ref (xa_CInvalidNumber K)) (.type "BaseException") = some true) ∧ (PySem.W.typeIn K (.ref (xa_CInvalidNumber K)) = some (.type "type")) ∧ (PySem.W.keepIn K (.ref (xa_CInvalidNumber K)) = true))
def gx33 (K : PySem.W.Frag) : Bool := decide ((PySem.W.findIn K (.ref (xa_CInvalidNumber K)) "value" = some none) ∧ (PySem.W.excInitIn K (xa_CInvalidPlace K) [.type "ValueError", .type "Exception", .type "BaseException", .type "object"] "ValueError.__new__" = true) ∧ (PySem.W.excOver K (xa_CInvalidPlace K) [.type "ValueError", .type "Exception", .type "BaseException", .type "object"] = true) ∧ ((PySem.W.clsIn K (xa_CInvalidPlace K)).any (fun cd => cd.hasDict) = true) ∧ (PySem.W.findIn K (.ref (xa_CInvalidPlace K)) "__setattr__" = some (some (.builtin "object.__setattr__"))) ∧ (PySem.W.subIn K (.ref (xa_CInvalidPlace K)) (.type "BaseException") = some true) ∧ (PySem.W.typeIn K (.ref (xa_CInvalidPlace K)) = some (.type "type")) ∧ (PySem.W.keepIn K (.ref (xa_CInvalidPlace K)) = true) ∧ (PySem.W.findIn K (.ref (xa_CInvalidPlace K)) "value" = some none) ∧ (PySem.W.excInitIn K (xa_CInvalidRound K) [.type "ValueError", .type "Exception", .type "BaseException", .type "object"] "ValueError.__new__" = true))
def gx34 (K : PySem.W.Frag) : Bool := decide ((PySem.W.excOver K (xa_CInvalidRound K) [.type "ValueError", .type "Exception", .type "BaseException", .type "object"] = true) ∧ ((PySem.W.clsIn K (xa_CInvalidRound K)).any (fun cd => cd.hasDict) = true) ∧ (PySem.W.findIn K (.ref (xa_CInvalidRound K)) "__setattr__" = some (some (.builtin "object.__setattr__"))) ∧ (PySem.W.subIn K (.ref (xa_CInvalidRound K)) (.type "BaseException") = some true) ∧ (PySem.W.typeIn K (.ref (xa_CInvalidRound K)) = some (.type "type")) ∧ (PySem.W.keepIn K (.ref (xa_CInvalidRound K)) = true) ∧ (PySem.W.findIn K (.ref (xa_CInvalidRound K)) "value" = some none) ∧ (PySem.W.excInitIn K (xa_CInvalidRounds K) [.type "ValueError", .type "Exception", .type "BaseException", .type "object"] "ValueError.__new__" = true) ∧ (PySem.W.excOver K (xa_CInvalidRounds K) [.type "ValueError", .type "Exception", .type "BaseException", .type "object"] = true) ∧ ((PySem.W.clsIn K (xa_CInvalidRounds K)).any (fun cd => cd.hasDict) = true))
def gx35 (K : PySem.W.Frag) : Bool := decide ((PySem.W.findIn K (.ref (xa_CInvalidRounds K)) "__setattr__" = some (some (.builtin "object.__setattr__"))) ∧ (PySem.W.subIn K (.ref (xa_CInvalidRounds K)) (.type "BaseException") = some true) ∧ (PySem.W.typeIn K (.ref (xa_CInvalidRounds K)) = some (.type "type")) ∧ (PySem.W.keepIn K (.ref (xa_CInvalidRounds K)) = true) ∧ (PySem.W.findIn K (.ref (xa_CInvalidRounds K)) "position" = some none) ∧ (PySem.W.excInitIn K (xa_CInvalidRows K) [.type "ValueError", .type "Exception", .type "BaseException", .type "object"] "ValueError.__new__" = true) ∧ (PySem.W.excOver K (xa_CInvalidRows K) [.type "ValueError", .type "Exception", .type "BaseException", .type "object"] = true) ∧ ((PySem.W.clsIn K (xa_CInvalidRows K)).any (fun cd => cd.hasDict) = true) ∧ (PySem.W.findIn K (.ref (xa_CInvalidRows K)) "__setattr__" = some (some (.builtin "object.__setattr__"))) ∧ (PySem.W.subIn K (.ref (xa_CInvalidRows K)) (.type "BaseException") = some true))
def gx36 (K : PySem.W.Frag) : Bool := decide ((PySem.W.typeIn K (.ref (xa_CInvalidRows K)) = some (.type "type")) ∧ (PySem.W.keepIn K (.ref (xa_CInvalidRows K)) = true) ∧ (PySem.W.findIn K (.ref (xa_CInvalidRows K)) "position" = some none) ∧ (PySem.W.excInitIn K (xa_CInvalidSize K) [.type "ValueError", .type "Exception", .type "BaseException", .type "object"] "ValueError.__new__" = true) ∧ (PySem.W.excOver K (xa_CInvalidSize K) [.type "ValueError", .type "Exception", .type "BaseException", .type "object"] = true) ∧ ((PySem.W.clsIn K (xa_CInvalidSize K)).any (fun cd => cd.hasDict) = true) ∧ (PySem.W.findIn K (.ref (xa_CInvalidSize K)) "__setattr__" = some (some (.builtin "object.__setattr__"))) ∧ (PySem.W.subIn K (.ref (xa_CInvalidSize K)) (.type "BaseException") = some true) ∧ (PySem.W.typeIn K (.ref (xa_CInvalidSize K)) = some (.type "type")) ∧ (PySem.W.keepIn K (.ref (xa_CInvalidSize K)) = true))
def gx37 (K : PySem.W.Frag) : Bool := decide ((PySem.W.findIn K (.ref (xa_CInvalidSize K)) "value" = some none) ∧ (PySem.W.excInitIn K (xa_CInvalidStander K) [.type "ValueError", .type "Exception", .type "BaseException", .type "object"] "ValueError.__new__" = true) ∧ (PySem.W.excOver K (xa_CInvalidStander K) [.type "ValueError", .type "Exception", .type "BaseException", .type "object"] = true) ∧ ((PySem.W.clsIn K (xa_CInvalidStander K)).any (fun cd => cd.hasDict) = true) ∧ (PySem.W.findIn K (.ref (xa_CInvalidStander K)) "__setattr__" = some (some (.builtin "object.__setattr__"))) ∧ (PySem.W.subIn K (.ref (xa_CInvalidStander K)) (.type "BaseException") = some true) ∧ (PySem.W.typeIn K (.ref (xa_CInvalidStander K)) = some (.type "type")) ∧ (PySem.W.keepIn K (.ref (xa_CInvalidStander K)) = true) ∧ (PySem.W.findIn K (.ref (xa_CInvalidStander K)) "value" = some none) ∧ (PySem.W.excInitIn K (xa_CInvalidStep K) [.type "ValueError", .type "Exception", .type "BaseException", .type "object"] "ValueError.__new__" = true))
def gx38 (K : PySem.W.Frag) : Bool := decide ((PySem.W.excOver K (xa_CInvalidStep K) [.type "ValueError", .type "Exception", .type "BaseException", .type "object"] = true) ∧ ((PySem.W.clsIn K (xa_CInvalidStep K)).any (fun cd => cd.hasDict) = true) ∧ (PySem.W.findIn K (.ref (xa_CInvalidStep K)) "__setattr__" = some (some (.builtin "object.__setattr__"))) ∧ (PySem.W.subIn K (.ref (xa_CInvalidStep K)) (.type "BaseException") = some true) ∧ (PySem.W.typeIn K (.ref (xa_CInvalidStep K)) = some (.type "type")) ∧ (PySem.W.keepIn K (.ref (xa_CInvalidStep K)) = true) ∧ (PySem.W.findIn K (.ref (xa_CInvalidStep K)) "value" = some none) ∧ (PySem.W.excInitIn K (xa_CInvalidTeam K) [.type "ValueError", .type "Exception", .type "BaseException", .type "object"] "ValueError.__new__" = true) ∧ (PySem.W.excOver K (xa_CInvalidTeam K) [.type "ValueError", .type "Exception", .type "BaseException", .type "object"] = true) ∧ ((PySem.W.clsIn K (xa_CInvalidTeam K)).any (fun cd => cd.hasDict) = true))
def gx39 (K : PySem.W.Frag) : Bool := decide ((PySem.W.findIn K (.ref (xa_CInvalidTeam K)) "__setattr__" = some (some (.builtin "object.__setattr__"))) ∧ (PySem.W.subIn K (.ref (xa_CInvalidTeam K)) (.type "BaseException") = some true) ∧ (PySem.W.typeIn K (.ref (xa_CInvalidTeam K)) = some (.type "type")) ∧ (PySem.W.keepIn K (.ref (xa_CInvalidTeam K)) = true) ∧ (PySem.W.findIn K (.ref (xa_CInvalidTeam K)) "value" = some none) ∧ (PySem.W.excInitIn K (xa_CInvalidText K) [.type "ValueError", .type "Exception", .type "BaseException", .type "object"] "ValueError.__new__" = true) ∧ (PySem.W.excOver K (xa_CInvalidText K) [.type "ValueError", .type "Exception", .type "BaseException", .type "object"] = true) ∧ ((PySem.W.clsIn K (xa_CInvalidText K)).any (fun cd => cd.hasDict) = true) ∧ (PySem.W.findIn K (.ref (xa_CInvalidText K)) "__setattr__" = some (some (.builtin "object.__setattr__"))) ∧ (PySem.W.subIn K (.ref (xa_CInvalidText K)) (.type "BaseException") = some true))
def gx40 (K : PySem.W.Frag) : Bool := decide ((PySem.W.typeIn K (.ref (xa_CInvalidText K)) = some (.type "type")) ∧ (PySem.W.keepIn K (.ref (xa_CInvalidText K)) = true) ∧ (PySem.W.findIn K (.ref (xa_CInvalidText K)) "line" = some none) ∧ (PySem.W.excInitIn K (xa_CInvalidTurned K) [.type "ValueError", .type "Exception", .type "BaseException", .type "object"] "ValueError.__new__" = true) ∧ (PySem.W.excOver K (xa_CInvalidTurned K) [.type "ValueError", .type "Exception", .type "BaseException", .type "object"] = true) ∧ ((PySem.W.clsIn K (xa_CInvalidTurned K)).any (fun cd => cd.hasDict) = true) ∧ (PySem.W.findIn K (.ref (xa_CInvalidTurned K)) "__setattr__" = some (some (.builtin "object.__setattr__"))) ∧ (PySem.W.subIn K (.ref (xa_CInvalidTurned K)) (.type "BaseException") = some true) ∧ (PySem.W.typeIn K (.ref (xa_CInvalidTurned K)) = some (.type "type")) ∧ (PySem.W.keepIn K (.ref (xa_CInvalidTurned K)) = true))
def gx41 (K : PySem.W.Frag) : Bool := decide ((PySem.W.findIn K (.ref (xa_CInvalidTurned K)) "value" = some none) ∧ (PySem.W.excInitIn K (xa_CInvalidValues K) [.type "ValueError", .type "Exception", .type "BaseException", .type "object"] "ValueError.__new__" = true) ∧ (PySem.W.excOver K (xa_CInvalidValues K) [.type "ValueError", .type "Exception", .type "BaseException", .type "object"] = true) ∧ ((PySem.W.clsIn K (xa_CInvalidValues K)).any (fun cd => cd.hasDict) = true) ∧ (PySem.W.findIn K (.ref (xa_CInvalidValues K)) "__setattr__" = some (some (.builtin "object.__setattr__"))) ∧ (PySem.W.subIn K (.ref (xa_CInvalidValues K)) (.type "BaseException") = some true) ∧ (PySem.W.typeIn K (.ref (xa_CInvalidValues K)) = some (.type "type")) ∧ (PySem.W.keepIn K (.ref (xa_CInvalidValues K)) = true) ∧ (PySem.W.findIn K (.ref (xa_CInvalidValues K)) "position" = some none) ∧ (PySem.W.excInitIn K (xa_CNoRound K) [.type "RuntimeError", .type "Exception", .type "BaseException", .type "object"] "RuntimeError.__new__" = true))
def gx42 (K : PySem.W.Frag) : Bool := decide ((PySem.W.excOver K (xa_CNoRound K) [.type "RuntimeError", .type "Exception", .type "BaseException", .type "object"] = true) ∧ ((PySem.W.clsIn K (xa_CNoRound K)).any (fun cd => cd.hasDict) = true) ∧ (PySem.W.findIn K (.ref (xa_CNoRound K)) "__setattr__" = some (some (.builtin "object.__setattr__"))) ∧ (PySem.W.subIn K (.ref (xa_CNoRound K)) (.type "BaseException") = some true) ∧ (PySem.W.typeIn K (.ref (xa_CNoRound K)) = some (.type "type")) ∧ (PySem.W.keepIn K (.ref (xa_CNoRound K)) = true) ∧ (PySem.W.excInitIn K (xa_CNotOpen K) [.type "RuntimeError", .type "Exception", .type "BaseException", .type "object"] "RuntimeError.__new__" = true) ∧ (PySem.W.excOver K (xa_CNotOpen K) [.type "RuntimeError", .type "Exception", .type "BaseException", .type "object"] = true) ∧ ((PySem.W.clsIn K (xa_CNotOpen K)).any (fun cd => cd.hasDict) = true) ∧ (PySem.W.findIn K (.ref (xa_CNotOpen K)) "__setattr__" = some (some (.builtin "object.__setattr__"))))
def gx43 (K : PySem.W.Frag) : Bool := decide ((PySem.W.subIn K (.ref (xa_CNotOpen K)) (.type "BaseException") = some true) ∧ (PySem.W.typeIn K (.ref (xa_CNotOpen K)) = some (.type "type")) ∧ (PySem.W.keepIn K (.ref (xa_CNotOpen K)) = true) ∧ (PySem.W.findIn K (.ref (xa_CNotOpen K)) "home" = some none) ∧ (PySem.W.findIn K (.ref (xa_CNotOpen K)) "away" = some none) ∧ (PySem.W.excInitIn K (xa_CNotRight K) [.type "RuntimeError", .type "Exception", .type "BaseException", .type "object"] "RuntimeError.__new__" = true) ∧ (PySem.W.excOver K (xa_CNotRight K) [.type "RuntimeError", .type "Exception", .type "BaseException", .type "object"] = true) ∧ ((PySem.W.clsIn K (xa_CNotRight K)).any (fun cd => cd.hasDict) = true) ∧ (PySem.W.findIn K (.ref (xa_CNotRight K)) "__setattr__" = some (some (.builtin "object.__setattr__"))) ∧ (PySem.W.subIn K (.ref (xa_CNotRight K)) (.type "BaseException") = some true))
def gx44 (K : PySem.W.Frag) : Bool := decide ((PySem.W.typeIn K (.ref (xa_CNotRight K)) = some (.type "type")) ∧ (PySem.W.keepIn K (.ref (xa_CNotRight K)) = true) ∧ (PySem.W.findIn K (.ref (xa_CNotRight K)) "size" = some none) ∧ (PySem.W.excInitIn K (xa_CNotSingle K) [.type "RuntimeError", .type "Exception", .type "BaseException", .type "object"] "RuntimeError.__new__" = true) ∧ (PySem.W.excOver K (xa_CNotSingle K) [.type "RuntimeError", .type "Exception", .type "BaseException", .type "object"] = true) ∧ ((PySem.W.clsIn K (xa_CNotSingle K)).any (fun cd => cd.hasDict) = true) ∧ (PySem.W.findIn K (.ref (xa_CNotSingle K)) "__setattr__" = some (some (.builtin "object.__setattr__"))) ∧ (PySem.W.subIn K (.ref (xa_CNotSingle K)) (.type "BaseException") = some true) ∧ (PySem.W.typeIn K (.ref (xa_CNotSingle K)) = some (.type "type")) ∧ (PySem.W.keepIn K (.ref (xa_CNotSingle K)) = true))
def gx45 (K : PySem.W.Frag) : Bool := decide ((PySem.W.findIn K (.ref (xa_CNotSingle K)) "one" = some none) ∧ (PySem.W.findIn K (.ref (xa_CNotSingle K)) "other" = some none) ∧ (PySem.W.excInitIn K (xa_CNothingToUndo K) [.type "RuntimeError", .type "Exception", .type "BaseException", .type "object"] "RuntimeError.__new__" = true) ∧ (PySem.W.excOver K (xa_CNothingToUndo K) [.type "RuntimeError", .type "Exception", .type "BaseException", .type "object"] = true) ∧ ((PySem.W.clsIn K (xa_CNothingToUndo K)).any (fun cd => cd.hasDict) = true) ∧ (PySem.W.findIn K (.ref (xa_CNothingToUndo K)) "__setattr__" = some (some (.builtin "object.__setattr__"))) ∧ (PySem.W.subIn K (.ref (xa_CNothingToUndo K)) (.type "BaseException") = some true) ∧ (PySem.W.typeIn K (.ref (xa_CNothingToUndo K)) = some (.type "type")) ∧ (PySem.W.keepIn K (.ref (xa_CNothingToUndo K)) = true) ∧ (PySem.W.excInitIn K (xa_CTooMany K) [.type "ArithmeticError", .type "Exception", .type "BaseException", .type "object"] "ArithmeticError.__new__" = true))
def gx46 (K : PySem.W.Frag) : Bool := decide ((PySem.W.excOver K (xa_CTooMany K) [.type "ArithmeticError", .type "Exception", .type "BaseException", .type "object"] = true) ∧ ((PySem.W.clsIn K (xa_CTooMany K)).any (fun cd => cd.hasDict) = true) ∧ (PySem.W.findIn K (.ref (xa_CTooMany K)) "__setattr__" = some (some (.builtin "object.__setattr__"))) ∧ (PySem.W.subIn K (.ref (xa_CTooMany K)) (.type "BaseException") = some true) ∧ (PySem.W.typeIn K (.ref (xa_CTooMany K)) = some (.type "type")) ∧ (PySem.W.keepIn K (.ref (xa_CTooMany K)) = true) ∧ (PySem.W.findIn K (.ref (xa_CTooMany K)) "what" = some none) ∧ (PySem.W.findIn K (.ref (xa_CTooMany K)) "limit" = some none) ∧ (PySem.W.excInitIn K (xa_CUnplayed K) [.type "RuntimeError", .type "Exception", .type "BaseException", .type "object"] "RuntimeError.__new__" = true) ∧ (PySem.W.excOver K (xa_CUnplayed K) [.type "RuntimeError", .type "Exception", .type "BaseException", .type "object"] = true))
def gx47 (K : PySem.W.Frag) : Bool := decide (((PySem.W.clsIn K (xa_CUnplayed K)).any (fun cd => cd.hasDict) = true) ∧ (PySem.W.findIn K (.ref (xa_CUnplayed K)) "__setattr__" = some (some (.builtin "object.__setattr__"))) ∧ (PySem.W.subIn K (.ref (xa_CUnplayed K)) (.type "BaseException") = some true) ∧ (PySem.W.typeIn K (.ref (xa_CUnplayed K)) = some (.type "type")) ∧ (PySem.W.keepIn K (.ref (xa_CUnplayed K)) = true) ∧ (PySem.W.findIn K (.ref (xa_CUnplayed K)) "home" = some none) ∧ (PySem.W.findIn K (.ref (xa_CUnplayed K)) "away" = some none) ∧ (List.all [(xa_CInvalidFirst K), (xa_CInvalidNumber K), (xa_CInvalidPlace K), (xa_CInvalidMarks K), (xa_CInvalidStep K), (xa_CInvalidStander K), (xa_CInvalidTurned K), (xa_CInvalidSize K), (xa_CInvalidTeam K), (xa_CInvalidRound K), (xa_CInvalidCount K), (xa_CInvalidClaim K), (xa_CInvalidCommand K), (xa_CInvalidValues K), (xa_CInvalidRows K), (xa_CInvalidRounds K), (xa_CInvalidCells K), (xa_CInvalidLegs K), (xa_CInvalidLot K), (xa_CInvalidFixed K), (xa_CInvalidGauge K), (xa_CInvalidText K), (xa_CCommandFailed K), (xa_CNotRight K), (xa_CNotSingle K), (xa_CNotOpen K), (xa_CUnplayed K), (xa_CTooMany K), (xa_CNoRound K), (xa_CNothingToUndo K), (xa_CLeagueError K), (xa_CStateError K), (xa_CLimitError K)] (xvB K ["away", "home", "limit", "line", "one", "other", "position", "size", "value", "what"]) = true) ∧ (PySem.W.specialIn K (.builtin "object.__class__") "__get__" = some (some (.builtin "getset_descriptor.__get__"))) ∧ (PySem.W.takesIn K (.builtin "object.__class__") = some true))
def gx48 (K : PySem.W.Frag) : Bool := decide ((kitA K (.type "ArithmeticError") [(xa_CInvalidFirst K), (xa_CInvalidNumber K), (xa_CInvalidPlace K), (xa_CInvalidMarks K), (xa_CInvalidStep K), (xa_CInvalidStander K), (xa_CInvalidTurned K), (xa_CInvalidSize K), (xa_CInvalidTeam K), (xa_CInvalidRound K), (xa_CInvalidCount K), (xa_CInvalidClaim K), (xa_CInvalidCommand K), (xa_CInvalidValues K), (xa_CInvalidRows K), (xa_CInvalidRounds K), (xa_CInvalidCells K), (xa_CInvalidLegs K), (xa_CInvalidLot K), (xa_CInvalidFixed K), (xa_CInvalidGauge K), (xa_CInvalidText K), (xa_CCommandFailed K), (xa_CNotRight K), (xa_CNotSingle K), (xa_CNotOpen K), (xa_CUnplayed K), (xa_CTooMany K), (xa_CNoRound K), (xa_CNothingToUndo K), (xa_CLeagueError K), (xa_CStateError K), (xa_CLimitError K)] xtb_ArithmeticError = true) ∧ (PySem.W.kitOne K (.ref (xa_CInvalidFirst K)) (.type "ArithmeticError") = some false) ∧ (kitA K (.ref (xa_CCommandFailed K)) [(xa_CInvalidFirst K), (xa_CInvalidNumber K), (xa_CInvalidPlace K), (xa_CInvalidMarks K), (xa_CInvalidStep K), (xa_CInvalidStander K), (xa_CInvalidTurned K), (xa_CInvalidSize K), (xa_CInvalidTeam K), (xa_CInvalidRound K), (xa_CInvalidCount K), (xa_CInvalidClaim K), (xa_CInvalidCommand K), (xa_CInvalidValues K), (xa_CInvalidRows K), (xa_CInvalidRounds K), (xa_CInvalidCells K), (xa_CInvalidLegs K), (xa_CInvalidLot K), (xa_CInvalidFixed K), (xa_CInvalidGauge K), (xa_CInvalidText K), (xa_CCommandFailed K), (xa_CNotRight K), (xa_CNotSingle K), (xa_CNotOpen K), (xa_CUnplayed K), (xa_CTooMany K), (xa_CNoRound K), (xa_CNothingToUndo K), (xa_CLeagueError K), (xa_CStateError K), (xa_CLimitError K)] xtb_CommandFailed = true) ∧ (PySem.W.kitOne K (.ref (xa_CInvalidFirst K)) (.ref (xa_CCommandFailed K)) = some false) ∧ (kitA K (.ref (xa_CInvalidCells K)) [(xa_CInvalidFirst K), (xa_CInvalidNumber K), (xa_CInvalidPlace K), (xa_CInvalidMarks K), (xa_CInvalidStep K), (xa_CInvalidStander K), (xa_CInvalidTurned K), (xa_CInvalidSize K), (xa_CInvalidTeam K), (xa_CInvalidRound K), (xa_CInvalidCount K), (xa_CInvalidClaim K), (xa_CInvalidCommand K), (xa_CInvalidValues K), (xa_CInvalidRows K), (xa_CInvalidRounds K), (xa_CInvalidCells K), (xa_CInvalidLegs K), (xa_CInvalidLot K), (xa_CInvalidFixed K), (xa_CInvalidGauge K), (xa_CInvalidText K), (xa_CCommandFailed K), (xa_CNotRight K), (xa_CNotSingle K), (xa_CNotOpen K), (xa_CUnplayed K), (xa_CTooMany K), (xa_CNoRound K), (xa_CNothingToUndo K), (xa_CLeagueError K), (xa_CStateError K), (xa_CLimitError K)] xtb_InvalidCells = true) ∧ (PySem.W.kitOne K (.ref (xa_CInvalidFirst K)) (.ref (xa_CInvalidCells K)) = some false) ∧ (kitA K (.ref (xa_CInvalidClaim K)) [(xa_CInvalidFirst K), (xa_CInvalidNumber K), (xa_CInvalidPlace K), (xa_CInvalidMarks K), (xa_CInvalidStep K), (xa_CInvalidStander K), (xa_CInvalidTurned K), (xa_CInvalidSize K), (xa_CInvalidTeam K), (xa_CInvalidRound K), (xa_CInvalidCount K), (xa_CInvalidClaim K), (xa_CInvalidCommand K), (xa_CInvalidValues K), (xa_CInvalidRows K), (xa_CInvalidRounds K), (xa_CInvalidCells K), (xa_CInvalidLegs K), (xa_CInvalidLot K), (xa_CInvalidFixed K), (xa_CInvalidGauge K), (xa_CInvalidText K), (xa_CCommandFailed K), (xa_CNotRight K), (xa_CNotSingle K), (xa_CNotOpen K), (xa_CUnplayed K), (xa_CTooMany K), (xa_CNoRound K), (xa_CNothingToUndo K), (xa_CLeagueError K), (xa_CStateError K), (xa_CLimitError K)] xtb_InvalidClaim = true) ∧ (PySem.W.kitOne K (.ref (xa_CInvalidFirst K)) (.ref (xa_CInvalidClaim K)) = some false) ∧ (kitA K (.ref (xa_CInvalidCommand K)) [(xa_CInvalidFirst K), (xa_CInvalidNumber K), (xa_CInvalidPlace K), (xa_CInvalidMarks K), (xa_CInvalidStep K), (xa_CInvalidStander K), (xa_CInvalidTurned K), (xa_CInvalidSize K), (xa_CInvalidTeam K), (xa_CInvalidRound K), (xa_CInvalidCount K), (xa_CInvalidClaim K), (xa_CInvalidCommand K), (xa_CInvalidValues K), (xa_CInvalidRows K), (xa_CInvalidRounds K), (xa_CInvalidCells K), (xa_CInvalidLegs K), (xa_CInvalidLot K), (xa_CInvalidFixed K), (xa_CInvalidGauge K), (xa_CInvalidText K), (xa_CCommandFailed K), (xa_CNotRight K), (xa_CNotSingle K), (xa_CNotOpen K), (xa_CUnplayed K), (xa_CTooMany K), (xa_CNoRound K), (xa_CNothingToUndo K), (xa_CLeagueError K), (xa_CStateError K), (xa_CLimitError K)] xtb_InvalidCommand = true) ∧ (PySem.W.kitOne K (.ref (xa_CInvalidFirst K)) (.ref (xa_CInvalidCommand K)) = some false))
def gx49 (K : PySem.W.Frag) : Bool := decide ((kitA K (.ref (xa_CInvalidCount K)) [(xa_CInvalidFirst K), (xa_CInvalidNumber K), (xa_CInvalidPlace K), (xa_CInvalidMarks K), (xa_CInvalidStep K), (xa_CInvalidStander K), (xa_CInvalidTurned K), (xa_CInvalidSize K), (xa_CInvalidTeam K), (xa_CInvalidRound K), (xa_CInvalidCount K), (xa_CInvalidClaim K), (xa_CInvalidCommand K), (xa_CInvalidValues K), (xa_CInvalidRows K), (xa_CInvalidRounds K), (xa_CInvalidCells K), (xa_CInvalidLegs K), (xa_CInvalidLot K), (xa_CInvalidFixed K), (xa_CInvalidGauge K), (xa_CInvalidText K), (xa_CCommandFailed K), (xa_CNotRight K), (xa_CNotSingle K), (xa_CNotOpen K), (xa_CUnplayed K), (xa_CTooMany K), (xa_CNoRound K), (xa_CNothingToUndo K), (xa_CLeagueError K), (xa_CStateError K), (xa_CLimitError K)] xtb_InvalidCount = true) ∧ (PySem.W.kitOne K (.ref (xa_CInvalidFirst K)) (.ref (xa_CInvalidCount K)) = some false) ∧ (kitA K (.ref (xa_CInvalidFirst K)) [(xa_CInvalidFirst K), (xa_CInvalidNumber K), (xa_CInvalidPlace K), (xa_CInvalidMarks K), (xa_CInvalidStep K), (xa_CInvalidStander K), (xa_CInvalidTurned K), (xa_CInvalidSize K), (xa_CInvalidTeam K), (xa_CInvalidRound K), (xa_CInvalidCount K), (xa_CInvalidClaim K), (xa_CInvalidCommand K), (xa_CInvalidValues K), (xa_CInvalidRows K), (xa_CInvalidRounds K), (xa_CInvalidCells K), (xa_CInvalidLegs K), (xa_CInvalidLot K), (xa_CInvalidFixed K), (xa_CInvalidGauge K), (xa_CInvalidText K), (xa_CCommandFailed K), (xa_CNotRight K), (xa_CNotSingle K), (xa_CNotOpen K), (xa_CUnplayed K), (xa_CTooMany K), (xa_CNoRound K), (xa_CNothingToUndo K), (xa_CLeagueError K), (xa_CStateError K), (xa_CLimitError K)] xtb_InvalidFirst = true) ∧ (PySem.W.kitOne K (.ref (xa_CInvalidFirst K)) (.ref (xa_CInvalidFirst K)) = some true) ∧ (kitA K (.ref (xa_CInvalidFixed K)) [(xa_CInvalidFirst K), (xa_CInvalidNumber K), (xa_CInvalidPlace K), (xa_CInvalidMarks K), (xa_CInvalidStep K), (xa_CInvalidStander K), (xa_CInvalidTurned K), (xa_CInvalidSize K), (xa_CInvalidTeam K), (xa_CInvalidRound K), (xa_CInvalidCount K), (xa_CInvalidClaim K), (xa_CInvalidCommand K), (xa_CInvalidValues K), (xa_CInvalidRows K), (xa_CInvalidRounds K), (xa_CInvalidCells K), (xa_CInvalidLegs K), (xa_CInvalidLot K), (xa_CInvalidFixed K), (xa_CInvalidGauge K), (xa_CInvalidText K), (xa_CCommandFailed K), (xa_CNotRight K), (xa_CNotSingle K), (xa_CNotOpen K), (xa_CUnplayed K), (xa_CTooMany K), (xa_CNoRound K), (xa_CNothingToUndo K), (xa_CLeagueError K), (xa_CStateError K), (xa_CLimitError K)] xtb_InvalidFixed = true) ∧ (PySem.W.kitOne K (.ref (xa_CInvalidFirst K)) (.ref (xa_CInvalidFixed K)) = some false) ∧ (kitA K (.ref (xa_CInvalidGauge K)) [(xa_CInvalidFirst K), (xa_CInvalidNumber K), (xa_CInvalidPlace K), (xa_CInvalidMarks K), (xa_CInvalidStep K), (xa_CInvalidStander K), (xa_CInvalidTurned K), (xa_CInvalidSize K), (xa_CInvalidTeam K), (xa_CInvalidRound K), (xa_CInvalidCount K), (xa_CInvalidClaim K), (xa_CInvalidCommand K), (xa_CInvalidValues K), (xa_CInvalidRows K), (xa_CInvalidRounds K), (xa_CInvalidCells K), (xa_CInvalidLegs K), (xa_CInvalidLot K), (xa_CInvalidFixed K), (xa_CInvalidGauge K), (xa_CInvalidText K), (xa_CCommandFailed K), (xa_CNotRight K), (xa_CNotSingle K), (xa_CNotOpen K), (xa_CUnplayed K), (xa_CTooMany K), (xa_CNoRound K), (xa_CNothingToUndo K), (xa_CLeagueError K), (xa_CStateError K), (xa_CLimitError K)] xtb_InvalidGauge = true) ∧ (PySem.W.kitOne K (.ref (xa_CInvalidFirst K)) (.ref (xa_CInvalidGauge K)) = some false) ∧ (kitA K (.ref (xa_CInvalidLegs K)) [(xa_CInvalidFirst K), (xa_CInvalidNumber K), (xa_CInvalidPlace K), (xa_CInvalidMarks K), (xa_CInvalidStep K), (xa_CInvalidStander K), (xa_CInvalidTurned K), (xa_CInvalidSize K), (xa_CInvalidTeam K), (xa_CInvalidRound K), (xa_CInvalidCount K), (xa_CInvalidClaim K), (xa_CInvalidCommand K), (xa_CInvalidValues K), (xa_CInvalidRows K), (xa_CInvalidRounds K), (xa_CInvalidCells K), (xa_CInvalidLegs K), (xa_CInvalidLot K), (xa_CInvalidFixed K), (xa_CInvalidGauge K), (xa_CInvalidText K), (xa_CCommandFailed K), (xa_CNotRight K), (xa_CNotSingle K), (xa_CNotOpen K), (xa_CUnplayed K), (xa_CTooMany K), (xa_CNoRound K), (xa_CNothingToUndo K), (xa_CLeagueError K), (xa_CStateError K), (xa_CLimitError K)] xtb_InvalidLegs = true) ∧ (PySem.W.kitOne K (.ref (xa_CInvalidFirst K)) (.ref (xa_CInvalidLegs K)) = some false))
def gx50 (K : PySem.W.Frag) : Bool := decide ((kitA K (.ref (xa_CInvalidLot K)) [(xa_CInvalidFirst K), (xa_CInvalidNumber K), (xa_CInvalidPlace K), (xa_CInvalidMarks K), (xa_CInvalidStep K), (xa_CInvalidStander K), (xa_CInvalidTurned K), (xa_CInvalidSize K), (xa_CInvalidTeam K), (xa_CInvalidRound K), (xa_CInvalidCount K), (xa_CInvalidClaim K), (xa_CInvalidCommand K), (xa_CInvalidValues K), (xa_CInvalidRows K), (xa_CInvalidRounds K), (xa_CInvalidCells K), (xa_CInvalidLegs K), (xa_CInvalidLot K), (xa_CInvalidFixed K), (xa_CInvalidGauge K), (xa_CInvalidText K), (xa_CCommandFailed K), (xa_CNotRight K), (xa_CNotSingle K), (xa_CNotOpen K), (xa_CUnplayed K), (xa_CTooMany K), (xa_CNoRound K), (xa_CNothingToUndo K), (xa_CLeagueError K), (xa_CStateError K), (xa_CLimitError K)] xtb_InvalidLot = true) ∧ (PySem.W.kitOne K (.ref (xa_CInvalidFirst K)) (.ref (xa_CInvalidLot K)) = some false) ∧ (kitA K (.ref (xa_CInvalidMarks K)) [(xa_CInvalidFirst K), (xa_CInvalidNumber K), (xa_CInvalidPlace K), (xa_CInvalidMarks K), (xa_CInvalidStep K), (xa_CInvalidStander K), (xa_CInvalidTurned K), (xa_CInvalidSize K), (xa_CInvalidTeam K), (xa_CInvalidRound K), (xa_CInvalidCount K), (xa_CInvalidClaim K), (xa_CInvalidCommand K), (xa_CInvalidValues K), (xa_CInvalidRows K), (xa_CInvalidRounds K), (xa_CInvalidCells K), (xa_CInvalidLegs K), (xa_CInvalidLot K), (xa_CInvalidFixed K), (xa_CInvalidGauge K), (xa_CInvalidText K), (xa_CCommandFailed K), (xa_CNotRight K), (xa_CNotSingle K), (xa_CNotOpen K), (xa_CUnplayed K), (xa_CTooMany K), (xa_CNoRound K), (xa_CNothingToUndo K), (xa_CLeagueError K), (xa_CStateError K), (xa_CLimitError K)] xtb_InvalidMarks = true) ∧ (PySem.W.kitOne K (.ref (xa_CInvalidFirst K)) (.ref (xa_CInvalidMarks K)) = some false) ∧ (kitA K (.ref (xa_CInvalidNumber K)) [(xa_CInvalidFirst K), (xa_CInvalidNumber K), (xa_CInvalidPlace K), (xa_CInvalidMarks K), (xa_CInvalidStep K), (xa_CInvalidStander K), (xa_CInvalidTurned K), (xa_CInvalidSize K), (xa_CInvalidTeam K), (xa_CInvalidRound K), (xa_CInvalidCount K), (xa_CInvalidClaim K), (xa_CInvalidCommand K), (xa_CInvalidValues K), (xa_CInvalidRows K), (xa_CInvalidRounds K), (xa_CInvalidCells K), (xa_CInvalidLegs K), (xa_CInvalidLot K), (xa_CInvalidFixed K), (xa_CInvalidGauge K), (xa_CInvalidText K), (xa_CCommandFailed K), (xa_CNotRight K), (xa_CNotSingle K), (xa_CNotOpen K), (xa_CUnplayed K), (xa_CTooMany K), (xa_CNoRound K), (xa_CNothingToUndo K), (xa_CLeagueError K), (xa_CStateError K), (xa_CLimitError K)] xtb_InvalidNumber = true) ∧ (PySem.W.kitOne K (.ref (xa_CInvalidFirst K)) (.ref (xa_CInvalidNumber K)) = some false) ∧ (kitA K (.ref (xa_CInvalidPlace K)) [(xa_CInvalidFirst K), (xa_CInvalidNumber K), (xa_CInvalidPlace K), (xa_CInvalidMarks K), (xa_CInvalidStep K), (xa_CInvalidStander K), (xa_CInvalidTurned K), (xa_CInvalidSize K), (xa_CInvalidTeam K), (xa_CInvalidRound K), (xa_CInvalidCount K), (xa_CInvalidClaim K), (xa_CInvalidCommand K), (xa_CInvalidValues K), (xa_CInvalidRows K), (xa_CInvalidRounds K), (xa_CInvalidCells K), (xa_CInvalidLegs K), (xa_CInvalidLot K), (xa_CInvalidFixed K), (xa_CInvalidGauge K), (xa_CInvalidText K), (xa_CCommandFailed K), (xa_CNotRight K), (xa_CNotSingle K), (xa_CNotOpen K), (xa_CUnplayed K), (xa_CTooMany K), (xa_CNoRound K), (xa_CNothingToUndo K), (xa_CLeagueError K), (xa_CStateError K), (xa_CLimitError K)] xtb_InvalidPlace = true) ∧ (PySem.W.kitOne K (.ref (xa_CInvalidFirst K)) (.ref (xa_CInvalidPlace K)) = some false) ∧ (kitA K (.ref (xa_CInvalidRound K)) [(xa_CInvalidFirst K), (xa_CInvalidNumber K), (xa_CInvalidPlace K), (xa_CInvalidMarks K), (xa_CInvalidStep K), (xa_CInvalidStander K), (xa_CInvalidTurned K), (xa_CInvalidSize K), (xa_CInvalidTeam K), (xa_CInvalidRound K), (xa_CInvalidCount K), (xa_CInvalidClaim K), (xa_CInvalidCommand K), (xa_CInvalidValues K), (xa_CInvalidRows K), (xa_CInvalidRounds K), (xa_CInvalidCells K), (xa_CInvalidLegs K), (xa_CInvalidLot K), (xa_CInvalidFixed K), (xa_CInvalidGauge K), (xa_CInvalidText K), (xa_CCommandFailed K), (xa_CNotRight K), (xa_CNotSingle K), (xa_CNotOpen K), (xa_CUnplayed K), (xa_CTooMany K), (xa_CNoRound K), (xa_CNothingToUndo K), (xa_CLeagueError K), (xa_CStateError K), (xa_CLimitError K)] xtb_InvalidRound = true) ∧ (PySem.W.kitOne K (.ref (xa_CInvalidFirst K)) (.ref (xa_CInvalidRound K)) = some false))
def gx51 (K : PySem.W.Frag) : Bool := decide ((kitA K (.ref (xa_CInvalidRounds K)) [(xa_CInvalidFirst K), (xa_CInvalidNumber K), (xa_CInvalidPlace K), (xa_CInvalidMarks K), (xa_CInvalidStep K), (xa_CInvalidStander K), (xa_CInvalidTurned K), (xa_CInvalidSize K), (xa_CInvalidTeam K), (xa_CInvalidRound K), (xa_CInvalidCount K), (xa_CInvalidClaim K), (xa_CInvalidCommand K), (xa_CInvalidValues K), (xa_CInvalidRows K), (xa_CInvalidRounds K), (xa_CInvalidCells K), (xa_CInvalidLegs K), (xa_CInvalidLot K), (xa_CInvalidFixed K), (xa_CInvalidGauge K), (xa_CInvalidText K), (xa_CCommandFailed K), (xa_CNotRight K), (xa_CNotSingle K), (xa_CNotOpen K), (xa_CUnplayed K), (xa_CTooMany K), (xa_CNoRound K), (xa_CNothingToUndo K), (xa_CLeagueError K), (xa_CStateError K), (xa_CLimitError K)] xtb_InvalidRounds = true) ∧ (PySem.W.kitOne K (.ref (xa_CInvalidFirst K)) (.ref (xa_CInvalidRounds K)) = some false) ∧ (kitA K (.ref (xa_CInvalidRows K)) [(xa_CInvalidFirst K), (xa_CInvalidNumber K), (xa_CInvalidPlace K), (xa_CInvalidMarks K), (xa_CInvalidStep K), (xa_CInvalidStander K), (xa_CInvalidTurned K), (xa_CInvalidSize K), (xa_CInvalidTeam K), (xa_CInvalidRound K), (xa_CInvalidCount K), (xa_CInvalidClaim K), (xa_CInvalidCommand K), (xa_CInvalidValues K), (xa_CInvalidRows K), (xa_CInvalidRounds K), (xa_CInvalidCells K), (xa_CInvalidLegs K), (xa_CInvalidLot K), (xa_CInvalidFixed K), (xa_CInvalidGauge K), (xa_CInvalidText K), (xa_CCommandFailed K), (xa_CNotRight K), (xa_CNotSingle K), (xa_CNotOpen K), (xa_CUnplayed K), (xa_CTooMany K), (xa_CNoRound K), (xa_CNothingToUndo K), (xa_CLeagueError K), (xa_CStateError K), (xa_CLimitError K)] xtb_InvalidRows = true) ∧ (PySem.W.kitOne K (.ref (xa_CInvalidFirst K)) (.ref (xa_CInvalidRows K)) = some false) ∧ (kitA K (.ref (xa_CInvalidSize K)) [(xa_CInvalidFirst K), (xa_CInvalidNumber K), (xa_CInvalidPlace K), (xa_CInvalidMarks K), (xa_CInvalidStep K), (xa_CInvalidStander K), (xa_CInvalidTurned K), (xa_CInvalidSize K), (xa_CInvalidTeam K), (xa_CInvalidRound K), (xa_CInvalidCount K), (xa_CInvalidClaim K), (xa_CInvalidCommand K), (xa_CInvalidValues K), (xa_CInvalidRows K), (xa_CInvalidRounds K), (xa_CInvalidCells K), (xa_CInvalidLegs K), (xa_CInvalidLot K), (xa_CInvalidFixed K), (xa_CInvalidGauge K), (xa_CInvalidText K), (xa_CCommandFailed K), (xa_CNotRight K), (xa_CNotSingle K), (xa_CNotOpen K), (xa_CUnplayed K), (xa_CTooMany K), (xa_CNoRound K), (xa_CNothingToUndo K), (xa_CLeagueError K), (xa_CStateError K), (xa_CLimitError K)] xtb_InvalidSize = true) ∧ (PySem.W.kitOne K (.ref (xa_CInvalidFirst K)) (.ref (xa_CInvalidSize K)) = some false) ∧ (kitA K (.ref (xa_CInvalidStander K)) [(xa_CInvalidFirst K), (xa_CInvalidNumber K), (xa_CInvalidPlace K), (xa_CInvalidMarks K), (xa_CInvalidStep K), (xa_CInvalidStander K), (xa_CInvalidTurned K), (xa_CInvalidSize K), (xa_CInvalidTeam K), (xa_CInvalidRound K), (xa_CInvalidCount K), (xa_CInvalidClaim K), (xa_CInvalidCommand K), (xa_CInvalidValues K), (xa_CInvalidRows K), (xa_CInvalidRounds K), (xa_CInvalidCells K), (xa_CInvalidLegs K), (xa_CInvalidLot K), (xa_CInvalidFixed K), (xa_CInvalidGauge K), (xa_CInvalidText K), (xa_CCommandFailed K), (xa_CNotRight K), (xa_CNotSingle K), (xa_CNotOpen K), (xa_CUnplayed K), (xa_CTooMany K), (xa_CNoRound K), (xa_CNothingToUndo K), (xa_CLeagueError K), (xa_CStateError K), (xa_CLimitError K)] xtb_InvalidStander = true) ∧ (PySem.W.kitOne K (.ref (xa_CInvalidFirst K)) (.ref (xa_CInvalidStander K)) = some false) ∧ (kitA K (.ref (xa_CInvalidStep K)) [(xa_CInvalidFirst K), (xa_CInvalidNumber K), (xa_CInvalidPlace K), (xa_CInvalidMarks K), (xa_CInvalidStep K), (xa_CInvalidStander K), (xa_CInvalidTurned K), (xa_CInvalidSize K), (xa_CInvalidTeam K), (xa_CInvalidRound K), (xa_CInvalidCount K), (xa_CInvalidClaim K), (xa_CInvalidCommand K), (xa_CInvalidValues K), (xa_CInvalidRows K), (xa_CInvalidRounds K), (xa_CInvalidCells K), (xa_CInvalidLegs K), (xa_CInvalidLot K), (xa_CInvalidFixed K), (xa_CInvalidGauge K), (xa_CInvalidText K), (xa_CCommandFailed K), (xa_CNotRight K), (xa_CNotSingle K), (xa_CNotOpen K), (xa_CUnplayed K), (xa_CTooMany K), (xa_CNoRound K), (xa_CNothingToUndo K), (xa_CLeagueError K), (xa_CStateError K), (xa_CLimitError K)] xtb_InvalidStep = true) ∧ (PySem.W.kitOne K (.ref (xa_CInvalidFirst K)) (.ref (xa_CInvalidStep K)) = some false))
def gx52 (K : PySem.W.Frag) : Bool := decide ((kitA K (.ref (xa_CInvalidTeam K)) [(xa_CInvalidFirst K), (xa_CInvalidNumber K), (xa_CInvalidPlace K), (xa_CInvalidMarks K), (xa_CInvalidStep K), (xa_CInvalidStander K), (xa_CInvalidTurned K), (xa_CInvalidSize K), (xa_CInvalidTeam K), (xa_CInvalidRound K), (xa_CInvalidCount K), (xa_CInvalidClaim K), (xa_CInvalidCommand K), (xa_CInvalidValues K), (xa_CInvalidRows K), (xa_CInvalidRounds K), (xa_CInvalidCells K), (xa_CInvalidLegs K), (xa_CInvalidLot K), (xa_CInvalidFixed K), (xa_CInvalidGauge K), (xa_CInvalidText K), (xa_CCommandFailed K), (xa_CNotRight K), (xa_CNotSingle K), (xa_CNotOpen K), (xa_CUnplayed K), (xa_CTooMany K), (xa_CNoRound K), (xa_CNothingToUndo K), (xa_CLeagueError K), (xa_CStateError K), (xa_CLimitError K)] xtb_InvalidTeam = true) ∧ (PySem.W.kitOne K (.ref (xa_CInvalidFirst K)) (.ref (xa_CInvalidTeam K)) = some false) ∧ (kitA K (.ref (xa_CInvalidText K)) [(xa_CInvalidFirst K), (xa_CInvalidNumber K), (xa_CInvalidPlace K), (xa_CInvalidMarks K), (xa_CInvalidStep K), (xa_CInvalidStander K), (xa_CInvalidTurned K), (xa_CInvalidSize K), (xa_CInvalidTeam K), (xa_CInvalidRound K), (xa_CInvalidCount K), (xa_CInvalidClaim K), (xa_CInvalidCommand K), (xa_CInvalidValues K), (xa_CInvalidRows K), (xa_CInvalidRounds K), (xa_CInvalidCells K), (xa_CInvalidLegs K), (xa_CInvalidLot K), (xa_CInvalidFixed K), (xa_CInvalidGauge K), (xa_CInvalidText K), (xa_CCommandFailed K), (xa_CNotRight K), (xa_CNotSingle K), (xa_CNotOpen K), (xa_CUnplayed K), (xa_CTooMany K), (xa_CNoRound K), (xa_CNothingToUndo K), (xa_CLeagueError K), (xa_CStateError K), (xa_CLimitError K)] xtb_InvalidText = true) ∧ (PySem.W.kitOne K (.ref (xa_CInvalidFirst K)) (.ref (xa_CInvalidText K)) = some false) ∧ (kitA K (.ref (xa_CInvalidTurned K)) [(xa_CInvalidFirst K), (xa_CInvalidNumber K), (xa_CInvalidPlace K), (xa_CInvalidMarks K), (xa_CInvalidStep K), (xa_CInvalidStander K), (xa_CInvalidTurned K), (xa_CInvalidSize K), (xa_CInvalidTeam K), (xa_CInvalidRound K), (xa_CInvalidCount K), (xa_CInvalidClaim K), (xa_CInvalidCommand K), (xa_CInvalidValues K), (xa_CInvalidRows K), (xa_CInvalidRounds K), (xa_CInvalidCells K), (xa_CInvalidLegs K), (xa_CInvalidLot K), (xa_CInvalidFixed K), (xa_CInvalidGauge K), (xa_CInvalidText K), (xa_CCommandFailed K), (xa_CNotRight K), (xa_CNotSingle K), (xa_CNotOpen K), (xa_CUnplayed K), (xa_CTooMany K), (xa_CNoRound K), (xa_CNothingToUndo K), (xa_CLeagueError K), (xa_CStateError K), (xa_CLimitError K)] xtb_InvalidTurned = true) ∧ (PySem.W.kitOne K (.ref (xa_CInvalidFirst K)) (.ref (xa_CInvalidTurned K)) = some false) ∧ (kitA K (.ref (xa_CInvalidValues K)) [(xa_CInvalidFirst K), (xa_CInvalidNumber K), (xa_CInvalidPlace K), (xa_CInvalidMarks K), (xa_CInvalidStep K), (xa_CInvalidStander K), (xa_CInvalidTurned K), (xa_CInvalidSize K), (xa_CInvalidTeam K), (xa_CInvalidRound K), (xa_CInvalidCount K), (xa_CInvalidClaim K), (xa_CInvalidCommand K), (xa_CInvalidValues K), (xa_CInvalidRows K), (xa_CInvalidRounds K), (xa_CInvalidCells K), (xa_CInvalidLegs K), (xa_CInvalidLot K), (xa_CInvalidFixed K), (xa_CInvalidGauge K), (xa_CInvalidText K), (xa_CCommandFailed K), (xa_CNotRight K), (xa_CNotSingle K), (xa_CNotOpen K), (xa_CUnplayed K), (xa_CTooMany K), (xa_CNoRound K), (xa_CNothingToUndo K), (xa_CLeagueError K), (xa_CStateError K), (xa_CLimitError K)] xtb_InvalidValues = true) ∧ (PySem.W.kitOne K (.ref (xa_CInvalidFirst K)) (.ref (xa_CInvalidValues K)) = some false) ∧ (kitA K (.ref (xa_CLeagueError K)) [(xa_CInvalidFirst K), (xa_CInvalidNumber K), (xa_CInvalidPlace K), (xa_CInvalidMarks K), (xa_CInvalidStep K), (xa_CInvalidStander K), (xa_CInvalidTurned K), (xa_CInvalidSize K), (xa_CInvalidTeam K), (xa_CInvalidRound K), (xa_CInvalidCount K), (xa_CInvalidClaim K), (xa_CInvalidCommand K), (xa_CInvalidValues K), (xa_CInvalidRows K), (xa_CInvalidRounds K), (xa_CInvalidCells K), (xa_CInvalidLegs K), (xa_CInvalidLot K), (xa_CInvalidFixed K), (xa_CInvalidGauge K), (xa_CInvalidText K), (xa_CCommandFailed K), (xa_CNotRight K), (xa_CNotSingle K), (xa_CNotOpen K), (xa_CUnplayed K), (xa_CTooMany K), (xa_CNoRound K), (xa_CNothingToUndo K), (xa_CLeagueError K), (xa_CStateError K), (xa_CLimitError K)] xtb_LeagueError = true) ∧ (PySem.W.kitOne K (.ref (xa_CInvalidFirst K)) (.ref (xa_CLeagueError K)) = some true))
def gx53 (K : PySem.W.Frag) : Bool := decide ((kitA K (.ref (xa_CLimitError K)) [(xa_CInvalidFirst K), (xa_CInvalidNumber K), (xa_CInvalidPlace K), (xa_CInvalidMarks K), (xa_CInvalidStep K), (xa_CInvalidStander K), (xa_CInvalidTurned K), (xa_CInvalidSize K), (xa_CInvalidTeam K), (xa_CInvalidRound K), (xa_CInvalidCount K), (xa_CInvalidClaim K), (xa_CInvalidCommand K), (xa_CInvalidValues K), (xa_CInvalidRows K), (xa_CInvalidRounds K), (xa_CInvalidCells K), (xa_CInvalidLegs K), (xa_CInvalidLot K), (xa_CInvalidFixed K), (xa_CInvalidGauge K), (xa_CInvalidText K), (xa_CCommandFailed K), (xa_CNotRight K), (xa_CNotSingle K), (xa_CNotOpen K), (xa_CUnplayed K), (xa_CTooMany K), (xa_CNoRound K), (xa_CNothingToUndo K), (xa_CLeagueError K), (xa_CStateError K), (xa_CLimitError K)] xtb_LimitError = true) ∧ (PySem.W.kitOne K (.ref (xa_CInvalidFirst K)) (.ref (xa_CLimitError K)) = some false) ∧ (kitA K (.type "LookupError") [(xa_CInvalidFirst K), (xa_CInvalidNumber K), (xa_CInvalidPlace K), (xa_CInvalidMarks K), (xa_CInvalidStep K), (xa_CInvalidStander K), (xa_CInvalidTurned K), (xa_CInvalidSize K), (xa_CInvalidTeam K), (xa_CInvalidRound K), (xa_CInvalidCount K), (xa_CInvalidClaim K), (xa_CInvalidCommand K), (xa_CInvalidValues K), (xa_CInvalidRows K), (xa_CInvalidRounds K), (xa_CInvalidCells K), (xa_CInvalidLegs K), (xa_CInvalidLot K), (xa_CInvalidFixed K), (xa_CInvalidGauge K), (xa_CInvalidText K), (xa_CCommandFailed K), (xa_CNotRight K), (xa_CNotSingle K), (xa_CNotOpen K), (xa_CUnplayed K), (xa_CTooMany K), (xa_CNoRound K), (xa_CNothingToUndo K), (xa_CLeagueError K), (xa_CStateError K), (xa_CLimitError K)] xtb_LookupError = true) ∧ (PySem.W.kitOne K (.ref (xa_CInvalidFirst K)) (.type "LookupError") = some false) ∧ (kitA K (.ref (xa_CNoRound K)) [(xa_CInvalidFirst K), (xa_CInvalidNumber K), (xa_CInvalidPlace K), (xa_CInvalidMarks K), (xa_CInvalidStep K), (xa_CInvalidStander K), (xa_CInvalidTurned K), (xa_CInvalidSize K), (xa_CInvalidTeam K), (xa_CInvalidRound K), (xa_CInvalidCount K), (xa_CInvalidClaim K), (xa_CInvalidCommand K), (xa_CInvalidValues K), (xa_CInvalidRows K), (xa_CInvalidRounds K), (xa_CInvalidCells K), (xa_CInvalidLegs K), (xa_CInvalidLot K), (xa_CInvalidFixed K), (xa_CInvalidGauge K), (xa_CInvalidText K), (xa_CCommandFailed K), (xa_CNotRight K), (xa_CNotSingle K), (xa_CNotOpen K), (xa_CUnplayed K), (xa_CTooMany K), (xa_CNoRound K), (xa_CNothingToUndo K), (xa_CLeagueError K), (xa_CStateError K), (xa_CLimitError K)] xtb_NoRound = true) ∧ (PySem.W.kitOne K (.ref (xa_CInvalidFirst K)) (.ref (xa_CNoRound K)) = some false) ∧ (kitA K (.ref (xa_CNotOpen K)) [(xa_CInvalidFirst K), (xa_CInvalidNumber K), (xa_CInvalidPlace K), (xa_CInvalidMarks K), (xa_CInvalidStep K), (xa_CInvalidStander K), (xa_CInvalidTurned K), (xa_CInvalidSize K), (xa_CInvalidTeam K), (xa_CInvalidRound K), (xa_CInvalidCount K), (xa_CInvalidClaim K), (xa_CInvalidCommand K), (xa_CInvalidValues K), (xa_CInvalidRows K), (xa_CInvalidRounds K), (xa_CInvalidCells K), (xa_CInvalidLegs K), (xa_CInvalidLot K), (xa_CInvalidFixed K), (xa_CInvalidGauge K), (xa_CInvalidText K), (xa_CCommandFailed K), (xa_CNotRight K), (xa_CNotSingle K), (xa_CNotOpen K), (xa_CUnplayed K), (xa_CTooMany K), (xa_CNoRound K), (xa_CNothingToUndo K), (xa_CLeagueError K), (xa_CStateError K), (xa_CLimitError K)] xtb_NotOpen = true) ∧ (PySem.W.kitOne K (.ref (xa_CInvalidFirst K)) (.ref (xa_CNotOpen K)) = some false) ∧ (kitA K (.ref (xa_CNotRight K)) [(xa_CInvalidFirst K), (xa_CInvalidNumber K), (xa_CInvalidPlace K), (xa_CInvalidMarks K), (xa_CInvalidStep K), (xa_CInvalidStander K), (xa_CInvalidTurned K), (xa_CInvalidSize K), (xa_CInvalidTeam K), (xa_CInvalidRound K), (xa_CInvalidCount K), (xa_CInvalidClaim K), (xa_CInvalidCommand K), (xa_CInvalidValues K), (xa_CInvalidRows K), (xa_CInvalidRounds K), (xa_CInvalidCells K), (xa_CInvalidLegs K), (xa_CInvalidLot K), (xa_CInvalidFixed K), (xa_CInvalidGauge K), (xa_CInvalidText K), (xa_CCommandFailed K), (xa_CNotRight K), (xa_CNotSingle K), (xa_CNotOpen K), (xa_CUnplayed K), (xa_CTooMany K), (xa_CNoRound K), (xa_CNothingToUndo K), (xa_CLeagueError K), (xa_CStateError K), (xa_CLimitError K)] xtb_NotRight = true) ∧ (PySem.W.kitOne K (.ref (xa_CInvalidFirst K)) (.ref (xa_CNotRight K)) = some false))
def gx54 (K : PySem.W.Frag) : Bool := decide ((kitA K (.ref (xa_CNotSingle K)) [(xa_CInvalidFirst K), (xa_CInvalidNumber K), (xa_CInvalidPlace K), (xa_CInvalidMarks K), (xa_CInvalidStep K), (xa_CInvalidStander K), (xa_CInvalidTurned K), (xa_CInvalidSize K), (xa_CInvalidTeam K), (xa_CInvalidRound K), (xa_CInvalidCount K), (xa_CInvalidClaim K), (xa_CInvalidCommand K), (xa_CInvalidValues K), (xa_CInvalidRows K), (xa_CInvalidRounds K), (xa_CInvalidCells K), (xa_CInvalidLegs K), (xa_CInvalidLot K), (xa_CInvalidFixed K), (xa_CInvalidGauge K), (xa_CInvalidText K), (xa_CCommandFailed K), (xa_CNotRight K), (xa_CNotSingle K), (xa_CNotOpen K), (xa_CUnplayed K), (xa_CTooMany K), (xa_CNoRound K), (xa_CNothingToUndo K), (xa_CLeagueError K), (xa_CStateError K), (xa_CLimitError K)] xtb_NotSingle = true) ∧ (PySem.W.kitOne K (.ref (xa_CInvalidFirst K)) (.ref (xa_CNotSingle K)) = some false) ∧ (kitA K (.ref (xa_CNothingToUndo K)) [(xa_CInvalidFirst K), (xa_CInvalidNumber K), (xa_CInvalidPlace K), (xa_CInvalidMarks K), (xa_CInvalidStep K), (xa_CInvalidStander K), (xa_CInvalidTurned K), (xa_CInvalidSize K), (xa_CInvalidTeam K), (xa_CInvalidRound K), (xa_CInvalidCount K), (xa_CInvalidClaim K), (xa_CInvalidCommand K), (xa_CInvalidValues K), (xa_CInvalidRows K), (xa_CInvalidRounds K), (xa_CInvalidCells K), (xa_CInvalidLegs K), (xa_CInvalidLot K), (xa_CInvalidFixed K), (xa_CInvalidGauge K), (xa_CInvalidText K), (xa_CCommandFailed K), (xa_CNotRight K), (xa_CNotSingle K), (xa_CNotOpen K), (xa_CUnplayed K), (xa_CTooMany K), (xa_CNoRound K), (xa_CNothingToUndo K), (xa_CLeagueError K), (xa_CStateError K), (xa_CLimitError K)] xtb_NothingToUndo = true) ∧ (PySem.W.kitOne K (.ref (xa_CInvalidFirst K)) (.ref (xa_CNothingToUndo K)) = some false) ∧ (kitA K (.type "RuntimeError") [(xa_CInvalidFirst K), (xa_CInvalidNumber K), (xa_CInvalidPlace K), (xa_CInvalidMarks K), (xa_CInvalidStep K), (xa_CInvalidStander K), (xa_CInvalidTurned K), (xa_CInvalidSize K), (xa_CInvalidTeam K), (xa_CInvalidRound K), (xa_CInvalidCount K), (xa_CInvalidClaim K), (xa_CInvalidCommand K), (xa_CInvalidValues K), (xa_CInvalidRows K), (xa_CInvalidRounds K), (xa_CInvalidCells K), (xa_CInvalidLegs K), (xa_CInvalidLot K), (xa_CInvalidFixed K), (xa_CInvalidGauge K), (xa_CInvalidText K), (xa_CCommandFailed K), (xa_CNotRight K), (xa_CNotSingle K), (xa_CNotOpen K), (xa_CUnplayed K), (xa_CTooMany K), (xa_CNoRound K), (xa_CNothingToUndo K), (xa_CLeagueError K), (xa_CStateError K), (xa_CLimitError K)] xtb_RuntimeError = true) ∧ (PySem.W.kitOne K (.ref (xa_CInvalidFirst K)) (.type "RuntimeError") = some false) ∧ (kitA K (.ref (xa_CStateError K)) [(xa_CInvalidFirst K), (xa_CInvalidNumber K), (xa_CInvalidPlace K), (xa_CInvalidMarks K), (xa_CInvalidStep K), (xa_CInvalidStander K), (xa_CInvalidTurned K), (xa_CInvalidSize K), (xa_CInvalidTeam K), (xa_CInvalidRound K), (xa_CInvalidCount K), (xa_CInvalidClaim K), (xa_CInvalidCommand K), (xa_CInvalidValues K), (xa_CInvalidRows K), (xa_CInvalidRounds K), (xa_CInvalidCells K), (xa_CInvalidLegs K), (xa_CInvalidLot K), (xa_CInvalidFixed K), (xa_CInvalidGauge K), (xa_CInvalidText K), (xa_CCommandFailed K), (xa_CNotRight K), (xa_CNotSingle K), (xa_CNotOpen K), (xa_CUnplayed K), (xa_CTooMany K), (xa_CNoRound K), (xa_CNothingToUndo K), (xa_CLeagueError K), (xa_CStateError K), (xa_CLimitError K)] xtb_StateError = true) ∧ (PySem.W.kitOne K (.ref (xa_CInvalidFirst K)) (.ref (xa_CStateError K)) = some false) ∧ (kitA K (.ref (xa_CTooMany K)) [(xa_CInvalidFirst K), (xa_CInvalidNumber K), (xa_CInvalidPlace K), (xa_CInvalidMarks K), (xa_CInvalidStep K), (xa_CInvalidStander K), (xa_CInvalidTurned K), (xa_CInvalidSize K), (xa_CInvalidTeam K), (xa_CInvalidRound K), (xa_CInvalidCount K), (xa_CInvalidClaim K), (xa_CInvalidCommand K), (xa_CInvalidValues K), (xa_CInvalidRows K), (xa_CInvalidRounds K), (xa_CInvalidCells K), (xa_CInvalidLegs K), (xa_CInvalidLot K), (xa_CInvalidFixed K), (xa_CInvalidGauge K), (xa_CInvalidText K), (xa_CCommandFailed K), (xa_CNotRight K), (xa_CNotSingle K), (xa_CNotOpen K), (xa_CUnplayed K), (xa_CTooMany K), (xa_CNoRound K), (xa_CNothingToUndo K), (xa_CLeagueError K), (xa_CStateError K), (xa_CLimitError K)] xtb_TooMany = true) ∧ (PySem.W.kitOne K (.ref (xa_CInvalidFirst K)) (.ref (xa_CTooMany K)) = some false))
def gx55 (K : PySem.W.Frag) : Bool := decide ((kitA K (.type "TypeError") [(xa_CInvalidFirst K), (xa_CInvalidNumber K), (xa_CInvalidPlace K), (xa_CInvalidMarks K), (xa_CInvalidStep K), (xa_CInvalidStander K), (xa_CInvalidTurned K), (xa_CInvalidSize K), (xa_CInvalidTeam K), (xa_CInvalidRound K), (xa_CInvalidCount K), (xa_CInvalidClaim K), (xa_CInvalidCommand K), (xa_CInvalidValues K), (xa_CInvalidRows K), (xa_CInvalidRounds K), (xa_CInvalidCells K), (xa_CInvalidLegs K), (xa_CInvalidLot K), (xa_CInvalidFixed K), (xa_CInvalidGauge K), (xa_CInvalidText K), (xa_CCommandFailed K), (xa_CNotRight K), (xa_CNotSingle K), (xa_CNotOpen K), (xa_CUnplayed K), (xa_CTooMany K), (xa_CNoRound K), (xa_CNothingToUndo K), (xa_CLeagueError K), (xa_CStateError K), (xa_CLimitError K)] xtb_TypeError = true) ∧ (PySem.W.kitOne K (.ref (xa_CInvalidFirst K)) (.type "TypeError") = some false) ∧ (kitA K (.ref (xa_CUnplayed K)) [(xa_CInvalidFirst K), (xa_CInvalidNumber K), (xa_CInvalidPlace K), (xa_CInvalidMarks K), (xa_CInvalidStep K), (xa_CInvalidStander K), (xa_CInvalidTurned K), (xa_CInvalidSize K), (xa_CInvalidTeam K), (xa_CInvalidRound K), (xa_CInvalidCount K), (xa_CInvalidClaim K), (xa_CInvalidCommand K), (xa_CInvalidValues K), (xa_CInvalidRows K), (xa_CInvalidRounds K), (xa_CInvalidCells K), (xa_CInvalidLegs K), (xa_CInvalidLot K), (xa_CInvalidFixed K), (xa_CInvalidGauge K), (xa_CInvalidText K), (xa_CCommandFailed K), (xa_CNotRight K), (xa_CNotSingle K), (xa_CNotOpen K), (xa_CUnplayed K), (xa_CTooMany K), (xa_CNoRound K), (xa_CNothingToUndo K), (xa_CLeagueError K), (xa_CStateError K), (xa_CLimitError K)] xtb_Unplayed = true) ∧ (PySem.W.kitOne K (.ref (xa_CInvalidFirst K)) (.ref (xa_CUnplayed K)) = some false) ∧ (kitA K (.type "ValueError") [(xa_CInvalidFirst K), (xa_CInvalidNumber K), (xa_CInvalidPlace K), (xa_CInvalidMarks K), (xa_CInvalidStep K), (xa_CInvalidStander K), (xa_CInvalidTurned K), (xa_CInvalidSize K), (xa_CInvalidTeam K), (xa_CInvalidRound K), (xa_CInvalidCount K), (xa_CInvalidClaim K), (xa_CInvalidCommand K), (xa_CInvalidValues K), (xa_CInvalidRows K), (xa_CInvalidRounds K), (xa_CInvalidCells K), (xa_CInvalidLegs K), (xa_CInvalidLot K), (xa_CInvalidFixed K), (xa_CInvalidGauge K), (xa_CInvalidText K), (xa_CCommandFailed K), (xa_CNotRight K), (xa_CNotSingle K), (xa_CNotOpen K), (xa_CUnplayed K), (xa_CTooMany K), (xa_CNoRound K), (xa_CNothingToUndo K), (xa_CLeagueError K), (xa_CStateError K), (xa_CLimitError K)] xtb_ValueError = true) ∧ (PySem.W.kitOne K (.ref (xa_CInvalidFirst K)) (.type "ValueError") = some true) ∧ (kitA K (.type "ZeroDivisionError") [(xa_CInvalidFirst K), (xa_CInvalidNumber K), (xa_CInvalidPlace K), (xa_CInvalidMarks K), (xa_CInvalidStep K), (xa_CInvalidStander K), (xa_CInvalidTurned K), (xa_CInvalidSize K), (xa_CInvalidTeam K), (xa_CInvalidRound K), (xa_CInvalidCount K), (xa_CInvalidClaim K), (xa_CInvalidCommand K), (xa_CInvalidValues K), (xa_CInvalidRows K), (xa_CInvalidRounds K), (xa_CInvalidCells K), (xa_CInvalidLegs K), (xa_CInvalidLot K), (xa_CInvalidFixed K), (xa_CInvalidGauge K), (xa_CInvalidText K), (xa_CCommandFailed K), (xa_CNotRight K), (xa_CNotSingle K), (xa_CNotOpen K), (xa_CUnplayed K), (xa_CTooMany K), (xa_CNoRound K), (xa_CNothingToUndo K), (xa_CLeagueError K), (xa_CStateError K), (xa_CLimitError K)] xtb_ZeroDivisionError = true) ∧ (PySem.W.kitOne K (.ref (xa_CInvalidFirst K)) (.type "ZeroDivisionError") = some false) ∧ (PySem.W.excIn K (xa_CLeagueError K) [.type "ValueError", .type "Exception", .type "BaseException", .type "object"] "ValueError.__new__" = true) ∧ (PySem.W.keepIn K (.ref (xa_CLeagueError K)) = true))
def gx56 (K : PySem.W.Frag) : Bool := decide ((PySem.W.excIn K (xa_CLimitError K) [.type "ArithmeticError", .type "Exception", .type "BaseException", .type "object"] "ArithmeticError.__new__" = true) ∧ (PySem.W.keepIn K (.ref (xa_CLimitError K)) = true) ∧ (PySem.W.excIn K (xa_CStateError K) [.type "RuntimeError", .type "Exception", .type "BaseException", .type "object"] "RuntimeError.__new__" = true) ∧ (PySem.W.keepIn K (.ref (xa_CStateError K)) = true) ∧ (PySem.W.nsIn K mainGlobals "ArithmeticError" = some none) ∧ (PySem.W.nsIn K mainGlobals "LookupError" = some none) ∧ (PySem.W.nsIn K mainGlobals "RuntimeError" = some none) ∧ (PySem.W.nsIn K mainGlobals "TypeError" = some none) ∧ (PySem.W.nsIn K mainGlobals "ValueError" = some none) ∧ (PySem.W.nsIn K mainGlobals "ZeroDivisionError" = some none))
def gx57 (K : PySem.W.Frag) : Bool := decide ((PySem.W.nsIn K mainGlobals "abs" = some none) ∧ (PySem.W.nsIn K mainGlobals "all" = some none) ∧ (PySem.W.nsIn K mainGlobals "dict" = some none) ∧ (PySem.W.nsIn K mainGlobals "divmod" = some none) ∧ (PySem.W.nsIn K mainGlobals "enumerate" = some none) ∧ (PySem.W.nsIn K mainGlobals "int" = some none) ∧ (PySem.W.nsIn K mainGlobals "isinstance" = some none) ∧ (PySem.W.nsIn K mainGlobals "len" = some none) ∧ (PySem.W.nsIn K mainGlobals "list" = some none) ∧ (PySem.W.nsIn K mainGlobals "max" = some none))
def gx58 (K : PySem.W.Frag) : Bool := decide ((PySem.W.nsIn K mainGlobals "min" = some none) ∧ (PySem.W.nsIn K mainGlobals "range" = some none) ∧ (PySem.W.nsIn K mainGlobals "repr" = some none) ∧ (PySem.W.nsIn K mainGlobals "tuple" = some none) ∧ (PySem.W.nsIn K mainGlobals "zip" = some none))
def gxa (K : PySem.W.Frag) : Bool := gx0 K && (gx1 K && (gx2 K && (gx3 K && (gx4 K && (gx5 K && (gx6 K && (gx7 K && (gx8 K && (gx9 K && (gx10 K && (gx11 K && (gx12 K && (gx13 K && (gx14 K && (gx15 K && (gx16 K && (gx17 K && (gx18 K && (gx19 K && (gx20 K && (gx21 K && (gx22 K && (gx23 K && (gx24 K && (gx25 K && (gx26 K && (gx27 K && (gx28 K && (gx29 K)))))))))))))))))))))))))))))
def gxb (K : PySem.W.Frag) : Bool := gx30 K && (gx31 K && (gx32 K && (gx33 K && (gx34 K && (gx35 K && (gx36 K && (gx37 K && (gx38 K && (gx39 K && (gx40 K && (gx41 K && (gx42 K && (gx43 K && (gx44 K && (gx45 K && (gx46 K && (gx47 K && (gx48 K && (gx49 K && (gx50 K && (gx51 K && (gx52 K && (gx53 K && (gx54 K && (gx55 K && (gx56 K && (gx57 K && (gx58 K))))))))))))))))))))))))))))
def fnL0 : List (PySem.W.Frag → Addr) := [xa_Adraw, xa_Apick, xa_Aall, xa_Anamed, xa_Akept, xa_Awidth, xa_Aflags, xa_Agrounds, xa_Aground, xa_Adue_grounds, xa_Aright, xa_Apot, xa_Alaw, xa_ACommandFailed_init, xa_AInvalidCells_init, xa_AInvalidClaim_init, xa_AInvalidCommand_init, xa_AInvalidCount_init, xa_AInvalidFirst_init, xa_AInvalidFixed_init]
def fnL1 : List (PySem.W.Frag → Addr) := [xa_AInvalidGauge_init, xa_AInvalidLegs_init, xa_AInvalidLot_init, xa_AInvalidMarks_init, xa_AInvalidNumber_init, xa_AInvalidPlace_init, xa_AInvalidRound_init, xa_AInvalidRounds_init, xa_AInvalidRows_init, xa_AInvalidSize_init, xa_AInvalidStander_init, xa_AInvalidStep_init, xa_AInvalidTeam_init, xa_AInvalidText_init, xa_AInvalidTurned_init, xa_AInvalidValues_init, xa_ANoRound_init, xa_ANotOpen_init, xa_ANotRight_init, xa_ANotSingle_init]
def fnL2 : List (PySem.W.Frag → Addr) := [xa_ANothingToUndo_init, xa_ATooMany_init, xa_AUnplayed_init]
def fnL : List (PySem.W.Frag → Addr) := fnL0 ++ (fnL1 ++ (fnL2))
def fnV0 : List He.FnW := [sv_draw, sv_pick, sv_all, sv_named, sv_kept, sv_width, sv_flags, sv_grounds, sv_ground, sv_due_grounds, sv_right, sv_pot, sv_law, sv_CommandFailed_init, sv_InvalidCells_init, sv_InvalidClaim_init, sv_InvalidCommand_init, sv_InvalidCount_init, sv_InvalidFirst_init, sv_InvalidFixed_init]
def fnV1 : List He.FnW := [sv_InvalidGauge_init, sv_InvalidLegs_init, sv_InvalidLot_init, sv_InvalidMarks_init, sv_InvalidNumber_init, sv_InvalidPlace_init, sv_InvalidRound_init, sv_InvalidRounds_init, sv_InvalidRows_init, sv_InvalidSize_init, sv_InvalidStander_init, sv_InvalidStep_init, sv_InvalidTeam_init, sv_InvalidText_init, sv_InvalidTurned_init, sv_InvalidValues_init, sv_NoRound_init, sv_NotOpen_init, sv_NotRight_init, sv_NotSingle_init]
def fnV2 : List He.FnW := [sv_NothingToUndo_init, sv_TooMany_init, sv_Unplayed_init]
def fnV : List He.FnW := fnV0 ++ (fnV1 ++ (fnV2))
def tsL : List He.Tab := []
def looseL0 : List PySem.Str := ["__name__", "LeagueError", "InvalidFirst", "InvalidValues", "InvalidRows", "InvalidNumber", "InvalidPlace", "InvalidMarks", "InvalidStep", "InvalidStander", "InvalidTurned", "InvalidSize", "InvalidTeam", "InvalidRound", "InvalidRounds", "InvalidCells", "InvalidLegs", "InvalidCount", "InvalidLot", "InvalidFixed"]
def looseL1 : List PySem.Str := ["InvalidGauge", "InvalidText", "InvalidClaim", "InvalidCommand", "StateError", "NotSingle", "NotRight", "NotOpen", "Unplayed", "NoRound", "NothingToUndo", "CommandFailed", "LimitError", "TooMany", "_law_pot", "_law_draw", "_law_pick", "_law_all", "_law_named", "_law_kept"]
def looseL2 : List PySem.Str := ["_law_flags", "_law_grounds", "_law_ground", "_law_due_grounds", "_law_width", "_law_right"]
def looseL : List PySem.Str := looseL0 ++ (looseL1 ++ (looseL2))
abbrev RR : PySem.W.OpenRow := PySem.W.OpenLaw.row PySem.Challenge.rw_ringrows_k19_errors_made
abbrev qV : Program := PySem.W.view RR.prog [47]
abbrev hk : PySem.W.Hook := hkR 4000 (fun K => gxa K && gxb K) fnL fnV tsL
abbrev ob : PySem.W.SharedT → hk.α := obF 4000 gxa gxb fnL tsL
set_option maxHeartbeats 0 in
theorem runA_false (w : World) (os : OsState) : (endW RR.prog (w.withFollow "special-get-raises" false) os).map (fun x => (HandSHeadRun.looksF RR.prog (PySem.W.boot_heap (w.withFollow "special-get-raises" false).params) x.abs, HandSHeadRun.seenQ qV looseL (importedModules RR.prog.main.body) (fun s => PySem.W.xlAt qV [] s && PySem.W.recOk RR.toRowW.records s) x.abs)) = some (true, PySem.W.openGood qV looseL) := by
  kernel_rfl
set_option maxHeartbeats 0 in
theorem runBa_false (w : World) (os : OsState) : (endW RR.prog (w.withFollow "special-get-raises" false) os).map (fun x => obA 4000 gxa x) = some true := by
  kernel_rfl
set_option maxHeartbeats 0 in
theorem runBb_false (w : World) (os : OsState) : (endW RR.prog (w.withFollow "special-get-raises" false) os).map (fun x => obA 4000 gxb x) = some true := by
  kernel_rfl
set_option maxHeartbeats 0 in
theorem runC_false (w : World) (os : OsState) : (endW RR.prog (w.withFollow "special-get-raises" false) os).map (fun x => obB 4000 fnL tsL x) = some (fnV, tsL.map fun t => some (He.keysIn (w.withFollow "special-get-raises" false).params t.2)) := by
  kernel_rfl
theorem run_false (w : World) : HandSHeadRun.RunEq RR qV hk ob 60000 looseL (w.withFollow "special-get-raises" false) := runEq_of (runA_false w) (runBa_false w) (runBb_false w) (runC_false w)
set_option maxHeartbeats 0 in
theorem runA_true (w : World) (os : OsState) : (endW RR.prog (w.withFollow "special-get-raises" true) os).map (fun x => (HandSHeadRun.looksF RR.prog (PySem.W.boot_heap (w.withFollow "special-get-raises" true).params) x.abs, HandSHeadRun.seenQ qV looseL (importedModules RR.prog.main.body) (fun s => PySem.W.xlAt qV [] s && PySem.W.recOk RR.toRowW.records s) x.abs)) = some (true, PySem.W.openGood qV looseL) := by
  kernel_rfl
set_option maxHeartbeats 0 in
theorem runBa_true (w : World) (os : OsState) : (endW RR.prog (w.withFollow "special-get-raises" true) os).map (fun x => obA 4000 gxa x) = some true := by
  kernel_rfl
set_option maxHeartbeats 0 in
theorem runBb_true (w : World) (os : OsState) : (endW RR.prog (w.withFollow "special-get-raises" true) os).map (fun x => obA 4000 gxb x) = some true := by
  kernel_rfl
set_option maxHeartbeats 0 in
theorem runC_true (w : World) (os : OsState) : (endW RR.prog (w.withFollow "special-get-raises" true) os).map (fun x => obB 4000 fnL tsL x) = some (fnV, tsL.map fun t => some (He.keysIn (w.withFollow "special-get-raises" true).params t.2)) := by
  kernel_rfl
theorem run_true (w : World) : HandSHeadRun.RunEq RR qV hk ob 60000 looseL (w.withFollow "special-get-raises" true) := runEq_of (runA_true w) (runBa_true w) (runBb_true w) (runC_true w)
theorem run (w : World) : HandSHeadRun.RunEq RR qV hk ob 60000 looseL w := PySem.W.byRow2 "special-get-raises" (P := fun w => HandSHeadRun.RunEq RR qV hk ob 60000 looseL w) run_false run_true w
end Lw
namespace Rx
open PySem PySem.Spec PyProof.Rows L2

inductive D where
  | v (x : V)
  | lst (xs : List D)
  | tup (xs : List D)
  | ins (C : Addr) (ns : List Str) (xs : List D)
  | dct (ks : List Key) (xs : List D)
  | dcT (ks : List (List Key)) (xs : List D)
  | exc (C : Addr) (ns : List Str) (xs : List D)
def ExcH (ms : List Addr) (H : Hp) (p C : Addr) (fs : List (Str × V)) : Prop := (fs = [] ∧ H p = some (exo p C none)) ∨ ∃ dx, dx ∉ ms ∧ H p = some (exo p C (some dx)) ∧ H dx = some (exd dx fs)
theorem ExcH.map {ms ms' : List Addr} {H H' : Hp} {p C : Addr} {fs : List (Str × V)} (np : p ∉ ms) (f : ∀ p o, p ∉ ms → H p = some o → p ∉ ms' ∧ H' p = some o) (h : ExcH ms H p C fs) : ExcH ms' H' p C fs := by
  rcases h with ⟨h1, h2⟩ | ⟨dx, h1, h2, h3⟩
  · exact .inl ⟨h1, (f p _ np h2).2⟩
  · exact .inr ⟨dx, (f dx _ h1 h3).1, (f p _ np h2).2, (f dx _ h1 h3).2⟩

mutual
def rep (ms : List Addr) (H : Hp) : D → V → Prop
  | .v x, u => u = x
  | .lst ds, u => ∃ p vs, u = .ref p ∧ p ∉ ms ∧ H p = some (.lst vs) ∧ repL ms H ds vs
  | .tup ds, u => ∃ p vs, u = .ref p ∧ p ∉ ms ∧ H p = some (.tup vs) ∧ repL ms H ds vs
  | .ins C ns ds, u => ∃ p dx vs, u = .ref p ∧ p ∉ ms ∧ H p = some (.ins C dx (ns.zip vs)) ∧ ns.length = vs.length ∧ repL ms H ds vs
  | .dct ks ds, u => ∃ p vs, u = .ref p ∧ p ∉ ms ∧ H p = some (.dK (ks.zip vs)) ∧ ks.length = vs.length ∧ repL ms H ds vs
  | .dcT ks ds, u => ∃ p vs, u = .ref p ∧ p ∉ ms ∧ H p = some (.dT (ks.zip vs)) ∧ ks.length = vs.length ∧ repL ms H ds vs
  | .exc C ns ds, u => ∃ p vs, u = .ref p ∧ p ∉ ms ∧ ExcH ms H p C (ns.zip vs) ∧ ns.length = vs.length ∧ repL ms H ds vs
def repL (ms : List Addr) (H : Hp) : List D → List V → Prop
  | [], vs => vs = []
  | d :: ds, vs => ∃ u us, vs = u :: us ∧ rep ms H d u ∧ repL ms H ds us
end

mutual
theorem rep_map {ms ms' : List Addr} {H H' : Hp} (f : ∀ p o, p ∉ ms → H p = some o → p ∉ ms' ∧ H' p = some o) : ∀ (d : D) (u : V), rep ms H d u → rep ms' H' d u
  | .v x, u, h => by
    simp only [rep] at h ⊢
    exact h
  | .lst ds, u, h => by
    simp only [rep] at h ⊢
    obtain ⟨p, vs, e, n, hp, hl⟩ := h
    exact ⟨p, vs, e, (f p _ n hp).1, (f p _ n hp).2, repL_map f ds vs hl⟩
  | .tup ds, u, h => by
    simp only [rep] at h ⊢
    obtain ⟨p, vs, e, n, hp, hl⟩ := h
    exact ⟨p, vs, e, (f p _ n hp).1, (f p _ n hp).2, repL_map f ds vs hl⟩
  | .ins C ns ds, u, h => by
    simp only [rep] at h ⊢
    obtain ⟨p, dx, vs, e, n, hp, hn, hl⟩ := h
    exact ⟨p, dx, vs, e, (f p _ n hp).1, (f p _ n hp).2, hn, repL_map f ds vs hl⟩
  | .dct ks ds, u, h => by
    simp only [rep] at h ⊢
    obtain ⟨p, vs, e, n, hp, hn, hl⟩ := h
    exact ⟨p, vs, e, (f p _ n hp).1, (f p _ n hp).2, hn, repL_map f ds vs hl⟩
  | .dcT ks ds, u, h => by
    simp only [rep] at h ⊢
    obtain ⟨p, vs, e, n, hp, hn, hl⟩ := h
    exact ⟨p, vs, e, (f p _ n hp).1, (f p _ n hp).2, hn, repL_map f ds vs hl⟩
  | .exc C ns ds, u, h => by
    simp only [rep] at h ⊢
    obtain ⟨p, vs, e, n, hp, hn, hl⟩ := h
    refine ⟨p, vs, e, ?_, hp.map n f, hn, repL_map f ds vs hl⟩
    rcases hp with ⟨_, h2⟩ | ⟨_, _, h2, _⟩
    · exact (f p _ n h2).1
    · exact (f p _ n h2).1
theorem repL_map {ms ms' : List Addr} {H H' : Hp} (f : ∀ p o, p ∉ ms → H p = some o → p ∉ ms' ∧ H' p = some o) : ∀ (ds : List D) (us : List V), repL ms H ds us → repL ms' H' ds us
  | [], us, h => by
    simp only [repL] at h ⊢
    exact h
  | d :: ds, us, h => by
    simp only [repL] at h ⊢
    obtain ⟨u, vs, e, h1, h2⟩ := h
    exact ⟨u, vs, e, rep_map f d u h1, repL_map f ds vs h2⟩
end

theorem repL_len {ms : List Addr} {H : Hp} : ∀ {ds : List D} {vs : List V}, repL ms H ds vs → ds.length = vs.length
  | [], vs, h => by
    simp only [repL] at h
    rw [h]
    rfl
  | d :: ds, vs, h => by
    simp only [repL] at h
    obtain ⟨u, us, e, _, h2⟩ := h
    rw [e]
    show ds.length + 1 = us.length + 1
    rw [repL_len h2]
theorem repL_get {ms : List Addr} {H : Hp} : ∀ {ds : List D} {vs : List V} {j : Nat} {d : D}, repL ms H ds vs → ds[j]? = some d → ∃ v, vs[j]? = some v ∧ rep ms H d v
  | [], vs, j, d, h, e => by simp at e
  | d0 :: ds, vs, 0, d, h, e => by
    simp only [repL] at h
    obtain ⟨u, us, rfl, h1, _⟩ := h
    have e' : d0 = d := Option.some.inj e
    subst e'
    exact ⟨u, rfl, h1⟩
  | d0 :: ds, vs, j + 1, d, h, e => by
    simp only [repL] at h
    obtain ⟨u, us, rfl, _, h2⟩ := h
    exact repL_get (j := j) h2 (by simpa using e)
theorem repL_app {ms : List Addr} {H : Hp} : ∀ {ds es : List D} {vs us : List V}, repL ms H ds vs → repL ms H es us → repL ms H (ds ++ es) (vs ++ us)
  | [], es, vs, us, h, h' => by
    simp only [repL] at h
    rw [h]
    exact h'
  | d :: ds, es, vs, us, h, h' => by
    simp only [repL] at h
    obtain ⟨u, ws, rfl, h1, h2⟩ := h
    show repL ms H (d :: (ds ++ es)) (u :: (ws ++ us))
    simp only [repL]
    exact ⟨u, ws ++ us, rfl, h1, repL_app h2 h'⟩
theorem repL_one {ms : List Addr} {H : Hp} {d : D} {u : V} (h : rep ms H d u) : repL ms H [d] [u] := by
  simp only [repL]
  exact ⟨u, [], rfl, h, rfl⟩
theorem repL_nil {ms : List Addr} {H : Hp} : repL ms H [] [] := by simp only [repL]
theorem repL_cons {ms : List Addr} {H : Hp} {d : D} {u : V} {ds : List D} {us : List V} (h : rep ms H d u) (t : repL ms H ds us) : repL ms H (d :: ds) (u :: us) := by
  simp only [repL]
  exact ⟨u, us, rfl, h, t⟩
theorem rep_v {ms : List Addr} {H : Hp} {x : V} : rep ms H (.v x) x := by simp only [rep]
theorem of_v {ms : List Addr} {H : Hp} {x u : V} (h : rep ms H (.v x) u) : u = x := by
  simp only [rep] at h
  exact h
theorem repL_flat {ms : List Addr} {H : Hp} : ∀ {xs vs : List V}, repL ms H (xs.map D.v) vs ↔ vs = xs
  | [], vs => by simp only [List.map_nil, repL]
  | x :: xs, vs => by
    simp only [List.map_cons, repL]
    constructor
    · rintro ⟨u, us, rfl, h1, h2⟩
      rw [of_v h1, repL_flat.mp h2]
    · rintro rfl
      exact ⟨x, xs, rfl, rep_v, repL_flat.mpr rfl⟩

def PotH (H : Hp) (a : Addr) : Prop := ∃ i j : Int, H a = some (.lst [.int i, .int j]) ∧ j.natAbs < 4294967296
abbrev PEn := Addr × Option Str
abbrev ad (ps : List PEn) : List Addr := ps.map Prod.fst
def EntH (H : Hp) (p : PEn) : Prop := match p.2 with
  | none => PotH H p.1
  | some q => LamX.TabS H p.1 q
theorem ent_ne {H : Hp} {p : PEn} {o : HO} (h : EntH H p) (e : H p.1 = some o) : (∃ xs, o = .lst xs) ∨ ∃ xs, o = .tbl xs := by
  obtain ⟨a, k⟩ := p
  cases k with
  | none =>
    obtain ⟨i, j, h1, _⟩ := h
    rw [h1] at e
    cases e
    exact .inl ⟨_, rfl⟩
  | some q =>
    obtain ⟨xs, h1, _⟩ := h
    rw [h1] at e
    cases e
    exact .inr ⟨_, rfl⟩
theorem ent_some {H : Hp} {p : PEn} (h : EntH H p) : H p.1 ≠ none := fun z => by
  obtain ⟨a, k⟩ := p
  cases k with
  | none =>
    obtain ⟨i, j, h1, _⟩ := h
    rw [z] at h1
    cases h1
  | some q =>
    obtain ⟨xs, h1, _⟩ := h
    rw [z] at h1
    cases h1
theorem ent_stay {H H' : Hp} {p : PEn} (h : EntH H p) (f : ∀ o, H p.1 = some o → H' p.1 = some o) (g : ∀ c q, H c = some (LamX.CodeO c q) → H' c = some (LamX.CodeO c q)) : EntH H' p := by
  obtain ⟨a, k⟩ := p
  cases k with
  | none =>
    obtain ⟨i, j, h1, h2⟩ := h
    exact ⟨i, j, f _ h1, h2⟩
  | some q =>
    obtain ⟨xs, h1, h2, h3⟩ := h
    exact ⟨xs, f _ h1, h2, fun pos cv hc => by
      obtain ⟨c, e1, e2⟩ := h3 pos cv hc
      exact ⟨c, e1, g c q e2⟩⟩
structure Ret (ps : List PEn) (H H' : Hp) : Prop where
  kp : ∀ a o, a ∉ ad ps → H a = some o → H' a = some o
  pot : ∀ a ∈ ps, EntH H' a
  grow : ∀ a, H a ≠ none → H' a ≠ none
abbrev Ext (H H' : Hp) : Prop := Ret [] H H'
theorem Ext.keep {H H' : Hp} (e : Ext H H') {a : Addr} {o : HO} (h : H a = some o) : H' a = some o := e.kp a o (by simp) h
theorem Ext.new {H : Hp} {p : Addr} {o : HO} (np : H p = none) : Ext H (upd H p o) := by
  refine ⟨fun a u _ h => ?_, fun _ h => absurd h List.not_mem_nil, fun a h => ?_⟩
  · rw [upd_ne (ne_of_none h np)]
    exact h
  · by_cases e : a = p
    · rw [e, upd_same]
      exact fun z => nomatch z
    · rw [upd_ne e]
      exact h
structure Wd (ms : List Addr) (ps : List PEn) (cs : List (Addr × List V)) (H0 H : Hp) : Prop where
  kp : ∀ a o, a ∉ ad ps → H0 a = some o → H a = some o
  grow : ∀ a, H0 a ≠ none → H a ≠ none
  tr : ∀ m ∈ ms, H m ≠ none
  pot : ∀ a ∈ ps, EntH H a
  pm : ∀ a ∈ ad ps, a ∈ ms
  cel : ∀ c ∈ cs, H c.1 = some (.lst c.2) ∧ c.1 ∈ ms ∧ c.1 ∉ ad ps ∧ H0 c.1 = none

section
variable {ms : List Addr} {ps ps' : List PEn} {cs : List (Addr × List V)} {H0 H H' : Hp} {d : D} {u : V}
theorem ad_mem {ps ps' : List PEn} (hs : ∀ a ∈ ps', a ∈ ps) {a : Addr} (h : a ∈ ad ps') : a ∈ ad ps := by
  obtain ⟨p, hp, rfl⟩ := List.mem_map.mp h
  exact List.mem_map.mpr ⟨p, hs p hp, rfl⟩
theorem mem_ad {ps : List PEn} {p : PEn} (h : p ∈ ps) : p.1 ∈ ad ps := List.mem_map.mpr ⟨p, h, rfl⟩
theorem Wd.ret (hs : ∀ a ∈ ps', a ∈ ps) (hu : ∀ p ∈ ps, p.1 ∈ ad ps' → p ∈ ps') (w : Wd ms ps cs H0 H) (e : Ret ps' H H') : Wd ms ps cs H0 H' where
  kp := fun a o n h => e.kp a o (fun z => n (ad_mem hs z)) (w.kp a o n h)
  grow := fun a h => e.grow a (w.grow a h)
  tr := fun m h => e.grow m (w.tr m h)
  pot := fun p h => by
    by_cases z : p ∈ ps'
    · exact e.pot p z
    · refine ent_stay (w.pot p h) (fun o ho => e.kp _ o (fun y => z (hu p h y)) ho) fun c q hc => e.kp _ _ (fun y => ?_) hc
      obtain ⟨p2, h2, e2⟩ := List.mem_map.mp y
      have := w.pot p2 (hs p2 h2)
      rw [← e2] at hc
      rcases ent_ne this hc with ⟨xs, hx⟩ | ⟨xs, hx⟩ <;> cases hx
  pm := w.pm
  cel := fun c h => by
    obtain ⟨h1, h2, h3, h4⟩ := w.cel c h
    exact ⟨e.kp _ _ (fun z => h3 (ad_mem hs z)) h1, h2, h3, h4⟩
theorem Wd.ret0 (w : Wd ms ps cs H0 H) (e : Ret [] H H') : Wd ms ps cs H0 H' := w.ret (fun _ h => absurd h List.not_mem_nil) (fun _ _ h => absurd h List.not_mem_nil) e
theorem Wd.retP (w : Wd ms ps cs H0 H) (e : Ret ps H H') : Wd ms ps cs H0 H' := w.ret (fun _ h => h) (fun _ h _ => h) e
theorem Wd.enter0 (w : Wd ms ps cs H0 H) : Wd ms [] [] H H := ⟨fun _ _ _ h => h, fun _ h => h, w.tr, fun _ h => absurd h List.not_mem_nil, fun _ h => absurd h List.not_mem_nil, fun _ h => absurd h List.not_mem_nil⟩
theorem Wd.enterP (w : Wd ms ps cs H0 H) : Wd ms ps [] H H := ⟨fun _ _ _ h => h, fun _ h => h, w.tr, w.pot, w.pm, fun _ h => absurd h List.not_mem_nil⟩
theorem Wd.out (w : Wd ms ps cs H0 H) : Ret ps H0 H := ⟨w.kp, w.pot, w.grow⟩
theorem rep_ret (w : Wd ms ps cs H0 H) (e : Ret ps H H') (h : rep ms H d u) : rep ms H' d u := rep_map (fun p o n hp => ⟨n, e.kp p o (fun z => n (w.pm p z)) hp⟩) d u h
theorem rep_ext (e : Ret [] H H') (h : rep ms H d u) : rep ms H' d u := rep_map (fun p o n hp => ⟨n, e.kp p o (by simp) hp⟩) d u h
theorem repL_ext {ds : List D} {us : List V} (e : Ret [] H H') (h : repL ms H ds us) : repL ms H' ds us := repL_map (fun p o n hp => ⟨n, e.kp p o (by simp) hp⟩) ds us h
theorem Wd.cell {l : Addr} {xs : List V} (w : Wd ms ps cs H0 H) (nl : H l = none) : Wd (l :: ms) ps ((l, xs) :: cs) H0 (upd H l (.lst xs)) := by
  have e : Ext H (upd H l (.lst xs)) := Ext.new nl
  have w1 := w.ret0 e
  refine ⟨w1.kp, w1.grow, fun m h => ?_, w1.pot, fun a h => List.mem_cons_of_mem _ (w.pm a h), fun c h => ?_⟩
  · rcases List.mem_cons.mp h with rfl | h
    · rw [upd_same]
      exact fun z => nomatch z
    · exact w1.tr m h
  · rcases List.mem_cons.mp h with rfl | h
    · refine ⟨upd_same, List.mem_cons_self, fun z => ?_, ?_⟩
      · obtain ⟨p, hp, e2⟩ := List.mem_map.mp z
        exact ent_some (w.pot p hp) (by rw [e2]; exact nl)
      · show H0 l = none
        cases q : H0 l with
        | none => rfl
        | some o => exact absurd nl (w.grow l (by rw [q]; exact fun z => nomatch z))
    · obtain ⟨h1, h2, h3, h4⟩ := w1.cel c h
      exact ⟨h1, List.mem_cons_of_mem _ h2, h3, h4⟩
theorem rep_cell {l : Addr} {o : HO} (nl : H l = none) (h : rep ms H d u) : rep (l :: ms) (upd H l o) d u := by
  refine rep_map (fun p o n hp => ?_) d u h
  have ne : p ≠ l := ne_of_none hp nl
  refine ⟨fun z => ?_, by rw [upd_ne ne]; exact hp⟩
  rcases List.mem_cons.mp z with z | z
  · exact ne z
  · exact n z
theorem rep_put {l : Addr} {o : HO} (lm : l ∈ ms) (h : rep ms H d u) : rep ms (upd H l o) d u :=
  rep_map (fun p o n hp => ⟨n, by rw [upd_ne (fun z => n (by rw [z]; exact lm))]; exact hp⟩) d u h
theorem repL_put {ds : List D} {us : List V} {l : Addr} {o : HO} (lm : l ∈ ms) (h : repL ms H ds us) : repL ms (upd H l o) ds us :=
  repL_map (fun p o n hp => ⟨n, by rw [upd_ne (fun z => n (by rw [z]; exact lm))]; exact hp⟩) ds us h
theorem Wd.froze {l : Addr} {xs : List V} (w : Wd (l :: ms) ps ((l, xs) :: cs) H0 H) (hp : ∀ a ∈ ad ps, a ∈ ms) (hc : ∀ c ∈ cs, c.1 ∈ ms) : Wd ms ps cs H0 H :=
  ⟨w.kp, w.grow, fun m h => w.tr m (List.mem_cons_of_mem _ h), w.pot, hp, fun c h => by
    obtain ⟨h1, _, h3, h4⟩ := w.cel c (List.mem_cons_of_mem _ h)
    exact ⟨h1, hc c h, h3, h4⟩⟩
theorem repL_weak {ds : List D} {us : List V} {l : Addr} (h : repL (l :: ms) H ds us) : repL ms H ds us := repL_map (fun p o n hp => ⟨fun z => n (List.mem_cons_of_mem _ z), hp⟩) ds us h
end

def upE (t : TE) : TE := fun σ H Q => ∃ Q' : VK, t σ H Q' ∧ ∀ v H', Q' v H' → Q v H'
section
variable {X : Cx}
theorem pe_up {e : Expr} {t : TE} (h : PE X e t) : PE X e (upE t) := ⟨fun pins s σ H Q I ⟨Q', hq, m⟩ => thn (h.run pins s σ H Q' I hq) fun u s' ⟨v, H', I', r, q⟩ => ⟨v, H', I', r, m v H' q⟩⟩
end

def mapC {α β : Type} (body : α → (β → Prop) → Prop) : List α → List β → (List β → Prop) → Prop
  | [], acc, k => k acc
  | x :: xs, acc, k => body x fun y => mapC body xs (acc ++ [y]) k
def forC {α S : Type} (body : α → S → (S → Prop) → Prop) : List α → S → (S → Prop) → Prop
  | [], s, k => k s
  | x :: xs, s, k => body x s fun s' => forC body xs s' k
def rangeI (lo hi : Int) : List Int := (List.range (hi - lo).toNat).map fun i => lo + ((i : Nat) : Int)
theorem rangeI_len {lo hi : Int} : (rangeI lo hi).length = (hi - lo).toNat := by simp [rangeI]
theorem rangeI_get {lo hi : Int} {i : Nat} (h : i < (hi - lo).toNat) : (rangeI lo hi)[i]? = some (lo + (i : Int)) := by
  simp [rangeI, List.getElem?_map, List.getElem?_range h]
theorem drop_cons' {α : Type} {xs : List α} {i : Nat} {x : α} (h : xs[i]? = some x) : xs.drop i = x :: xs.drop (i + 1) := by
  obtain ⟨h1, h2⟩ := List.getElem?_eq_some_iff.mp h
  rw [List.drop_eq_getElem_cons h1, h2]

def Keep (ms : List Addr) (H H' : Hp) : Prop := ∀ a o, a ∉ ms → H a = some o → H' a = some o
section
variable {ms : List Addr} {ps : List PEn} {cs : List (Addr × List V)} {H0 H H1 H' : Hp} {d : D} {u : V}
theorem Keep.refl : Keep ms H H := fun _ _ _ h => h
theorem keep_ret (w : Wd ms ps cs H0 H) (e : Ret ps H H') (k : Keep ms H1 H) : Keep ms H1 H' := fun a o n h => e.kp a o (fun z => n (w.pm a z)) (k a o n h)
theorem keep_ext (e : Ret [] H H') (k : Keep ms H1 H) : Keep ms H1 H' := fun a o n h => e.kp a o (by simp) (k a o n h)
theorem keep_cell {l : Addr} {o : HO} (nl : H l = none) (k : Keep ms H1 H) : Keep (l :: ms) H1 (upd H l o) := fun a u n h => by
  rw [upd_ne (fun z => n (by rw [z]; exact List.mem_cons_self))]
  exact k a u (fun z => n (List.mem_cons_of_mem _ z)) h
theorem keep_put {l : Addr} {o : HO} (lm : l ∈ ms) (k : Keep ms H1 H) : Keep ms H1 (upd H l o) := fun a u n h => by
  rw [upd_ne (fun z => n (by rw [z]; exact lm))]
  exact k a u n h
theorem rep_keep (k : Keep ms H H') (h : rep ms H d u) : rep ms H' d u := rep_map (fun p o n hp => ⟨n, k p o n hp⟩) d u h
theorem repL_keep {ds : List D} {us : List V} (k : Keep ms H H') (h : repL ms H ds us) : repL ms H' ds us := repL_map (fun p o n hp => ⟨n, k p o n hp⟩) ds us h
end

theorem ite3 {c : Prop} [Decidable c] {A B P R : Prop} (h : if c then A else B) (h1 : A → P) (h2 : B → R) : if c then P else R := by
  by_cases q : c
  · rw [if_pos q] at h ⊢
    exact h1 h
  · rw [if_neg q] at h ⊢
    exact h2 h

section
variable {K : PySem.W.Frag} {ms : List Addr} {ps : List PEn} {cs : List (Addr × List V)} {H0 H : Hp} {d : D} {u x : V}
theorem rep_ixL {α : Type} {e : α → D} {xs : List α} {i : Int} {Q : VK} (h : rep ms H (.lst (xs.map e)) x) (h0 : 0 ≤ i) (hi : i.toNat < xs.length) (k : ∀ v, rep ms H (e (xs[i.toNat]'hi)) v → Q v H) : rIxL K x (.int i) H Q := by
  simp only [rep] at h
  obtain ⟨p, vs, e', _, hp, hr⟩ := h
  obtain ⟨v, hv, rv⟩ := repL_get (d := e (xs[i.toNat]'hi)) hr (by rw [List.getElem?_map, List.getElem?_eq_getElem hi]; rfl)
  refine ⟨p, vs, i, v, e', rfl, .inl (.inl hp), at_of (j := i.toNat) (by omega) hv, k v rv⟩
theorem rep_lenL {α : Type} {e : α → D} {xs : List α} {P : Nat → Prop} (h : rep ms H (.lst (xs.map e)) x) (k : P xs.length) : ∃ y n, [x] = [y] ∧ LenV K y H n ∧ P n := by
  simp only [rep] at h
  obtain ⟨p, vs, e', _, hp, hr⟩ := h
  subst e'
  have hl := repL_len hr
  rw [List.length_map] at hl
  exact ⟨_, xs.length, rfl, .inl ⟨vs, .inl (.inl hp), hl⟩, k⟩
theorem rep_iter {ds : List D} {P : Addr → Prop} (h : rep ms H (.lst ds) x) (k : ∀ a xs, x = .ref a → a ∉ ms → H a = some (.lst xs) → repL ms H ds xs → P a) : ∃ a, x = .ref a ∧ (∃ xs, SqL K H a xs) ∧ P a := by
  simp only [rep] at h
  obtain ⟨p, vs, e, n, hp, hr⟩ := h
  exact ⟨p, e, ⟨vs, .inl (.inl hp)⟩, k p vs e n hp hr⟩
theorem rep_gtup {ds : List D} {n : Nat} {Q : L2.St → Hp → Prop} {t : TGs} {σ : L2.St} (h : rep ms H (.tup ds) x) (hn : ds.length = n) (k : ∀ vs, repL ms H ds vs → t vs σ H Q) : ∃ a xs, x = .ref a ∧ SqT K H a xs ∧ xs.length = n ∧ t xs σ H Q := by
  simp only [rep] at h
  obtain ⟨p, vs, e, _, hp, hr⟩ := h
  exact ⟨p, vs, e, .inl (.inl hp), by rw [← repL_len hr]; exact hn, k vs hr⟩
theorem rep_tup_mk {p : Addr} {ds : List D} {vs : List V} (w : Wd ms ps cs H0 H) (np : H p = none) (e : Ext H H') (hp : H' p = some (.tup vs)) (hr : repL ms H ds vs) : rep ms H' (.tup ds) (.ref p) := by
  simp only [rep]
  exact ⟨p, vs, rfl, fun z => w.tr p z np, hp, repL_ext e hr⟩
theorem rep_lst_mk {p : Addr} {ds : List D} {vs : List V} (w : Wd ms ps cs H0 H) (np : H p = none) (e : Ext H H') (hp : H' p = some (.lst vs)) (hr : repL ms H ds vs) : rep ms H' (.lst ds) (.ref p) := by
  simp only [rep]
  exact ⟨p, vs, rfl, fun z => w.tr p z np, hp, repL_ext e hr⟩
end

section
variable {α β : Type} {K : PySem.W.Frag} {ms : List Addr} {ps : List PEn} {cs : List (Addr × List V)} {H0 H1 : Hp} {g : TG} {tt : TT} {te : TE} {vl : List Nat} {σ : L2.St} {Qd : Hp → Prop}
structure Trn (ms : List Addr) (ps : List PEn) (cs : List (Addr × List V)) (H0 H1 : Hp) (L : Addr) (eb : β → D) (n : Nat) (ys : List β) (vs : List V) (H : Hp) : Prop where
  w : Wd (L :: ms) ps ((L, vs) :: cs) H0 H
  k : Keep (L :: ms) H1 H
  r : repL (L :: ms) H (ys.map eb) vs
  n : ys.length ≤ n
theorem Trn.start {L : Addr} {eb : β → D} (w : Wd ms ps cs H0 H1) (nl : H1 L = none) : Trn ms ps cs H0 H1 L eb 0 [] [] (upd H1 L (.lst [])) :=
  ⟨w.cell nl, fun a o n h => by rw [upd_ne (ne_of_none h nl)]; exact h, repL_nil, Nat.le_refl _⟩
theorem Trn.done {L : Addr} {eb : β → D} {n : Nat} {ys : List β} {vs : List V} {H : Hp} (w : Wd ms ps cs H0 H1) (nl : H1 L = none) (t : Trn ms ps cs H0 H1 L eb n ys vs H) : Wd ms ps cs H0 H ∧ Keep ms H1 H ∧ rep ms H (.lst (ys.map eb)) (.ref L) := by
  refine ⟨t.w.froze w.pm fun c h => (w.cel c h).2.1, fun a o n h => t.k a o (fun z => ?_) h, ?_⟩
  · rcases List.mem_cons.mp z with z | z
    · rw [z, nl] at h
      cases h
    · exact n z
  · simp only [rep]
    exact ⟨L, vs, rfl, fun z => w.tr L z nl, (t.w.cel _ List.mem_cons_self).1, repL_weak t.r⟩

end

section
variable {α β : Type} {K : PySem.W.Frag} {ms : List Addr} {ps : List PEn} {cs : List (Addr × List V)} {H0 H1 : Hp} {g : TG} {tt : TT} {te : TE} {vl : List Nat} {σ : L2.St} {Qd : Hp → Prop}
theorem Trn.skip {L : Addr} {eb : β → D} {n : Nat} {ys : List β} {vs : List V} {H : Hp} (t : Trn ms ps cs H0 H1 L eb n ys vs H) : Trn ms ps cs H0 H1 L eb (n + 1) ys vs H := ⟨t.w, t.k, t.r, Nat.le_succ_of_le t.n⟩
end

section
variable {α S : Type} {K : PySem.W.Frag} {ms : List Addr} {ps : List PEn} {H0 H1 : Hp} {g : TG} {tb : TS} {D' : Ends} {σ : L2.St} {cs : S → List (Addr × List V)}
end

section
variable {K : PySem.W.Frag} {ms : List Addr} {H : Hp} {d : D} {u x y : V}
theorem repL_uncons {ds : List D} {vs : List V} (h : repL ms H (d :: ds) vs) : ∃ u us, vs = u :: us ∧ rep ms H d u ∧ repL ms H ds us := by
  simp only [repL] at h
  exact h
theorem repL_empty {vs : List V} (h : repL ms H [] vs) : vs = [] := by
  simp only [repL] at h
  exact h
mutual
def pyOf : D → PyData
  | .v .non => .none
  | .v (.bl b) => .bool b
  | .v (.int i) => .int i
  | .v (.str z) => .str z
  | .v _ => .none
  | .lst ds => .list (pyL ds)
  | .tup ds => .tuple (pyL ds)
  | .ins _ _ _ => .none
  | .dct _ _ => .none
  | .dcT _ _ => .none
  | .exc _ _ _ => .none
def pyL : List D → List PyData
  | [] => []
  | d :: ds => pyOf d :: pyL ds
def plainD : D → Bool
  | .v .non => true
  | .v (.bl _) => true
  | .v (.int _) => true
  | .v (.str _) => true
  | .v _ => false
  | .lst ds => plainL ds
  | .tup ds => plainL ds
  | .ins _ _ _ => false
  | .dct _ _ => false
  | .dcT _ _ => false
  | .exc _ _ _ => false
def plainL : List D → Bool
  | [] => true
  | d :: ds => plainD d && plainL ds
end
mutual
theorem dp_of : ∀ (d : D) (u : V), plainD d = true → rep ms H d u → Dp K H u (pyOf d)
  | .v x, u, p, h => by
    have e := of_v h
    subst e
    cases u <;> simp only [pyOf, plainD] at p ⊢ <;> first | exact .non | exact .bl _ | exact .int _ | exact .str _ | cases p
  | .lst ds, u, p, h => by
    simp only [rep] at h
    obtain ⟨a, vs, e, _, hp, hr⟩ := h
    subst e
    simp only [pyOf, plainD] at p ⊢
    exact .lst (.inl (.inl hp)) (dpL_of ds vs p hr)
  | .tup ds, u, p, h => by
    simp only [rep] at h
    obtain ⟨a, vs, e, _, hp, hr⟩ := h
    subst e
    simp only [pyOf, plainD] at p ⊢
    exact .tup (.inl (.inl hp)) (dpL_of ds vs p hr)
  | .ins _ _ _, u, p, h => by
    simp only [plainD] at p
    cases p
  | .dct _ _, u, p, h => by
    simp only [plainD] at p
    cases p
  | .dcT _ _, u, p, h => by
    simp only [plainD] at p
    cases p
  | .exc _ _ _, u, p, h => by
    simp only [plainD] at p
    cases p
theorem dpL_of : ∀ (ds : List D) (vs : List V), plainL ds = true → repL ms H ds vs → DpAll K H vs (pyL ds)
  | [], vs, p, h => by
    have e := repL_empty h
    subst e
    simp only [pyL]
    exact .nil
  | d :: ds, vs, p, h => by
    obtain ⟨u, us, e, h1, h2⟩ := repL_uncons h
    subst e
    simp only [plainL, Bool.and_eq_true] at p
    simp only [pyL]
    exact .cons (dp_of d u p.1 h1) (dpL_of ds us p.2 h2)
end
theorem rep_neD {d e : D} {Q : VK} (h1 : rep ms H d x) (h2 : rep ms H e y) (p1 : plainD d = true) (p2 : plainD e = true) (s1 : SeqAt.shaped (pyOf d) = true) (s2 : SeqAt.shaped (pyOf e) = true) (k : Q (.bl (!PyData.eqv (pyOf d) (pyOf e))) H) : rNeD K x y H Q :=
  ⟨_, _, dp_of d x p1 h1, dp_of e y p2 h2, s1, s2, k⟩
end

section
variable {ms : List Addr} {H H' H1 : Hp} {d : D} {u : V} {l : Addr}
theorem Keep.trans (a : Keep ms H1 H) (b : Keep ms H H') : Keep ms H1 H' := fun x o n h => b x o n (a x o n h)
theorem Keep.new (k : Keep ms H1 H) : Keep (l :: ms) H1 H := fun x o n h => k x o (fun z => n (List.mem_cons_of_mem _ z)) h
theorem rep_new (nl : H l = none) (h : rep ms H d u) : rep (l :: ms) H d u := rep_map (fun p o n hp => ⟨fun z => by
  rcases List.mem_cons.mp z with z | z
  · exact ne_of_none hp nl z
  · exact n z, hp⟩) d u h
end

section
variable {X : Cx} {CX : CXT} {k : Nat} {f C : Addr} {fd : FuncData} {ps ks : List Str} {sp : Sp} {E : XK} {m : Str} {apos pos : Pos} {o : Expr} {kws : List Keyword} {ta : TE} {tk : TA} {g : List Value → List Value → List Value} {gV : List V → List V → List V}
end
end Rx
namespace Rx
open PySem PySem.Spec PyProof.Rows L2
theorem vals_getD : ∀ {zs : List V} {ws : List Value}, Vals zs ws → ∀ j : Nat, RelV (zs.getD j .non) (ws.getD j .none)
  | _, _, .nil, _ => rfl
  | _, _, .cons r _, 0 => r
  | _, _, .cons _ t, j + 1 => vals_getD t j
theorem tyes_of {σ : L2.St} {H : Hp} {A B : Hp → Prop} (h : A H) : tYes σ H fun b H3 => if b = true then A H3 else B H3 := by
  show (if true = true then A H else B H)
  rw [if_pos rfl]
  exact h
theorem Ret.keep {H H' : Hp} (e : Ret [] H H') {a : Addr} {o : HO} (h : H a = some o) : H' a = some o := e.kp a o (by simp) h
end Rx
namespace Rx
open PySem PySem.Spec PyProof.Rows L2
section
variable {X : Cx}
end

structure OwnEq (K : PySem.W.Frag) (C f : Addr) : Prop where
  hs : PySem.W.findIn K (.ref C) "__eq__" = some (some (.ref f))
  hf : PySem.W.isFn K (.ref f) = true
section
variable {K : PySem.W.Frag} {ms : List Addr} {ps : List PEn} {cs : List (Addr × List V)} {H H0 H1 : Hp} {d : D} {u x y : V}
theorem rep_cat {α : Type} {xs ys : List α} {e : α → D} {Q : VK} (w : Wd ms ps cs H0 H) (h1 : rep ms H (.lst (xs.map e)) x) (h2 : rep ms H (.lst (ys.map e)) y) (hz : xs.length + ys.length ≤ sizeLine)
    (k : ∀ p H', Ret [] H H' → rep ms H' (.lst ((xs ++ ys).map e)) (.ref p) → Q (.ref p) H') : rCat x y H Q := by
  simp only [rep] at h1 h2
  obtain ⟨p, vs, rfl, np, hp, r1⟩ := h1
  obtain ⟨q, us, rfl, nq, hq, r2⟩ := h2
  have l1 := repL_len r1
  have l2 := repL_len r2
  rw [List.length_map] at l1 l2
  refine ⟨p, q, vs, us, rfl, rfl, hp, hq, by rw [← l1, ← l2]; exact hz, fun a na => ?_⟩
  have ee : Ret [] H (upd H a (.lst (vs ++ us))) := Ext.new na
  refine k a _ ee ?_
  simp only [rep]
  refine ⟨a, vs ++ us, rfl, fun z => w.tr a z na, upd_same, ?_⟩
  rw [List.map_append]
  exact repL_app (repL_ext ee r1) (repL_ext ee r2)
structure IsC (K : PySem.W.Frag) (C : Addr) : Prop where
  cl : Cls K C
  ha : PySem.W.findIn K (.ref C) "__class__" = some (some (.builtin "object.__class__"))
  hn : PySem.W.specialIn K (.builtin "object.__class__") "__get__" = some (some (.builtin "getset_descriptor.__get__"))
  tk : PySem.W.takesIn K (.builtin "object.__class__") = some true
  hm : PySem.W.mroIn K C (.type "object") = some true
end
section
variable {β : Type} {K : PySem.W.Frag} {ms : List Addr} {ps : List PEn} {cs : List (Addr × List V)} {H0 H1 : Hp} {g : TG} {tt : TT} {te : TE} {vl : List Nat} {σ : L2.St} {Qd : Hp → Prop}
end
section
variable {M : Model} {prog : Program} {w : World} {A : Around} {E : Value → Shared → Prop} {s : Shared} {K : PySem.W.Frag} {x y C : Addr} {ox : Obj} {od : Option Obj}
end
structure OwnNe (K : PySem.W.Frag) (C : Addr) : Prop where
  hne : PySem.W.findIn K (.ref C) "__ne__" = some (some (.builtin "object.__ne__"))
  hm : PySem.W.mroIn K C (.type "object") = some true
mutual
def noL : D → Bool
  | .v _ => true
  | .lst _ => false
  | .tup ds => noLs ds
  | .ins _ _ ds => noLs ds
  | .dct _ ds => noLs ds
  | .dcT _ ds => noLs ds
  | .exc _ _ _ => false
def noLs : List D → Bool
  | [] => true
  | d :: ds => noL d && noLs ds
end
section
variable {ms : List Addr} {ps : List PEn} {cs : List (Addr × List V)} {H0 H H' : Hp} {L : Addr} {vs : List V}
mutual
theorem rep_lift0 (hL : H L = some (.lst vs)) : ∀ (d : D) (u : V), noL d = true → rep ms H d u → rep (L :: ms) H d u
  | .v x, u, _, h => by
    simp only [rep] at h ⊢
    exact h
  | .lst ds, u, n, h => by
    simp only [noL] at n
    cases n
  | .tup ds, u, n, h => by
    simp only [noL] at n
    simp only [rep] at h ⊢
    obtain ⟨p, us, e, np, hp, hl⟩ := h
    refine ⟨p, us, e, fun z => ?_, hp, repL_lift0 hL ds us n hl⟩
    rcases List.mem_cons.mp z with z | z
    · rw [z, hL] at hp
      cases hp
    · exact np z
  | .ins C ns ds, u, n, h => by
    simp only [noL] at n
    simp only [rep] at h ⊢
    obtain ⟨p, dx, us, e, np, hp, hn, hl⟩ := h
    refine ⟨p, dx, us, e, fun z => ?_, hp, hn, repL_lift0 hL ds us n hl⟩
    rcases List.mem_cons.mp z with z | z
    · rw [z, hL] at hp
      cases hp
    · exact np z
  | .dct ks ds, u, n, h => by
    simp only [noL] at n
    simp only [rep] at h ⊢
    obtain ⟨p, us, e, np, hp, hn, hl⟩ := h
    refine ⟨p, us, e, fun z => ?_, hp, hn, repL_lift0 hL ds us n hl⟩
    rcases List.mem_cons.mp z with z | z
    · rw [z, hL] at hp
      cases hp
    · exact np z
  | .dcT ks ds, u, n, h => by
    simp only [noL] at n
    simp only [rep] at h ⊢
    obtain ⟨p, us, e, np, hp, hn, hl⟩ := h
    refine ⟨p, us, e, fun z => ?_, hp, hn, repL_lift0 hL ds us n hl⟩
    rcases List.mem_cons.mp z with z | z
    · rw [z, hL] at hp
      cases hp
    · exact np z
  | .exc _ _ _, u, n, h => by
    simp only [noL] at n
    cases n
theorem repL_lift0 (hL : H L = some (.lst vs)) : ∀ (ds : List D) (us : List V), noLs ds = true → repL ms H ds us → repL (L :: ms) H ds us
  | [], us, _, h => by
    simp only [repL] at h ⊢
    exact h
  | d :: ds, us, n, h => by
    simp only [noLs, Bool.and_eq_true] at n
    simp only [repL] at h ⊢
    obtain ⟨u, ws, e, h1, h2⟩ := h
    exact ⟨u, ws, e, rep_lift0 hL d u n.1 h1, repL_lift0 hL ds ws n.2 h2⟩
end
structure Mut (ms : List Addr) (ps : List PEn) (cs : List (Addr × List V)) (H0 H : Hp) (L : Addr) (ds : List D) : Prop where
  hp : L ∉ ad ps
  h0 : H0 L = none
  hc : ∀ c ∈ cs, c.1 ≠ L
  nm : L ∉ ms
  val : ∃ vs, H L = some (.lst vs) ∧ repL (L :: ms) H ds vs
variable {ds : List D} {d : D} {u : V}
end
section
variable {ms : List Addr} {ps : List PEn} {cs : List (Addr × List V)} {H0 H H1 H' : Hp} {L : Addr} {K : PySem.W.Frag} {x : V}
theorem keep_none {w : Wd ms ps cs H0 H} (nl : H L = none) (k : Keep ms H1 H) : H1 L = none := by
  have nL : L ∉ ms := fun z => w.tr L z nl
  cases q : H1 L with
  | none => rfl
  | some o =>
    have := k L o nL q
    rw [nl] at this
    cases this
end
theorem turn_long {P : Program} {w : World} {K : PySem.W.Frag} {tg : Expr} (it : Addr) (lo : Int) (n : Nat) : Turn P w K tg (Itr lo n) [it] it (fun i h => IsLongIter h it (lo + (i : Nat) * 1) ((n : Int) - (i : Nat)) 1) where
  mem := by simp
  obj := fun i h st b hb => by
    have e : b = it := by simpa using hb
    subst e
    exact ⟨_, st, fun v z => by
      have z' : Data.fields _ = Data.cell v := z
      cases z'⟩
  keep := fun i h h' st k => k it (by simp) _ st
  item := by
    intro X hP hw hK hc i pins s σ H E I hf st hg
    subst hP hw hK
    obtain ⟨f0, f1, f2, f3, f4, f5⟩ := hf it (by simp)
    have W := Walks.longrange (prog := X.prog) (w := X.w) (I.ok.hd hc) it lo 1 n
    refine W.item i s _ _ hg st fun v h' tk hv st' kk => ?_
    obtain ⟨t, rfl⟩ := hv
    have I1 : Inv X pins σ H { s with heap := h', toks := tk } := I.turned (fun b o hb e => kk b o (by simpa using hb) e) f0 f1 f3 f4 f5
    refine ⟨_, rfl, go_of (s := { s with heap := h', toks := tk }) (n := "longrange_iterator") st' rfl rfl (by decide) ⟨.int (lo + i), H, I1, ⟨t, ?_⟩, ⟨rfl, rfl⟩, st', fun b hb => (hf b hb).1⟩⟩
    rw [Int.mul_one]
  done := by
    intro X hP hw hK hc i pins s σ H E I hf st hg
    subst hP hw hK
    obtain ⟨f0, f1, f2, f3, f4, f5⟩ := hf it (by simp)
    exact wpAny_pyNext_long_end (I.ok.hd hc) st (by have : n ≤ i := hg; omega) fun h' eb => ⟨rfl, I.turned (t' := s.toks) (fun b o hb e => eb b o hb e) f0 f1 f3 f4 f5⟩
  self := fun _ _ _ _ _ st h => wpAny_pyIter_longiter st h
section
variable {X : Cx} {tg : Expr}
theorem range_itW {pins : List (Addr × Obj)} {σ : L2.St} {H : Hp} {s : Shared} {R : It → Hp → Prop} {E : Value → Shared → Prop} {lo hi : Int} {t u v : Tok} {tk : Nat} (I : Inv X pins σ H s)
    (q : R (Itr lo (hi - lo).toNat) H) : wpAny (model X.prog X.w) X.A (pyIter (.ref s.heap.objs.size)) (PIE X pins σ tg R) E { s with heap := s.heap.push { cls := .type "range", data := .fields #[.int lo t, .int hi u, .int 1 v] }, toks := tk } := by
  have I1 : Inv X pins σ H { s with heap := s.heap.push { cls := .type "range", data := .fields #[.int lo t, .int hi u, .int 1 v] }, toks := tk } := I.kept fun b o e => Heap.get?_push_of_some _ e
  have e1 : lo + ((0 : Nat) : Int) * 1 = lo := by simp
  have e2 : (((hi - lo).toNat : Nat) : Int) - ((0 : Nat) : Int) = Builtin.Range.rangeSize lo hi 1 := by rw [rangeSize_one]; split <;> omega
  cases hs : Builtin.Range.small lo hi 1 with
  | true =>
    refine wpAny_pyIter_range (IsRange.new ..) hs ?_
    refine ⟨(s.heap.push { cls := .type "range", data := .fields #[.int lo t, .int hi u, .int 1 v] }).objs.size, [(s.heap.push { cls := .type "range", data := .fields #[.int lo t, .int hi u, .int 1 v] }).objs.size], _, _, H, rfl,
      I1.kept (t' := tk) fun b o e => Heap.get?_push_of_some _ e, turn_range _ lo (hi - lo).toNat, ?_, fun b hb => ?_, q⟩
    · show IsRangeIter _ _ (lo + ((0 : Nat) : Int) * 1) ((((hi - lo).toNat : Nat) : Int) - ((0 : Nat) : Int)) 1
      rw [e1, e2]
      exact Heap.get?_push_size _ rfl
    · have e : b = (s.heap.push { cls := .type "range", data := .fields #[.int lo t, .int hi u, .int 1 v] }).objs.size := by simpa using hb
      subst e
      exact I1.fpOk (Nat.le_refl _) (I1.hok.fresh (Nat.le_refl _))
  | false =>
    refine wpAny_pyIter_longrange (IsRange.new ..) hs ?_
    refine ⟨(s.heap.push { cls := .type "range", data := .fields #[.int lo t, .int hi u, .int 1 v] }).objs.size, [(s.heap.push { cls := .type "range", data := .fields #[.int lo t, .int hi u, .int 1 v] }).objs.size], _, _, H, rfl,
      I1.kept (t' := tk) fun b o e => Heap.get?_push_of_some _ e, turn_long _ lo (hi - lo).toNat, ?_, fun b hb => ?_, q⟩
    · show IsLongIter _ _ (lo + ((0 : Nat) : Int) * 1) ((((hi - lo).toNat : Nat) : Int) - ((0 : Nat) : Int)) 1
      rw [e1, e2]
      exact Heap.get?_push_size _ rfl
    · have e : b = (s.heap.push { cls := .type "range", data := .fields #[.int lo t, .int hi u, .int 1 v] }).objs.size := by simpa using hb
      subst e
      exact I1.fpOk (Nat.le_refl _) (I1.hok.fresh (Nat.le_refl _))
def iRngW1 (ta : TA) : TI := fun σ H R => ta σ H fun vs H1 => ∃ j : Int, vs = [.int j] ∧ R (Itr 0 j.toNat) H1
theorem pi_rangeW1 {a : Expr} {ta : TA} {p pos : Pos} (hg : Gl X "range") (hm : X.mg "range" = none) (ha : PA X [a] ta) (hs : starEach [a] X.env = [(false, eval a X.env)] := by rfl) : PI X tg (.Call (.Name "range" p) [a] [] pos) (iRngW1 ta) := by
  refine ⟨fun pins s σ H R I h => ?_⟩
  refine Call_ (ld_blt I hg hm boot_range (PyProof.Rows.callWith_type1 (thn (ha.run pos pins s σ H _ I h) fun us s1 ⟨vs, H1, I1, r1, q1⟩ => ?_) hs rfl))
  obtain ⟨j, e, q⟩ := q1
  subst e
  cases r1 with
  | cons r rr =>
    cases rr
    obtain ⟨t, rfl⟩ := r
    exact call_range_1 (range_itW I1 (by simpa using q))
end
end Rx
namespace Rx
open PySem PySem.Spec PyProof.Rows L2
structure FnG (P : Program) (w : World) (K : PySem.W.Frag) (mg : Str → Option Value) (base : Heap) (k : Nat) (f : Addr) (fd : FuncData) (ps : List Str) (sp : Sp) : Prop where
  len : ∀ vs H Q E, sp vs H Q E → vs.length = ps.length
  run : ∀ (A : Around), A.guards = some [] → Room k A → ∀ (outer : List Env) (s : Shared) (H : Hp) (args : Args) (us : List Value) (vs : List V) (Q : VK) (E : XK), Env0 P w K mg base A outer s H → BindsTo s fd args (ps.zip us) → Vals vs us → sp vs H Q E →
    codeAny (model P w) A (.call (.ref f) args) (CR CX0 outer P w H s Q E) s
theorem FnG.of {P : Program} {w : World} {K : PySem.W.Frag} {mg : Str → Option Value} {base : Heap} {k : Nat} {f : Addr} {fd : FuncData} {ps : List Str} {sp : Sp} (F : FnOk P w K mg base CX0 k f fd ps sp) : FnG P w K mg base k f fd ps sp :=
  ⟨F.len, fun A _ hr outer s H args us vs Q E => F.run A outer s H args us vs Q E hr⟩
section
variable {X : Cx} {k : Nat} {f : Addr} {fd : FuncData} {ps : List Str} {sp : Sp} {x : Str} {e : Expr} {es : List Expr} {p pos : Pos} {t : TA}
theorem runG {pins : List (Addr × Obj)} {σ : L2.St} {H : Hp} {s : Shared} {Q : VK} {us : List Value} {vs : List V} (F : FnG X.prog X.w X.K X.mg X.base k f fd ps sp) (hg : X.A.guards = some []) (hr : Room k X.A) (hb : Binds X.K fd ps [])
    (I : Inv X pins σ H s) (r : Vals vs us) (h : sp vs H Q E0) : wpAny (model X.prog X.w) X.A (call (.ref f) us) (EP X pins σ Q) X.xe s := by
  have hl : us.length = ps.length := r.length.symm.trans (F.len _ _ _ _ h)
  have bt := hb s us I.kIn (by rw [List.append_nil]; exact hl)
  rw [List.append_nil] at bt
  refine wpAny_call (codeAny_mono (F.run X.A hg hr X.stack s H ⟨us, []⟩ us vs Q E0 I.env0 bt r h) fun out s' hq => ?_)
  rcases out with err | fl
  · exact pass0 pins σ H s err s' I hq
  · rcases fl with _ | _ | _ | u
    all_goals first | exact I.after hq | exact hq.elim
theorem pe_callG (F : FnG X.prog X.w X.K X.mg X.base k f fd ps sp) (gu : X.A.guards = some []) (hr : Room k X.A) (hg : Gl X x) (hm : X.mg x = some (.ref f)) (hk : PySem.W.keepIn X.K (.ref f) = true) (hb : Binds X.K fd ps []) (ha : PA X (e :: es) t)
    (hdb : (x == ("__debug__" : Str)) = false := by decide) (he : starEach (e :: es) X.env = (false, eval e X.env) :: starEach es X.env := by rfl) (hpl : (backTo pos (starEach es X.env)).any (·.1) = false := by rfl) :
    PE X (.Call (.Name x p) (e :: es) [] pos) (tCall sp [] E0 t) :=
  ⟨fun pins s σ H Q I h => wpAny_Call_Name_kw (ld_glob I hg hm (PySem.W.callWith_K (h₀ := X.base) I.ok.mod.kin hk (thn (ha.run pos pins s σ H _ I h) fun us s1 ⟨vs, H1, I1, r, q⟩ => ⟨I1.kIn, runG F gu hr hb I1 r (by have q' : sp (vs ++ []) H1 Q E0 := q; rwa [List.append_nil] at q')⟩) he hpl) hdb)⟩
end
section
variable {P : Program} {w : World} {K : PySem.W.Frag} {mg : Str → Option Value} {base : Heap}
theorem okG {x qual : Str} {st : Stmt} {f : Addr} {fd : FuncData} {N ps : List Str} {k : Nat} {sp : Sp} (F : Fun K x qual st f fd) (S : FnScope N ps (defScope st)) (len : ∀ vs H Q E, sp vs H Q E → vs.length = ps.length)
    (hbody : ∀ (cdv : Value) (A : Around) (outer : List Env) (s : Shared) (H : Hp) (vs : List V) (Q : VK) (E : XK), A.guards = some [] → Room k (A.deeper (envOfC qual (defScope st) s.heap.objs.size f cdv)) → sp vs H Q E →
      ∃ t, PSs (cxOf CX0 P w K mg base N qual (defScope st) f cdv A outer s H E).nox (defBody st) t ∧ t { nx := fun _ H' => Q .non H', rt := Q } (start N vs) H) : FnG P w K mg base (k + 1) f fd ps sp := by
  obtain ⟨oc, od, kV, doc, pm, an, cdv, ct, osl, rfl, lk, hcd⟩ := F.ex
  refine ⟨len, fun A gu hr outer s H args us vs Q E en bt rv hs => ?_⟩
  have inK : K.In s.heap := en.mod.kin.keeps fun b o h => (en.bs b o h).1
  have names : ∀ y ∈ ps.zip us, (defScope st).names.lookup y.1 = some .local ∨ ((defScope st).names.lookup y.1 = some .cell ∧ ((cellsFrom (s.heap.objs.size + 1) (defScope st).names []).lookup y.1).isSome = true) := by
    rintro ⟨n, v⟩ hy
    exact (S.par n (List.of_mem_zip hy).1).imp id fun q => ⟨q, PySem.W.cellsFrom_some _ _ _ (.inl q)⟩
  refine codeAny_call_function hr.depth (inK _ _ lk) rfl S.co S.gen rfl (PySem.W.codeRec_of inK hcd) (bt _ _ _ _ (wpAny_newFunctionEnv_cells S.kind names fun env he s1 inner => ?_))
  subst he
  refine ⟨(en.mod.nolimit.keeps fun b o h => (en.bs b o h).1).keeps inner.toInCall.keep, codeAny_func ?_⟩
  obtain ⟨t, ht, hq⟩ := hbody cdv A outer s H vs Q E gu (hr.deeper _) hs
  have start0 : Inv (cxOf CX0 P w K mg base N qual (defScope st) f cdv A outer s H E) [] (start N vs) H s1 := inv_start S hr.hd en (len _ _ _ _ hs) rv inner
  have leave : ∀ {σ' : L2.St} {H' : Hp} {v : V} {u : Value} {s' : Shared}, Inv (cxOf CX0 P w K mg base N qual (defScope st) f cdv A outer s H E) [] σ' H' s' → RelV v u → Q v H' → CE outer P w H s Q u s' :=
    fun {σ' H' v u s'} J r q => ⟨v, H', J.os, J.bare, J.base, J.hok, r, q⟩
  refine wpAny_mono (ht.nox.run [] s1 (start N vs) H _ start0 hq) (fun fl s' hs' => ?_) fun _ _ h => h
  rcases fl with _ | _ | _ | u
  · obtain ⟨σ', H', J, q⟩ := hs'
    exact leave (v := V.non) (u := Value.none) J rfl q
  · obtain ⟨_, _, _, q⟩ := hs'
    exact q.elim
  · obtain ⟨_, _, _, q⟩ := hs'
    exact q.elim
  · obtain ⟨v, σ', H', J, r, q⟩ := hs'
    exact leave J r q
end
section
variable {P : Program} {w : World} {K : PySem.W.Frag} {mg mb : Str → Option Value} {k : Nat} {fa a : Addr} {fd : FuncData} {x : Str} {sp : Sp} {s1 : Shared} {vs : List Value} {ns : List Int}
abbrev EndG (h : Heap) (os : OsState) (r : Result) (s' : Shared) : Prop := r = .ok (.ret (.bool true)) ∧ OldK h s'.heap ∧ s'.os = os ∧ AllBare s'.gens
theorem callG_at (inK : K.In s1.heap) (top : s1.heap.Ns mainGlobals mg) (bl : s1.heap.Ns builtinsNs mb) (blb : ∀ x : Str, x ≠ "__name__" → mb x = bootBuiltins x) (nl : s1.heap.NoLimit) (ng : s1.gens = #[])
    (obj : s1.heap.get? a = some { cls := .type "list", data := .seq vs.toArray }) (hr : Room k callerA) (F : ∀ base : Heap, K.In base → base.Ns mainGlobals mg → FnG P w K mg base k fa fd [x] sp) (bind : ∀ (s : Shared) (u : Value), BindsTo s fd ⟨[u], []⟩ [(x, u)])
    {H : Hp} (only : Only H) (ok : HOk P w H s1.heap) (at_a : ∀ b, H b ≠ none → b = a) (own : H a ≠ none → K.lookup a = none) (q : sp [.ref a] H (fun v _ => v = .bl true) E0) :
    codeAny (model P w) callerA (.call (.ref fa) ⟨[.ref a], []⟩) (EndG s1.heap s1.os) s1 := by
  have told : ∀ b, H b = none ∨ b = a := fun b => (Classical.em (H b = none)).imp id (at_a b)
  have keepN : ∀ {b : Addr} {m : Str → Option Value}, s1.heap.Ns b m → (hidT s1.heap H).Ns b m := fun {b m} ⟨o, es, ep, e, d, r⟩ => ⟨o, es, ep, hidT_get e ((told b).elim id fun z => by
    subst z
    rw [obj] at e
    cases e
    cases (show Data.seq vs.toArray _ = Data.dict es ep from d)), d, r⟩
  have keepK : K.In (hidT s1.heap H) := fun b o e => hidT_get (inK b o e) ((told b).elim id fun z => by
    subst z
    exact Classical.byContradiction fun n => by
      rw [own n] at e
      cases e)
  have md : Mod K mg (hidT s1.heap H) := ⟨keepK, keepN top, ⟨mb, keepN bl, blb⟩, nl.imp fun _ h => ⟨keepN h.1, h.2⟩⟩
  have en : Env0 P w K mg (hidT s1.heap H) callerA [] s1 H := ⟨rfl, md, fun b o e => of_hidT e, Nat.le_of_eq (hidT_size _ _), trivial, fun b hb => (List.not_mem_nil hb).elim, ok, .of_eq ng⟩
  refine codeAny_mono ((F _ keepK (keepN top)).run callerA rfl hr [] s1 H ⟨[.ref a], []⟩ [.ref a] [.ref a] _ _ en (bind s1 (.ref a)) (.cons rfl .nil) q) fun r s' h => ?_
  rcases r with e | fl
  · exact (show False from h).elim
  · rcases fl with _ | _ | _ | u
    · exact (show False from h).elim
    · exact (show False from h).elim
    · exact (show False from h).elim
    · obtain ⟨v, H', os, bare, un, ok', rv, qv⟩ := h
      cases (show v = .bl true from qv)
      cases (show u = Value.bool true from rv)
      refine ⟨rfl, OldK.of_keep fun b o e => ?_, os, bare⟩
      rcases only b with z | ⟨ob, xs, z⟩
      · exact un.keep b o e z (List.not_mem_nil) (List.not_mem_nil)
      · have e1 := (ok b _ z).1
        have e2 := (ok' b _ (un.frzs b ob _ z)).1
        exact (Option.some.inj (e.symm.trans e1)) ▸ e2
theorem callG (inK : K.In s1.heap) (top : s1.heap.Ns mainGlobals mg) (bl : s1.heap.Ns builtinsNs mb) (blb : ∀ x : Str, x ≠ "__name__" → mb x = bootBuiltins x) (nl : s1.heap.NoLimit) (ng : s1.gens = #[])
    (obj : s1.heap.get? a = some { cls := .type "list", data := .seq vs.toArray }) (its0 : IntsAre vs ns) (small : ns.length ≤ sizeLine) (hr : Room k callerA) (F : ∀ base : Heap, K.In base → base.Ns mainGlobals mg → FnG P w K mg base k fa fd [x] sp)
    (bind : ∀ (s : Shared) (u : Value), BindsTo s fd ⟨[u], []⟩ [(x, u)]) (q : ∀ H : Hp, Only H → SqL K H a (ns.map V.int) → sp [.ref a] H (fun v _ => v = .bl true) E0) :
    codeAny (model P w) callerA (.call (.ref fa) ⟨[.ref a], []⟩) (EndG s1.heap s1.os) s1 := by
  have rv := vals_ints its0
  have lv := its0.length
  cases hk : K.lookup a with
  | some o =>
    have e := inK a o hk
    rw [obj] at e
    cases e
    have sq : SqL K (fun _ => none) a (ns.map V.int) := .inr ⟨_, vs.toArray, _, hk, rfl, rfl, rfl, by rw [List.size_toArray, lv]; exact small, by simpa using rv⟩
    exact callG_at inK top bl blb nl ng obj hr F bind (H := fun _ => none) (fun _ => .inl rfl) (fun b u z => nomatch (show (none : Option HO) = some u from z)) (fun b z => absurd rfl z) (fun z => absurd rfl z) (q _ (fun _ => .inl rfl) sq)
  | none =>
    generalize hH : (fun b => if b = a then some (HO.frz { cls := .type "list", data := .seq vs.toArray } (.lst (ns.map V.int))) else none : Hp) = H
    have here : H a = some (.frz { cls := .type "list", data := .seq vs.toArray } (.lst (ns.map V.int))) := by rw [← hH]; exact if_pos rfl
    have else_ : ∀ b, b ≠ a → H b = none := fun b n => by rw [← hH]; exact if_neg n
    have only : Only H := fun b => (Classical.em (b = a)).elim (fun e => .inr ⟨{ cls := .type "list", data := .seq vs.toArray }, ns.map V.int, by rw [e]; exact here⟩) fun n => .inl (else_ b n)
    refine callG_at inK top bl blb nl ng obj hr F bind only (fun b u z => ?_) (fun b z => Classical.byContradiction fun n => z (else_ b n)) (fun _ => hk) (q _ only (.inl (.inr ⟨_, here⟩)))
    by_cases e : b = a
    · subst e
      rw [here] at z
      cases z
      exact ⟨obj, by rw [List.length_map]; exact small, vs, _, rv, obj⟩
    · rw [else_ b e] at z
      cases z
end
section
variable {K : PySem.W.Frag} {ms : List Addr} {H : Hp} {d : D} {x : V}
end
section
variable {β : Type} {K : PySem.W.Frag} {ms : List Addr} {ps : List PEn} {cs : List (Addr × List V)} {H0 H1 : Hp} {g : TG} {tt : TT} {te : TE} {vl : List Nat} {σ : L2.St} {Qd : Hp → Prop}
variable {x : V} {H : Hp}
end
structure OwnText (K : PySem.W.Frag) (C : Addr) (name : Str) (f : Addr) : Prop where
  hs : PySem.W.findIn K (.ref C) name = some (some (.ref f))
  hf : PySem.W.isFn K (.ref f) = true
section
variable {X : Cx} {n : Nat} {CX : CXT} {C f : Addr} {fd : FuncData} {ps : List Str} {sp : Sp} {E : XK}
end
end Rx
namespace Rx
open PySem PySem.Spec PyProof.Rows L2
section
variable {K : PySem.W.Frag} {ms : List Addr} {ps : List PEn} {cs : List (Addr × List V)} {H0 H H1 H' : Hp} {x : V} {ds : List D}
theorem wd_none {p : Addr} (w : Wd ms ps cs H0 H) (np : H p = none) : H0 p = none := by
  cases q : H0 p with
  | none => rfl
  | some o => exact absurd np (w.grow p (by rw [q]; exact fun z => nomatch z))
mutual
theorem rep_noL {L : Addr} {vs vs' : List V} (hL : H L = some (.lst vs)) : ∀ (d : D) (u : V), noL d = true → rep ms H d u → rep ms (upd H L (.lst vs')) d u
  | .v x, u, _, h => by
    simp only [rep] at h ⊢
    exact h
  | .lst ds, u, n, h => by
    simp only [noL] at n
    cases n
  | .tup ds, u, n, h => by
    simp only [noL] at n
    simp only [rep] at h ⊢
    obtain ⟨p, us, e, np, hp, hl⟩ := h
    refine ⟨p, us, e, np, ?_, repL_noL hL ds us n hl⟩
    rw [upd_ne (fun z => by rw [z, hL] at hp; cases hp)]
    exact hp
  | .ins C ns ds, u, n, h => by
    simp only [noL] at n
    simp only [rep] at h ⊢
    obtain ⟨p, dx, us, e, np, hp, hn, hl⟩ := h
    refine ⟨p, dx, us, e, np, ?_, hn, repL_noL hL ds us n hl⟩
    rw [upd_ne (fun z => by rw [z, hL] at hp; cases hp)]
    exact hp
  | .dct ks ds, u, n, h => by
    simp only [noL] at n
    simp only [rep] at h ⊢
    obtain ⟨p, us, e, np, hp, hn, hl⟩ := h
    refine ⟨p, us, e, np, ?_, hn, repL_noL hL ds us n hl⟩
    rw [upd_ne (fun z => by rw [z, hL] at hp; cases hp)]
    exact hp
  | .dcT ks ds, u, n, h => by
    simp only [noL] at n
    simp only [rep] at h ⊢
    obtain ⟨p, us, e, np, hp, hn, hl⟩ := h
    refine ⟨p, us, e, np, ?_, hn, repL_noL hL ds us n hl⟩
    rw [upd_ne (fun z => by rw [z, hL] at hp; cases hp)]
    exact hp
  | .exc _ _ _, u, n, h => by
    simp only [noL] at n
    cases n
theorem repL_noL {L : Addr} {vs vs' : List V} (hL : H L = some (.lst vs)) : ∀ (ds : List D) (us : List V), noLs ds = true → repL ms H ds us → repL ms (upd H L (.lst vs')) ds us
  | [], us, _, h => by
    simp only [repL] at h ⊢
    exact h
  | d :: ds, us, n, h => by
    simp only [noLs, Bool.and_eq_true] at n
    simp only [repL] at h ⊢
    obtain ⟨u, ws, e, h1, h2⟩ := h
    exact ⟨u, ws, e, rep_noL hL d u n.1 h1, repL_noL hL ds ws n.2 h2⟩
end
end

section
variable {X : Cx} {K : PySem.W.Frag}
theorem ix_listK (hK : X.K = K) : IxR X (rIxL K) := by
  subst hK
  exact ix_list
end
end Rx
namespace Rx
open PySem PySem.Spec PyProof.Rows L2
section
variable {K : PySem.W.Frag} {ms ms' : List Addr} {ps : List PEn} {H0 H H' H1 : Hp} {L L' : Addr} {d d' : D} {ds : List D} {u x : V} {vs : List V}
def valO (ms : List Addr) (H : Hp) (L : Addr) : D → Prop
  | .lst ds => ∃ vs, H L = some (.lst vs) ∧ repL ms H ds vs
  | .dct ks ds => ∃ vs, H L = some (.dK (ks.zip vs)) ∧ ks.length = vs.length ∧ repL ms H ds vs
  | .dcT ks ds => ∃ vs, H L = some (.dT (ks.zip vs)) ∧ ks.length = vs.length ∧ repL ms H ds vs
  | .ins C ns ds => ∃ dx vs, H L = some (.ins C dx (ns.zip vs)) ∧ ns.length = vs.length ∧ repL ms H ds vs
  | _ => False
theorem valO_map (f : ∀ p o, p ∉ ms → H p = some o → p ∉ ms' ∧ H' p = some o) (g : ∀ o, H L = some o → H' L = some o) : ∀ d : D, valO ms H L d → valO ms' H' L d
  | .lst ds, ⟨vs, h1, h2⟩ => ⟨vs, g _ h1, repL_map f ds vs h2⟩
  | .dct ks ds, ⟨vs, h1, h2, h3⟩ => ⟨vs, g _ h1, h2, repL_map f ds vs h3⟩
  | .dcT ks ds, ⟨vs, h1, h2, h3⟩ => ⟨vs, g _ h1, h2, repL_map f ds vs h3⟩
  | .v _, h => h
  | .tup _, h => h
  | .ins _ ns ds, ⟨dx, vs, h1, h2, h3⟩ => ⟨dx, vs, g _ h1, h2, repL_map f ds vs h3⟩
  | .exc _ _ _, h => h
structure MutO (ms : List Addr) (ps : List PEn) (H0 H : Hp) (L : Addr) (d : D) : Prop where
  im : L ∈ ms
  hp : L ∉ ad ps
  h0 : H0 L = none
  val : valO ms H L d
theorem MutO.some (m : MutO ms ps H0 H L d) : ∃ o, H L = some o := by
  have h := m.val
  cases d with
  | lst ds => exact ⟨_, h.choose_spec.1⟩
  | dct ks ds => exact ⟨_, h.choose_spec.1⟩
  | dcT ks ds => exact ⟨_, h.choose_spec.1⟩
  | v _ => exact h.elim
  | tup _ => exact h.elim
  | ins _ _ _ => exact ⟨_, h.choose_spec.choose_spec.1⟩
  | exc _ _ _ => exact h.elim
theorem mo_ret (w : Wd ms ps [] H0 H) (e : Ret ps H H') (m : MutO ms ps H0 H L d) : MutO ms ps H0 H' L d :=
  ⟨m.im, m.hp, m.h0, valO_map (fun p o n hp => ⟨n, e.kp p o (fun z => n (w.pm p z)) hp⟩) (fun o h => e.kp L o m.hp h) d m.val⟩
theorem mo_ext (e : Ret [] H H') (m : MutO ms ps H0 H L d) : MutO ms ps H0 H' L d :=
  ⟨m.im, m.hp, m.h0, valO_map (fun p o n hp => ⟨n, e.kp p o (by simp) hp⟩) (fun o h => e.kp L o (by simp) h) d m.val⟩
theorem rep_sub (s : ∀ a ∈ ms', a ∈ ms) (h : rep ms H d u) : rep ms' H d u := rep_map (fun p o n hp => ⟨fun z => n (s p z), hp⟩) d u h
theorem wd_sub (s : ∀ a ∈ ms', a ∈ ms) (hp : ∀ a ∈ ad ps, a ∈ ms') (w : Wd ms ps [] H0 H) : Wd ms' ps [] H0 H :=
  ⟨w.kp, w.grow, fun m h => w.tr m (s m h), w.pot, hp, fun _ h => absurd h List.not_mem_nil⟩
theorem mo_rep (n : L ∉ ms') (s : ∀ a ∈ ms', a ∈ ms) (m : MutO ms ps H0 H L d) : rep ms' H d (.ref L) := by
  have h := m.val
  cases d with
  | lst ds =>
    obtain ⟨vs, h1, h2⟩ := h
    simp only [rep]
    exact ⟨L, vs, rfl, n, h1, repL_map (fun p o n hp => ⟨fun z => n (s p z), hp⟩) ds vs h2⟩
  | dct ks ds =>
    obtain ⟨vs, h1, h2, h3⟩ := h
    simp only [rep]
    exact ⟨L, vs, rfl, n, h1, h2, repL_map (fun p o n hp => ⟨fun z => n (s p z), hp⟩) ds vs h3⟩
  | dcT ks ds =>
    obtain ⟨vs, h1, h2, h3⟩ := h
    simp only [rep]
    exact ⟨L, vs, rfl, n, h1, h2, repL_map (fun p o n hp => ⟨fun z => n (s p z), hp⟩) ds vs h3⟩
  | v _ => exact h.elim
  | tup _ => exact h.elim
  | ins C ns ds =>
    obtain ⟨dx, vs, h1, h2, h3⟩ := h
    simp only [rep]
    exact ⟨L, dx, vs, rfl, n, h1, h2, repL_map (fun p o n hp => ⟨fun z => n (s p z), hp⟩) ds vs h3⟩
  | exc _ _ _ => exact h.elim
theorem wd_cell {o : HO} (w : Wd ms ps [] H0 H) (nl : H L = none) : Wd (L :: ms) ps [] H0 (upd H L o) := by
  have w1 := w.ret0 (Ext.new (o := o) nl)
  refine ⟨w1.kp, w1.grow, fun m h => ?_, w1.pot, fun a h => List.mem_cons_of_mem _ (w.pm a h), fun _ h => absurd h List.not_mem_nil⟩
  rcases List.mem_cons.mp h with rfl | h
  · rw [upd_same]
    exact fun z => nomatch z
  · exact w1.tr m h
theorem pot_new (w : Wd ms ps [] H0 H) (nl : H L = none) : L ∉ ad ps := fun z => by
  obtain ⟨p, hp, e2⟩ := List.mem_map.mp z
  exact ent_some (w.pot p hp) (by rw [e2]; exact nl)
theorem nm_new (w : Wd ms ps [] H0 H) (nl : H L = none) : L ∉ ms := fun z => w.tr L z nl
theorem mo_newL (w : Wd ms ps [] H0 H) (nl : H L = none) (r : repL ms H ds vs) : MutO (L :: ms) ps H0 (upd H L (.lst vs)) L (.lst ds) :=
  ⟨List.mem_cons_self, pot_new w nl, wd_none w nl, vs, upd_same, repL_map (fun p o n hp => ⟨fun z => by
    rcases List.mem_cons.mp z with z | z
    · exact ne_of_none hp nl z
    · exact n z, by rw [upd_ne (ne_of_none hp nl)]; exact hp⟩) _ _ r⟩
theorem mo_newD {ks : List Key} (w : Wd ms ps [] H0 H) (nl : H L = none) (hl : ks.length = vs.length) (r : repL ms H ds vs) : MutO (L :: ms) ps H0 (upd H L (.dK (ks.zip vs))) L (.dct ks ds) :=
  ⟨List.mem_cons_self, pot_new w nl, wd_none w nl, vs, upd_same, hl, repL_map (fun p o n hp => ⟨fun z => by
    rcases List.mem_cons.mp z with z | z
    · exact ne_of_none hp nl z
    · exact n z, by rw [upd_ne (ne_of_none hp nl)]; exact hp⟩) _ _ r⟩
theorem mo_nc {c : Addr} {q : Str} (m : MutO ms ps H0 H L d) (h : H L = some (LamX.CodeO c q)) : False := by
  have v := m.val
  cases d with
  | lst ds =>
    obtain ⟨vs, e, _⟩ := v
    rw [h] at e
    cases e
  | dct ks ds =>
    obtain ⟨vs, e, _⟩ := v
    rw [h] at e
    cases e
  | dcT ks ds =>
    obtain ⟨vs, e, _⟩ := v
    rw [h] at e
    cases e
  | v _ => exact v
  | tup _ => exact v
  | ins _ _ _ =>
    obtain ⟨dx, vs, e, _⟩ := v
    rw [h] at e
    cases e
  | exc _ _ _ => exact v
theorem wd_put {o : HO} (w : Wd ms ps [] H0 H) (m : MutO ms ps H0 H L d) : Wd ms ps [] H0 (upd H L o) := by
  refine ⟨fun a o' n h => ?_, fun a h => ?_, fun a h => ?_, fun a h => ?_, w.pm, fun _ h => absurd h List.not_mem_nil⟩
  · rw [upd_ne (ne_of_none h m.h0)]
    exact w.kp a o' n h
  · by_cases e : a = L
    · rw [e, upd_same]
      exact fun z => nomatch z
    · rw [upd_ne e]
      exact w.grow a h
  · by_cases e : a = L
    · rw [e, upd_same]
      exact fun z => nomatch z
    · rw [upd_ne e]
      exact w.tr a h
  · refine ent_stay (w.pot a h) (fun o ho => by rw [upd_ne (fun z => m.hp (by rw [← z]; exact mem_ad h))]; exact ho) fun c q hc => ?_
    rw [upd_ne (fun z => mo_nc m (by rw [← z]; exact hc))]
    exact hc
theorem mo_setL (m : MutO ms ps H0 H L d) (r : repL ms H ds vs) : MutO ms ps H0 (upd H L (.lst vs)) L (.lst ds) :=
  ⟨m.im, m.hp, m.h0, vs, upd_same, repL_put m.im r⟩
theorem mo_tyL (m : MutO ms ps H0 H L (.lst ds)) : tyV K "list" (.ref L) H := by
  obtain ⟨vs, h1, h2⟩ := m.val
  exact .inl ⟨rfl, vs, .inl (.inl h1)⟩
theorem mo_end {n : Nat} {Nx : Hp → Prop} (m : MutO ms ps H0 H L (.lst ds)) (hn : n < 100000) (hy : ds.length ≤ n) (h : ∀ vs, repL ms H ds vs → Nx (upd H L (.lst (vs ++ [u])))) :
    ∃ acc, H L = some (.lst acc) ∧ acc.length < sizeLine ∧ Nx (upd H L (.lst (acc ++ [u]))) := by
  obtain ⟨vs, h1, h2⟩ := m.val
  refine ⟨vs, h1, ?_, h vs h2⟩
  have q := repL_len h2
  have e : sizeLine = 16777216 := sizeLine_eq
  omega
theorem repL_snoc {α : Type} {e : α → D} {xs : List α} {y : α} (r : repL ms H (xs.map e) vs) (h : rep ms H (e y) u) : repL ms H ((xs ++ [y]).map e) (vs ++ [u]) := by
  rw [List.map_append]
  exact repL_app r (repL_one h)
theorem repL_cat {α : Type} {e : α → D} {xs ys : List α} {us : List V} (r : repL ms H (xs.map e) vs) (h : repL ms H (ys.map e) us) : repL ms H ((xs ++ ys).map e) (vs ++ us) := by
  rw [List.map_append]
  exact repL_app r h
end

section
variable {α S : Type} {K : PySem.W.Frag} {H1 : Hp} {g : TG} {tb : TS} {D' : Ends} {σ : L2.St}
theorem for_listG {items : List α} {e : α → D} {ms : List Addr} {a : Addr} {xs : List V} {body : α → S → (S → Prop) → Prop} {KM : S → Prop} (SI : S → L2.St → Hp → Prop) (s0 : S) (an : a ∉ ms) (ha : H1 a = some (.lst xs)) (hx : repL ms H1 (items.map e) xs)
    (kp : ∀ s σ H, SI s σ H → Keep ms H1 H) (hM : forC body items s0 KM) (h0 : SI s0 σ H1)
    (hs : ∀ (x : α) (u : V) (s : S) (k : S → Prop) (σ : L2.St) (H : Hp), SI s σ H → rep ms H (e x) u → body x s k → ∀ Nx : L2.St → Hp → Prop, (∀ s' σ' H', k s' → SI s' σ' H' → Nx σ' H') →
      g u σ H fun σ2 H2 => tb { D' with nx := Nx, ct := Nx, bk := D'.nx } σ2 H2)
    (hd : ∀ s σ H, KM s → SI s σ H → D'.nx σ H) :
    ∃ W : Nat → Nat → L2.St → Hp → Prop, (∃ m, W 0 m σ H1) ∧ ∀ i m σ H, W i m σ H →
      ((Itl K a).stop i H ∧ D'.nx σ H) ∨ ((Itl K a).go i H ∧ ∃ Nx : L2.St → Hp → Prop, (∀ σ' H', Nx σ' H' → ∃ m', m' < m ∧ W (i + 1) m' σ' H') ∧ ∀ x H', (Itl K a).yld i H x H' → g x σ H' fun σ2 H2 => tb { D' with nx := Nx, ct := Nx, bk := D'.nx } σ2 H2) := by
  have hl : items.length = xs.length := by
    have := repL_len hx
    rwa [List.length_map] at this
  refine for_list (xs := xs) (D := D') (fun i σ H => ∃ s, SI s σ H ∧ forC body (items.drop i) s KM) ⟨s0, h0, hM⟩ (fun i σ H _ ⟨s, si, _⟩ => .inl (.inl (kp s σ H si a _ an ha))) (fun i x σ H hx' ⟨s, si, q⟩ => ?_) (fun σ H ⟨s, si, q⟩ => ?_)
  · have hi : i < xs.length := (List.getElem?_eq_some_iff.mp hx').1
    have hit : items[i]? = some (items[i]'(by omega)) := List.getElem?_eq_getElem (by omega)
    rw [drop_cons' hit] at q
    obtain ⟨v, hv, rv⟩ := repL_get (repL_keep (kp s σ H si) hx) (j := i) (d := e (items[i]'(by omega))) (by rw [List.getElem?_map, hit]; rfl)
    rw [hx'] at hv
    have ev : x = v := Option.some.inj hv
    subst ev
    exact hs _ x s _ σ H si rv q _ fun s' σ' H' hk si2 => ⟨s', si2, hk⟩
  · rw [List.drop_of_length_le (by omega)] at q
    exact hd s σ H q si
end

section
variable {α β : Type} {K : PySem.W.Frag} {H1 H2 : Hp} {g : TG} {tt : TT} {te : TE} {vl : List Nat} {σ : L2.St} {Qd : Hp → Prop} {L : Addr}
abbrev Turn (g : TG) (tt : TT) (te : TE) (vl : List Nat) (σ : L2.St) (L : Addr) (u : V) (H : Hp) (Nx : Hp → Prop) : Prop :=
  g u (wipe σ vl) H fun σ2 H2 => wipe σ2 vl = wipe σ vl ∧ tt σ2 H2 fun b H3 => if b = true then te σ2 H3 fun y H4 => ∃ acc, H4 L = some (.lst acc) ∧ acc.length < sizeLine ∧ Nx (upd H4 L (.lst (acc ++ [y]))) else Nx H3
theorem lc_rangeG {lo hi : Int} {N : Nat} {body : Int → (β → Prop) → Prop} {KM : List β → Prop} (SI : Nat → List β → Hp → Prop) (hN : N = (hi - lo).toNat) (hM : (rangeI lo hi).length < 100000 ∧ mapC body (rangeI lo hi) [] KM) (h0 : SI 0 [] (upd H1 L (.lst [])))
    (hs : ∀ (x : Int) (n : Nat) (ys : List β) (k : β → Prop) (H : Hp), n < 100000 → SI n ys H → body x k → ∀ Nx : Hp → Prop, (∀ y H', k y → SI (n + 1) (ys ++ [y]) H' → Nx H') → Turn g tt te vl σ L (.int x) H Nx)
    (hd : ∀ n ys H, KM ys → SI n ys H → Qd H) :
    ∃ W : Nat → Nat → Hp → Prop, (∃ m, W 0 m (upd H1 L (.lst []))) ∧ ∀ i m H, W i m H →
      ((Itr lo N).stop i H ∧ Qd H) ∨ ((Itr lo N).go i H ∧ ∃ Nx : Hp → Prop, (∀ H', Nx H' → ∃ m', m' < m ∧ W (i + 1) m' H') ∧ ∀ x H', (Itr lo N).yld i H x H' → g x (wipe σ vl) H' fun σ2 H2 => wipe σ2 vl = wipe σ vl ∧ tt σ2 H2 fun b H3 =>
        if b = true then te σ2 H3 fun y H4 => ∃ acc, H4 L = some (.lst acc) ∧ acc.length < sizeLine ∧ Nx (upd H4 L (.lst (acc ++ [y]))) else Nx H3) := by
  obtain ⟨hn, hM⟩ := hM
  subst hN
  rw [rangeI_len] at hn
  refine ⟨fun i m H => m = (hi - lo).toNat - i ∧ i ≤ (hi - lo).toNat ∧ ∃ ys, SI i ys H ∧ mapC body ((rangeI lo hi).drop i) ys KM, ⟨_, rfl, Nat.zero_le _, [], h0, hM⟩, ?_⟩
  rintro i m H ⟨rfl, hi', ys, T, q⟩
  by_cases hlt : i < (hi - lo).toNat
  · refine .inr ⟨hlt, fun H' => i + 1 ≤ (hi - lo).toNat ∧ ∃ ys, SI (i + 1) ys H' ∧ mapC body ((rangeI lo hi).drop (i + 1)) ys KM, fun H' p' => ⟨_, by omega, rfl, p'⟩, fun x H' y => ?_⟩
    obtain ⟨e, y⟩ := y
    subst e y
    rw [drop_cons' (rangeI_get hlt)] at q
    exact hs _ i ys _ H' (by omega) T q _ fun y H' k T' => ⟨hlt, _, T', k⟩
  · have e : i = (hi - lo).toNat := by omega
    refine .inl ⟨by rw [e]; exact Nat.le_refl _, ?_⟩
    rw [List.drop_of_length_le (by rw [rangeI_len]; omega)] at q
    exact hd _ ys H q T
end
end Rx
namespace Rx
open PySem PySem.Spec PyProof.Rows L2
structure Drop (ms : List Addr) (L : Addr) (ms' : List Addr) : Prop where
  sub : ∀ a ∈ ms', a ∈ ms
  ex : ∀ a ∈ ms, a ∈ ms' ∨ a = L
theorem dr_here {L : Addr} {ms : List Addr} : Drop (L :: ms) L ms := ⟨fun _ h => List.mem_cons_of_mem _ h, fun a h => (List.mem_cons.mp h).elim .inr .inl⟩
section
variable {K : PySem.W.Frag} {ms ms' : List Addr} {ps : List PEn} {H0 H H' H1 : Hp} {L L' : Addr} {d d' : D} {ds : List D} {u x : V} {vs : List V}
theorem keep_dr (dr : Drop ms L ms') (n : H1 L = none) (k : Keep ms H1 H) : Keep ms' H1 H := fun a o na e => k a o (fun z => by
  rcases dr.ex a z with z | z
  · exact na z
  · rw [z, n] at e
    cases e) e
theorem wd_dr (dr : Drop ms L ms') (hp : L ∉ ad ps) (w : Wd ms ps [] H0 H) : Wd ms' ps [] H0 H := wd_sub dr.sub (fun a h => (dr.ex a (w.pm a h)).elim id fun e => absurd (by rw [← e]; exact h) hp) w
theorem rep_dr (dr : Drop ms L ms') (h : rep ms H d u) : rep ms' H d u := rep_sub dr.sub h
theorem mo_rep_dr (dr : Drop ms L ms') (n : L ∉ ms') (m : MutO ms ps H0 H L d) : rep ms' H d (.ref L) := mo_rep n dr.sub m
mutual
def noM : D → Bool
  | .v _ => true
  | .lst _ => false
  | .tup ds => noMs ds
  | .ins _ _ ds => noMs ds
  | .dct _ _ => false
  | .dcT _ _ => false
  | .exc _ _ _ => false
def noMs : List D → Bool
  | [] => true
  | d :: ds => noM d && noMs ds
end
def isMo : Option HO → Prop
  | some (.lst _) => True
  | some (.dK _) => True
  | some (.dT _) => True
  | _ => False
def notIns : D → Bool
  | .ins _ _ _ => false
  | _ => true
theorem MutO.isMo (m : MutO ms ps H0 H L d) (ni : notIns d = true := by rfl) : isMo (H L) := by
  have h := m.val
  cases d with
  | lst ds =>
    rw [h.choose_spec.1]
    trivial
  | dct ks ds =>
    rw [h.choose_spec.1]
    trivial
  | dcT ks ds =>
    rw [h.choose_spec.1]
    trivial
  | v _ => exact h.elim
  | tup _ => exact h.elim
  | ins _ _ _ => cases ni
  | exc _ _ _ => exact h.elim
mutual
theorem rep_liftO (dr : Drop ms L ms') (hL : Rx.isMo (H L)) : ∀ (d : D) (u : V), noM d = true → rep ms' H d u → rep ms H d u
  | .v x, u, _, h => by
    simp only [rep] at h ⊢
    exact h
  | .lst ds, u, n, h => by
    simp only [noM] at n
    cases n
  | .dct _ ds, u, n, h => by
    simp only [noM] at n
    cases n
  | .dcT _ ds, u, n, h => by
    simp only [noM] at n
    cases n
  | .exc _ _ _, u, n, h => by
    simp only [noM] at n
    cases n
  | .tup ds, u, n, h => by
    simp only [noM] at n
    simp only [rep] at h ⊢
    obtain ⟨p, us, e, np, hp, hl⟩ := h
    refine ⟨p, us, e, fun z => ?_, hp, repL_liftO dr hL ds us n hl⟩
    rcases dr.ex p z with z | z
    · exact np z
    · rw [← z, hp] at hL
      exact hL
  | .ins C ns ds, u, n, h => by
    simp only [noM] at n
    simp only [rep] at h ⊢
    obtain ⟨p, dx, us, e, np, hp, hn, hl⟩ := h
    refine ⟨p, dx, us, e, fun z => ?_, hp, hn, repL_liftO dr hL ds us n hl⟩
    rcases dr.ex p z with z | z
    · exact np z
    · rw [← z, hp] at hL
      exact hL
theorem repL_liftO (dr : Drop ms L ms') (hL : Rx.isMo (H L)) : ∀ (ds : List D) (us : List V), noMs ds = true → repL ms' H ds us → repL ms H ds us
  | [], us, _, h => by
    simp only [repL] at h ⊢
    exact h
  | d :: ds, us, n, h => by
    simp only [noMs, Bool.and_eq_true] at n
    simp only [repL] at h ⊢
    obtain ⟨u, ws, e, h1, h2⟩ := h
    exact ⟨u, ws, e, rep_liftO dr hL d u n.1 h1, repL_liftO dr hL ds ws n.2 h2⟩
end
end
end Rx
namespace Rx
open PySem PySem.Spec PyProof.Rows L2
section
variable {K : PySem.W.Frag} {ms ms' : List Addr} {ps : List PEn} {H0 H H' H1 : Hp} {L L' : Addr} {d d' : D} {ds : List D} {u x : V} {vs : List V}
theorem mo_extU {α : Type} {e : α → D} {ys : List α} {P : Addr → List V → List V → Prop} (m : MutO ms ps H0 H L (.lst ds)) (h : rep ms H (.lst (ys.map e)) x) (hl : ds.length + ys.length ≤ 16777216) (k : ∀ vs us, repL ms H ds vs → repL ms H (ys.map e) us → P L vs us) :
    ∃ (l b : Addr) (xs zs : List V), V.ref L = .ref l ∧ [x] = [.ref b] ∧ H l = some (.lst xs) ∧ H b = some (.lst zs) ∧ xs.length + zs.length ≤ sizeLine ∧ P l xs zs := by
  obtain ⟨vs, h1, h2⟩ := m.val
  simp only [rep] at h
  obtain ⟨p, us, rfl, _, hp, hr⟩ := h
  have a := repL_len h2
  have b := repL_len hr
  rw [List.length_map] at b
  refine ⟨L, p, vs, us, rfl, rfl, h1, hp, ?_, k vs us h2 hr⟩
  rw [sizeLine_eq]
  omega
end
section
variable {α β S : Type} {K : PySem.W.Frag} {H1 H2 : Hp} {g : TG} {tt : TT} {te : TE} {vl : List Nat} {σ : L2.St} {Qd : Hp → Prop} {L : Addr}
end
end Rx
namespace Rx
open PySem PySem.Spec PyProof.Rows L2
section
variable {ms : List Addr} {H : Hp} {x y : V}
end
end Rx
namespace Rx
open PySem PySem.Spec PyProof.Rows L2
section
variable {K : PySem.W.Frag} {ms : List Addr} {H : Hp} {x y : V} {ds : List D} {vs : List V}
theorem rep_lsU {P : List V → Prop} (h : rep ms H (.lst ds) x) (k : ∀ vs, repL ms H ds vs → P vs) : ∃ a xs, x = .ref a ∧ SqL K H a xs ∧ P xs := by
  simp only [rep] at h
  obtain ⟨p, vs, rfl, np, hp, hr⟩ := h
  exact ⟨p, vs, rfl, .inl (.inl hp), k vs hr⟩
theorem repL_take : ∀ (n : Nat) {ds : List D} {vs : List V}, repL ms H ds vs → repL ms H (ds.take n) (vs.take n)
  | 0, _, _, _ => by
    rw [List.take_zero, List.take_zero]
    exact repL_nil
  | n + 1, [], vs, h => by
    have e := repL_empty h
    subst e
    exact repL_nil
  | n + 1, d :: ds, vs, h => by
    obtain ⟨u, us, rfl, h1, h2⟩ := repL_uncons h
    exact repL_cons h1 (repL_take n h2)
theorem repL_drop : ∀ (n : Nat) {ds : List D} {vs : List V}, repL ms H ds vs → repL ms H (ds.drop n) (vs.drop n)
  | 0, _, _, h => h
  | n + 1, [], vs, h => by
    have e := repL_empty h
    subst e
    exact repL_nil
  | n + 1, d :: ds, vs, h => by
    obtain ⟨u, us, rfl, h1, h2⟩ := repL_uncons h
    exact repL_drop n h2
def cutM {α : Type} (xs : List α) (lo hi : Option Int) : List α := (xs.drop (HT.sIx xs.length 0 lo)).take (HT.sIx xs.length xs.length hi - HT.sIx xs.length 0 lo)
theorem repL_cut {α : Type} {e : α → D} {xs : List α} {lo hi : Option Int} (h : repL ms H (xs.map e) vs) : repL ms H ((cutM xs lo hi).map e) (cutV vs lo hi) := by
  have hl := repL_len h
  rw [List.length_map] at hl
  unfold cutM cutV
  rw [List.map_take, List.map_drop, hl]
  exact repL_take _ (repL_drop _ h)
end
section
variable {α β S : Type} {K : PySem.W.Frag} {H1 : Hp} {g : TG} {tt : TT} {te : TE} {vl : List Nat} {σ : L2.St} {Qd : Hp → Prop} {L : Addr}
end
end Rx
namespace Rx
open PySem PySem.Spec PyProof.Rows L2
section
variable {X : Cx} {K : PySem.W.Frag}
theorem call_lenK (hK : X.K = K) : CallR X (.builtin "len") (fun xs H Q => ∃ x n, xs = [x] ∧ LenV K x H n ∧ Q (.int n) H) := by
  subst hK
  exact call_len
theorem sl_listK (hK : X.K = K) : SlR X (rSlL K) := by
  subst hK
  exact sl_list
theorem op_neDK (hK : X.K = K) (hu : X.A.units + 64 < cLine) : OpR X (compareOp .NotEq) (rNeD K) := by
  subst hK
  exact op_neD hu
end
end Rx
namespace Rx
open PySem PySem.Spec PyProof.Rows L2
section
variable {X : Cx} {K : PySem.W.Frag} {T name id : String} {o e : Expr} {es : List Expr} {r : V → List V → Hp → VK → Prop} {to : TE} {t : TA} {apos cpos : Pos}
theorem pe_bmK (hK : X.K = K) (pa : PlainAttrs T) (slot : Slot T name id) (hty : typeOf (.builtin id) = pure (.type "method_descriptor")) (hm : MtR X id r) (ho : PE X o to) (ha : PA X (e :: es) t)
    (hbase : attributeBase o name X.env (eval o X.env) = eval o X.env := by rfl)
    (hfew : ((backTo cpos (starEach (e :: es) X.env)).all (fun x => !x.1) && (backToKw cpos (keywordEach [] X.env)).all (fun x => x.1.isSome)
      && decide ((e :: es).length + ([] : List Keyword).length + (if ([] : List Keyword).isEmpty then 0 else 1) < 30)) = true := by rfl)
    (hline : (apos.endLine == cpos.line) = true := by rfl) (hs : starEach (e :: es) X.env = (false, eval e X.env) :: starEach es X.env := by rfl) (hplain : (backTo cpos (starEach es X.env)).any (·.1) = false := by rfl) :
    PE X (.Call (.Attribute o name apos) (e :: es) [] cpos) (tBM K T r to t) := by
  subst hK
  exact pe_bm pa slot hty hm ho ha hbase hfew hline hs hplain
end
end Rx
namespace Rx
open PySem PySem.Spec PyProof.Rows L2
section
variable {M : Model} {s : Shared} {K : PySem.W.Frag} {C : Addr}
end
section
variable {M : Model} {prog : Program} {w : World} {A : Around} {E : Value → Shared → Prop} {s : Shared} {K : PySem.W.Frag} {x C : Addr} {uy : Value} {ox : Obj} {od : Option Obj}
end
section
variable {K : PySem.W.Frag} {ms : List Addr} {H : Hp} {x y : V} {d : D}
structure IsN (K : PySem.W.Frag) (C : Addr) : Prop where
  ic : PySem.W.isClsIn K C = true
  ty : PySem.W.typeIn K (.ref C) = some (.type "type")
end
end Rx
namespace Rx
open PySem PySem.Spec PyProof.Rows L2
section
variable {ms : List Addr} {ps : List PEn} {cs : List (Addr × List V)} {H0 H H' : Hp} {u : V}
theorem rep_dynL {α : Type} {e : α → D} {xs : List α} (h : rep ms H (.lst (xs.map e)) u) : rep ms H (.lst ((xs.map e).map fun y : D => y)) u := by
  rw [List.map_id']
  exact h
end
end Rx
namespace Rx
open PySem PySem.Spec PyProof.Rows L2
section
variable {κ : Type} [DecidableEq κ]
end
theorem mergeK_nodup : ∀ {more : List (Key × V)} {acc : List (Key × V)}, ((acc ++ more).map (·.1)).Nodup → mergeK acc more = acc ++ more
  | [], acc, _ => by simp [mergeK]
  | q :: more, acc, h => by
    have n : q.1 ∉ acc.map (·.1) := by
      rw [List.map_append, List.nodup_append] at h
      exact fun z => h.2.2 q.1 z q.1 (by simp) rfl
    have e : putK acc q.1 q.2 = acc ++ [q] := by
      unfold putK
      rw [if_neg]
      intro z
      obtain ⟨w, hw, ew⟩ := List.any_eq_true.mp z
      exact n (List.mem_map.mpr ⟨w, hw, of_decide_eq_true ew⟩)
    show mergeK (putK acc q.1 q.2) more = _
    rw [e, mergeK_nodup (by rw [List.append_assoc]; exact h), List.append_assoc]
    rfl
section
variable {K : PySem.W.Frag} {ms : List Addr} {ps : List PEn} {H0 H H' H1 : Hp} {L : Addr} {d : D} {ds : List D} {u x y : V} {vs : List V} {ks : List Key} {k : Key}
theorem map_fst_zip' : ∀ {ks : List Key} {vs : List V}, ks.length = vs.length → (ks.zip vs).map (·.1) = ks
  | [], [], _ => rfl
  | k :: ks, v :: vs, h => by
    rw [List.zip_cons_cons, List.map_cons, map_fst_zip' (by simpa using h)]
  | [], _ :: _, h => by simp at h
  | _ :: _, [], h => by simp at h
theorem merge_zip (h : ks.length = vs.length) (nd : ks.Nodup) : mergeK [] (ks.zip vs) = ks.zip vs := by
  rw [mergeK_nodup (by rw [List.nil_append, map_fst_zip' h]; exact nd), List.nil_append]
theorem mo_nilD (w : Wd ms ps [] H0 H) (nl : H L = none) : MutO (L :: ms) ps H0 (upd H L (.dK [])) L (.dct [] []) :=
  mo_newD (ks := []) (vs := []) (ds := []) w nl rfl repL_nil
theorem mo_dK0 (m : MutO ms ps H0 H L (.dct [] [])) : H L = some (.dK []) := by
  obtain ⟨vs, h1, h2, _⟩ := m.val
  rw [h1]
  simp
theorem mo_setD (m : MutO ms ps H0 H L d) (hl : ks.length = vs.length) (r : repL ms H ds vs) : MutO ms ps H0 (upd H L (.dK (ks.zip vs))) L (.dct ks ds) :=
  ⟨m.im, m.hp, m.h0, vs, upd_same, hl, repL_put m.im r⟩
end
end Rx
namespace Rx
open PySem PySem.Spec PyProof.Rows L2
section
variable {X : Cx} {K : PySem.W.Frag}
end
end Rx
namespace Rx
end Rx
namespace Rx
open PySem PySem.Spec PyProof.Rows L2
section
variable {ms : List Addr} {ps : List PEn} {H0 H H' He : Hp} {p L C dx : Addr} {d : D} {u : V} {fs : List (Str × V)} {o : HO}
structure KpI (p : Addr) (He H : Hp) : Prop where
  kp : ∀ a o, a ≠ p → He a = some o → H a = some o
  gr : ∀ a, He a ≠ none → H a ≠ none
end
end Rx
namespace Rx
open PySem PySem.Spec PyProof.Rows L2
section
variable {K : PySem.W.Frag} {x qual : Str} {params : Arguments} {body : List Stmt} {scope : Scope} {dvs : List V} {f : Addr} {fd : FuncData} {ps : List Str}
end
end Rx
namespace Rx
open PySem PySem.Spec PyProof.Rows L2
section
variable {X : Cx} {K : PySem.W.Frag} {w : World} {d : Addr}
end
end Rx
namespace Rx
open PySem PySem.Spec PyProof.Rows L2
section
variable {α β : Type} {K : PySem.W.Frag} {H1 H2 : Hp} {g : TG} {tt : TT} {te : TE} {vl : List Nat} {σ : L2.St} {Qd : Hp → Prop} {L : Addr}
end
section
variable {α S : Type} {K : PySem.W.Frag} {H1 : Hp} {g : TG} {tb : TS} {D' : Ends} {σ : L2.St}
end
section
variable {X : L2.Cx} {a b c e : PySem.Expr} {ta : TA}
end
section
variable {X : L2.Cx} {e : PySem.Expr} {te : TE}
end
section
variable {X : L2.Cx} {K : PySem.W.Frag} {ms : List Addr} {H : Hp} {u x : V}
theorem op_inSK (hK : X.K = K) : OpR X (compareOp .In) (rIn K false) := by
  subst hK
  exact op_in_seq
theorem inQ_all {α : Type} {f : α → V} {xs : List α} (fs : ∀ y, flatV (f y) = true) : (xs.map f).all flatV = true := by
  rw [List.all_map]
  exact List.all_eq_true.mpr fun y _ => fs y
theorem inQ_eq {α : Type} {f : α → V} {xs : List α} {vs : List V} (h : repL ms H (xs.map fun y_ : α => D.v (f y_)) vs) : vs = xs.map f := by
  have e1 : xs.map (fun y_ : α => D.v (f y_)) = (xs.map f).map D.v := by
    rw [List.map_map]
    rfl
  rw [e1] at h
  exact repL_flat.mp h
theorem rep_inL {α : Type} {f : α → V} {xs : List α} {Q : VK} (h : rep ms H (.lst (xs.map fun y_ : α => D.v (f y_))) u) (fx : flatV x = true) (fs : ∀ y, flatV (f y) = true) (k : Q (.bl (inV x (xs.map f))) H) : rIn K false x u H Q := by
  simp only [rep] at h
  obtain ⟨p, vs, e, _, hp, hr⟩ := h
  rw [inQ_eq hr] at hp
  exact ⟨p, _, e, .inl (.inl (.inl hp)), fx, inQ_all fs, k⟩
end
section
variable {K : PySem.W.Frag} {ms : List Addr} {ps : List PEn} {H0 H H' H1 : Hp} {L : Addr} {d : D} {ds : List D} {u x y : V} {vs : List V} {ks : List Key} {k : Key}
end
end Rx
namespace Rx
open PySem PySem.Spec PyProof.Rows L2
section
variable {K : PySem.W.Frag} {ms : List Addr} {ps : List PEn} {H0 H : Hp} {x : V}
theorem rep_iterE {ds : List D} {P : Addr → Prop} (h : rep ms H (.lst ds) x) (k : ∀ a xs, x = .ref a → a ∉ ms → H a = some (.lst xs) → repL ms H ds xs → P a) : ∃ (a : Addr) (xs : List V), [x] = [.ref a] ∧ SqL K H a xs ∧ P a := by
  simp only [rep] at h
  obtain ⟨p, vs, e, n, hp, hr⟩ := h
  exact ⟨p, vs, by rw [e], .inl (.inl hp), k p vs e n hp hr⟩
end
section
variable {α S : Type} {K : PySem.W.Frag} {H1 : Hp} {g : TG} {tb : TS} {D' : Ends} {σ : L2.St}
theorem rep_pair {ms : List Addr} {H H2 : Hp} {T : Addr} {d1 d2 : D} {v1 v2 : V} (tr : ∀ m ∈ ms, H m ≠ none) (nT : H T = none) (e : H2 = upd H T (.tup [v1, v2])) (h1 : rep ms H d1 v1) (h2 : rep ms H d2 v2) : rep ms H2 (.tup [d1, d2]) (.ref T) := by
  subst e
  simp only [rep]
  refine ⟨T, [v1, v2], rfl, fun z => tr T z nT, upd_same, ?_⟩
  exact repL_ext (Ext.new nT) (repL_cons h1 (repL_cons h2 repL_nil))
theorem for_enumG {items : List α} {e : α → D} {ms : List Addr} {a : Addr} {xs : List V} {body : (Int × α) → S → (S → Prop) → Prop} {KM : S → Prop} (SI : S → L2.St → Hp → Prop) (s0 : S) (an : a ∉ ms) (ha : H1 a = some (.lst xs)) (hx : repL ms H1 (items.map e) xs)
    (kp : ∀ s σ H, SI s σ H → Keep ms H1 H) (tr : ∀ s σ H, SI s σ H → ∀ m ∈ ms, H m ≠ none) (hM : forC body ((rangeI 0 (items.length : Int)).zip items) s0 KM) (h0 : SI s0 σ H1)
    (hs : ∀ (x : Int × α) (u : V) (s : S) (k : S → Prop) (σ : L2.St) (H H2 : Hp), SI s σ H → Ext H H2 → rep ms H2 (.tup [.v (.int x.1), e x.2]) u → body x s k → ∀ Nx : L2.St → Hp → Prop, (∀ s' σ' H', k s' → SI s' σ' H' → Nx σ' H') →
      g u σ H2 fun σ2 H2 => tb { D' with nx := Nx, ct := Nx, bk := D'.nx } σ2 H2)
    (hd : ∀ s σ H, KM s → SI s σ H → D'.nx σ H) :
    ∃ W : Nat → Nat → L2.St → Hp → Prop, (∃ m, W 0 m σ H1) ∧ ∀ i m σ H, W i m σ H →
      ((Ite K a).stop i H ∧ D'.nx σ H) ∨ ((Ite K a).go i H ∧ ∃ Nx : L2.St → Hp → Prop, (∀ σ' H', Nx σ' H' → ∃ m', m' < m ∧ W (i + 1) m' σ' H') ∧ ∀ x H', (Ite K a).yld i H x H' → g x σ H' fun σ2 H2 => tb { D' with nx := Nx, ct := Nx, bk := D'.nx } σ2 H2) := by
  have hl : items.length = xs.length := by
    have := repL_len hx
    rwa [List.length_map] at this
  have rl : (rangeI 0 (items.length : Int)).length = items.length := by rw [rangeI_len]; omega
  have zl : ((rangeI 0 (items.length : Int)).zip items).length = xs.length := by rw [List.length_zip, rl, hl, Nat.min_self]
  refine for_it (walk_enum (K := K) (a := a) (xs := xs)) (D := D') (fun i σ H => ∃ s, SI s σ H ∧ forC body (((rangeI 0 (items.length : Int)).zip items).drop i) s KM) ⟨s0, h0, hM⟩ (fun i σ H _ ⟨s, si, _⟩ => .inl (.inl (kp s σ H si a _ an ha))) (fun i u σ H H' hi ⟨s, si, q⟩ y => ?_) (fun σ H ⟨s, si, q⟩ => ?_)
  · obtain ⟨T, x1, x2, rfl, nT, eH, e1, e2⟩ := y
    have hit : items[i]? = some (items[i]'(by omega)) := List.getElem?_eq_getElem (by omega)
    have hz : ((rangeI 0 (items.length : Int)).zip items)[i]? = some ((i : Int), items[i]'(by omega)) := by
      rw [List.getElem?_zip_eq_some]
      exact ⟨by rw [rangeI_get (by omega)]; congr 1; omega, hit⟩
    rw [drop_cons' hz] at q
    obtain ⟨v, hv, rv⟩ := repL_get (repL_keep (kp s σ H si) hx) (j := i) (d := e (items[i]'(by omega))) (by rw [List.getElem?_map, hit]; rfl)
    have e2 : xs[i]? = some x2 := e2
    rw [e2] at hv
    have ev : x2 = v := Option.some.inj hv
    subst ev
    have ev1 : V.int (i : Nat) = x1 := Option.some.inj e1
    subst ev1
    have ex : Ext H H' := by rw [eH]; exact Ext.new nT
    exact hs ((i : Int), items[i]'(by omega)) (.ref T) s _ σ H H' si ex (rep_pair (tr s σ H si) nT eH rep_v rv) q _ fun s' σ' H'' hk si2 => ⟨s', si2, hk⟩
  · rw [List.drop_of_length_le (by omega)] at q
    exact hd s σ H q si
end
end Rx
namespace Rx
open PySem PySem.Spec PyProof.Rows L2
section
variable {α κ : Type} [DecidableEq κ]
def getD (m : List (κ × α)) (k : κ) : Option α := (m.find? fun q => decide (q.1 = k)).map (·.2)
end
section
variable {α : Type} {K : PySem.W.Frag} {ms : List Addr} {ps : List PEn} {H0 H : Hp} {L : Addr} {x : V} {e : α → D}
end
section
variable {K : PySem.W.Frag} {ms : List Addr} {H : Hp} {x : V}
end
end Rx
namespace Rx
open PySem PySem.Spec PyProof.Rows L2
theorem units65 {k : Nat} {A : Around} (r : Room k A) : A.units + 65 < cLine := by
  have := r.un
  omega
section
variable {K : PySem.W.Frag} {ms : List Addr} {ps : List PEn} {H0 H : Hp} {d : D} {u x : V}
end
section
variable {α : Type} {K : PySem.W.Frag} {ms : List Addr} {ps : List PEn} {H0 H : Hp} {L : Addr} {x kx : V} {e : α → D}
end
section
variable {K : PySem.W.Frag} {ms : List Addr} {ps : List PEn} {H0 H : Hp} {x : V}
end
end Rx
namespace Rx
open PySem PySem.Spec PyProof.Rows L2
section
variable {prog : Program} {w : World} {A : Around} {E : Value → Shared → Prop} {s : Shared}
end
section
variable {prog : Program} {w : World} {A : Around} {E : Value → Shared → Prop} {s : Shared}
end
section
variable {K : PySem.W.Frag} {ms : List Addr} {H : Hp} {x : V}
end
section
variable {α β : Type} {K : PySem.W.Frag} {H1 : Hp} {g : TG} {tt : TT} {te : TE} {vl : List Nat} {σ : L2.St} {Qd : Hp → Prop} {L : Addr}
end
end Rx
namespace Rx
open PySem PySem.Spec PyProof.Rows L2
section
variable {K : PySem.W.Frag} {ms : List Addr} {ps : List PEn} {H0 H : Hp} {L : Addr} {u : V}
end
end Rx
namespace Rx
open PySem PySem.Spec PyProof.Rows L2
section
variable {X : Cx}
variable {n : Nat} {C f : Addr} {fd : FuncData} {ps : List Str} {sp : Sp}
end
end Rx
namespace PySem
open Sem (wp)
open AutoSeq1 (wpAny_loadPart')
section
variable {prog : Program} {w : World} {A : Around} {E : Value → Shared → Prop} {s : Shared}
end
end PySem
namespace Rx
open PySem PySem.Spec PyProof.Rows L2
section
variable {K : PySem.W.Frag} {a : Addr} {xs : List V}
end
section
variable {α S : Type} {K : PySem.W.Frag} {H1 : Hp} {g : TG} {tb : TS} {D' : Ends} {σ : L2.St}
end
section
variable {K : PySem.W.Frag} {ms : List Addr} {ps : List PEn} {H0 H : Hp} {x : V}
end
end Rx
namespace Rx
open PySem PySem.Spec PyProof.Rows L2
section
variable {K : PySem.W.Frag} {ms ms' : List Addr} {ps : List PEn} {H0 H H' H1 : Hp} {L L' : Addr} {d d' : D} {ds : List D} {u x : V} {vs : List V}
theorem rep_lstAt (h : rep ms H (.lst ds) u) : ∃ (L : Addr) (vs : List V), u = .ref L ∧ L ∉ ms ∧ H L = some (.lst vs) ∧ repL ms H ds vs := by
  simp only [rep] at h
  obtain ⟨p, vs, e, np, hp, hl⟩ := h
  exact ⟨p, vs, e, np, hp, hl⟩
end
section
variable {K : PySem.W.Frag} {X : Cx} {o : PySem.Expr} {to : TE} {name : Str} {apos cpos : Pos} {T id : String} {r : V → List V → Hp → VK → Prop}
end
section
variable {K : PySem.W.Frag} {X : Cx} {C g : Addr} {CX : CXT} {k : Nat} {sp : Sp} {E : XK} {fe e : PySem.Expr} {es : List PySem.Expr} {tf : TE} {t : TA} {pos : Pos} {fd : FuncData} {ps : List Str}
end
end Rx
namespace PySem.W
open Lean Elab Tactic Meta PySem PySem.Calls PyProof.Rows
section
variable {prog : Program} {w : World} {A : Around} {E : Value → Shared → Prop} {s : Shared} {K : Frag} {x y C L f : Addr} {h₀ : Heap} {m : Str → Option Value} {ox oy : Obj} {od oe : Option Obj}
end
end PySem.W
namespace Rx
open PySem PySem.Spec PyProof.Rows L2
structure OwnBin (K : PySem.W.Frag) (C : Addr) (op : Operator) (f : Addr) : Prop where
  first : PySem.W.selfFirst K C = true
  hs : PySem.W.findIn K (.ref C) (PySem.dunder op.info.2) = some (some (.ref f))
  hf : PySem.W.isFn K (.ref f) = true
structure OwnBinT (K : PySem.W.Frag) (C : Addr) (op : Operator) (f : Addr) : Prop extends OwnBin K C op f where
  hr : ∃ rc : Option Value, PySem.W.findIn K (.ref C) (dunderR op.info.2) = some rc ∧ (rc = none ∨ ∃ g : Addr, rc = some (.ref g))
  i1 : ∃ fo : Option Value, PySem.W.findIn K (.type "int") (PySem.dunder op.info.2) = some fo
  i2 : ∃ ro : Option Value, PySem.W.findIn K (.type "int") (dunderR op.info.2) = some ro
section
variable {α γ β : Type} {K : PySem.W.Frag} {H1 : Hp} {g : TG} {tt : TT} {te : TE} {vl : List Nat} {σ : L2.St} {Qd : Hp → Prop} {L : Addr}
end
end Rx
namespace Rx
open PySem PySem.Spec PyProof.Rows L2
section
variable {K : PySem.W.Frag} {ms ms' : List Addr} {ps : List PEn} {H0 H H' H1 : Hp} {L L' : Addr} {d d' : D} {ds : List D} {u x : V} {vs : List V}
theorem repL_rep {α : Type} {e : α → D} {xs : List α} (h : repL ms H (xs.map e) vs) : ∀ k : Nat, repL ms H (((List.replicate k xs).flatten).map e) (List.replicate k vs).flatten
  | 0 => repL_nil
  | k + 1 => by
    rw [List.replicate_succ, List.flatten_cons, List.map_append, List.replicate_succ, List.flatten_cons]
    exact repL_app h (repL_rep h k)
theorem rep_mulL {α : Type} {e : α → D} {xs : List α} {k : Int} {Q : VK} (h : rep ms H (.lst (xs.map e)) x) (hk : -(2 ^ 63) ≤ k ∧ k < 2 ^ 63 ∧ xs.length * k.toNat ≤ sizeLine)
    (q : ∀ vs, repL ms H (((List.replicate k.toNat xs).flatten).map e) vs → ∀ p, H p = none → Q (.ref p) (upd H p (.lst vs))) :
    ∃ (l : Addr) (k' : Int) (xs : List V), x = .ref l ∧ V.int k = .int k' ∧ H l = some (.lst xs) ∧ -(2 ^ 63) ≤ k' ∧ k' < 2 ^ 63 ∧ xs.length * k'.toNat ≤ sizeLine ∧ ∀ p, H p = none → Q (.ref p) (upd H p (.lst (List.replicate k'.toNat xs).flatten)) := by
  obtain ⟨l, vs, rfl, _, hl, hr⟩ := rep_lstAt h
  have e1 := repL_len hr
  rw [List.length_map] at e1
  exact ⟨l, k, vs, rfl, rfl, hl, hk.1, hk.2.1, by rw [← e1]; exact hk.2.2, q _ (repL_rep hr _)⟩
end
end Rx
namespace Rx
open PySem PySem.Spec PyProof.Rows L2
end Rx
namespace Rx
open PySem PySem.Spec PyProof.Rows L2
theorem rep_mulLC {α : Type} {e : α → D} {xs : List α} {k : Int} {σ : L2.St} {Q : VK} {ms : List Addr} {H : Hp} {x : V} (h : rep ms H (.lst (xs.map e)) x) (hk : -(2 ^ 63) ≤ k ∧ k < 2 ^ 63 ∧ xs.length * k.toNat ≤ sizeLine)
    (q : ∀ vs, repL ms H (((List.replicate k.toNat xs).flatten).map e) vs → ∀ p, H p = none → Q (.ref p) (upd H p (.lst vs))) : tC (V.int k) σ H fun y H2 => rRep x y H2 Q := rep_mulL h hk q
end Rx
namespace Rx
open PySem PySem.Spec PyProof.Rows L2
end Rx
namespace PySem.W
open Lean Elab Tactic Meta PySem PySem.Calls PyProof.Rows
section
variable {prog : Program} {w : World} {M : Model} {A : Around} {E : Value → Shared → Prop} {s : Shared} {K : Frag} {y C L f g : Addr} {h₀ : Heap} {m : Str → Option Value} {oy : Obj} {oe : Option Obj} {n : Int} {t : Tok}
end
end PySem.W
namespace Rx
open PySem PySem.Spec PyProof.Rows L2 RZ
structure OwnNeg (K : PySem.W.Frag) (C f : Addr) : Prop where
  hs : PySem.W.findIn K (.ref C) "__neg__" = some (some (.ref f))
  hf : PySem.W.isFn K (.ref f) = true
structure OwnBinR (K : PySem.W.Frag) (C : Addr) (op : Operator) (g : Addr) : Prop where
  first : PySem.W.selfFirst K C = true
  hs : ∃ f : Addr, PySem.W.findIn K (.ref C) (PySem.dunder op.info.2) = some (some (.ref f))
  hr : PySem.W.findIn K (.ref C) (dunderR op.info.2) = some (some (.ref g))
  hg : PySem.W.isFn K (.ref g) = true
  hsub : PySem.W.subIn K (.ref C) (.type "int") = some false
section
variable {α γ β S : Type}
variable {H1 : Hp} {g : TG} {tt : TT} {te : TE} {vl : List Nat} {σ : L2.St} {Qd : Hp → Prop} {L : Addr} {J : It}
variable {tb : TS} {D' : Ends}
end
end Rx
namespace PySem.W
open PySem PySem.Calls PyProof.Rows Builtin
section
variable {prog : Program} {w : World} {A : Around} {E : Value → Shared → Prop} {s : Shared} {K : Frag} {x C L f : Addr} {h₀ : Heap} {m : Str → Option Value} {ox : Obj} {od : Option Obj}
end
end PySem.W
namespace Rx
open PySem PySem.Spec PyProof.Rows L2
abbrev GL (a : Addr) (rest : List Value) : List Code := [.builtin "list.__repr__.loop" ⟨.ref a :: rest, []⟩]
structure FnQ (P : Program) (w : World) (K : PySem.W.Frag) (mg : Str → Option Value) (base : Heap) (k : Nat) (f : Addr) (fd : FuncData) (ps : List Str) (sp : Addr → Sp) : Prop where
  len : ∀ a vs H Q E, sp a vs H Q E → vs.length = ps.length
  run : ∀ (a : Addr) (rest : List Value) (A : Around), A.guards = some (GL a rest) → Room k A → ∀ (outer : List Env) (s : Shared) (H : Hp) (args : Args) (us : List Value) (vs : List V) (Q : VK) (E : XK), Env0 P w K mg base A outer s H → BindsTo s fd args (ps.zip us) → Vals vs us → sp a vs H Q E →
    codeAny (model P w) A (.call (.ref f) args) (CR CX0 outer P w H s Q E) s
theorem FnQ.mono {P : Program} {w : World} {K : PySem.W.Frag} {mg : Str → Option Value} {base : Heap} {j k : Nat} {f : Addr} {fd : FuncData} {ps : List Str} {sp : Addr → Sp} (F : FnQ P w K mg base j f fd ps sp) (h : j ≤ k) : FnQ P w K mg base k f fd ps sp :=
  ⟨F.len, fun a rest A gu hr => F.run a rest A gu (hr.mono h)⟩
section
variable {P : Program} {w : World} {K : PySem.W.Frag} {mg : Str → Option Value} {base : Heap}
end
section
variable {X : Cx} {pins : List (Addr × Obj)} {σ : L2.St} {H : Hp} {s : Shared}
end
section
variable {X : Cx}
end
section
variable {X : Cx} {n : Nat} {C f : Addr} {fd : FuncData} {ps : List Str} {sp : Addr → Sp}
end
section
variable {α : Type} {e : α → D} {C : Addr} {ns : List Str} {ms : List Addr} {H : Hp} {M : α → (Str → Prop) → Prop} {sp : Addr → Sp} {Q : VK} {KM : List Str → Prop}
end
end Rx
namespace PySem.W
open Lean Elab Tactic Meta PySem PySem.Calls PyProof.Rows
section
variable {prog : Program} {w : World} {A : Around} {E : Value → Shared → Prop} {s : Shared} {K : Frag} {x y C L f : Addr} {h₀ : Heap} {m : Str → Option Value} {ox oy : Obj} {od oe : Option Obj}
end
end PySem.W
namespace Rx
open PySem PySem.Spec PyProof.Rows L2
structure OwnIn (K : PySem.W.Frag) (C : Addr) (op : Operator) (f : Addr) : Prop extends OwnBin K C op f where
  mro : ∃ cd, PySem.W.clsIn K C = some cd ∧ cd.mro = [.ref C, .type "object"]
  hi : PySem.W.findIn K (.ref C) (dunderI op.info.2) = some none
structure SMet (K : PySem.W.Frag) (C : Addr) (m : Str) (g : Addr) : Prop where
  mc : ∃ mc, ClX.CRead K C mc ∧ ∃ p, PySem.W.findCls K (.ref C) mc m = some (.get (.builtin "staticmethod.__get__") (.ref p) .none (.ref C)) ∧ ∃ rest, PySem.W.recIn K p "staticmethod" = some (.ref g :: rest)
section
variable {X : Cx} {CX : CXT} {k : Nat} {C g : Addr} {fd : FuncData} {ps : List Str} {sp : Sp} {E : XK} {o e : Expr} {es : List Expr} {m : Str} {pos apos : Pos} {ta : TE} {t : TA}
end
end Rx
namespace Rx
open PySem PySem.Spec PyProof.Rows L2
def Apart (d e : D) : Prop := ∀ (ms ms' : List Addr) (H : Hp) (u : V), rep ms H d u → rep ms' H e u → False
def flatV : V → Bool
  | .ref _ => false
  | _ => true
section
variable {x : V} {ds es : List D} {C C' : Addr} {ns ns' : List Str}
theorem Apart.symm {d e : D} (h : Apart d e) : Apart e d := fun ms ms' H u a b => h ms' ms H u b a
end
mutual
/-- no list within d can be the one that tells e -/
def ApIn (e : D) : D → Prop
  | .v _ => True
  | .lst ds => Apart (.lst ds) e ∧ ApIns e ds
  | .tup ds => ApIns e ds
  | .ins _ _ ds => ApIns e ds
  | .dct _ _ => False
  | .dcT _ _ => False
  | .exc _ _ _ => False
def ApIns (e : D) : List D → Prop
  | [] => True
  | d :: ds => ApIn e d ∧ ApIns e ds
end
section
variable {ms ms' : List Addr} {ps : List PEn} {H0 H : Hp} {L : Addr} {es : List D}
theorem ne_dr {p : Addr} (dr : Drop ms L ms') (n : p ∉ ms') (q : p ≠ L) : p ∉ ms := fun z => (dr.ex p z).elim n q
mutual
theorem rep_liftA (dr : Drop ms L ms') (m : MutO ms ps H0 H L (.lst es)) : ∀ (d : D) (u : V), ApIn (.lst es) d → rep ms' H d u → rep ms H d u
  | .v x, u, _, h => by
    simp only [rep] at h ⊢
    exact h
  | .lst ds, u, n, h => by
    simp only [ApIn] at n
    have h0 := h
    simp only [rep] at h ⊢
    obtain ⟨p, vs, rfl, np, hp, hl⟩ := h
    refine ⟨p, vs, rfl, ne_dr dr np fun z => ?_, hp, repL_liftA dr m ds vs n.2 hl⟩
    rw [z] at h0
    exact n.1 _ _ _ _ h0 (mo_rep (ms' := []) (by simp) (fun a ha => absurd ha List.not_mem_nil) m)
  | .tup ds, u, n, h => by
    simp only [ApIn] at n
    simp only [rep] at h ⊢
    obtain ⟨p, vs, rfl, np, hp, hl⟩ := h
    refine ⟨p, vs, rfl, ne_dr dr np fun z => ?_, hp, repL_liftA dr m ds vs n hl⟩
    have := m.isMo
    rw [← z, hp] at this
    exact this
  | .ins C ns ds, u, n, h => by
    simp only [ApIn] at n
    simp only [rep] at h ⊢
    obtain ⟨p, dx, vs, rfl, np, hp, hn, hl⟩ := h
    refine ⟨p, dx, vs, rfl, ne_dr dr np fun z => ?_, hp, hn, repL_liftA dr m ds vs n hl⟩
    have := m.isMo
    rw [← z, hp] at this
    exact this
  | .dct _ ds, u, n, h => by
    simp only [ApIn] at n
  | .dcT _ ds, u, n, h => by
    simp only [ApIn] at n
  | .exc _ _ _, u, n, h => by
    simp only [ApIn] at n
theorem repL_liftA (dr : Drop ms L ms') (m : MutO ms ps H0 H L (.lst es)) : ∀ (ds : List D) (us : List V), ApIns (.lst es) ds → repL ms' H ds us → repL ms H ds us
  | [], us, _, h => by
    simp only [repL] at h ⊢
    exact h
  | d :: ds, us, n, h => by
    simp only [ApIns] at n
    simp only [repL] at h ⊢
    obtain ⟨u, ws, e, h1, h2⟩ := h
    exact ⟨u, ws, e, rep_liftA dr m d u n.1 h1, repL_liftA dr m ds ws n.2 h2⟩
end
end
end Rx
namespace Rx
open PySem PySem.Spec PyProof.Rows L2
end Rx
namespace Rx
open PySem PySem.Spec PyProof.Rows L2
section
variable {e : D} {x : V} {C : Addr} {ns : List Str} {ds : List D}
end
end Rx
namespace Rx
open PySem PySem.Spec PyProof.Rows L2
section
variable {α γ β : Type} {K : PySem.W.Frag} {H1 : Hp} {g : TG} {tt : TT} {te : TE} {vl : List Nat} {σ : L2.St} {Qd : Hp → Prop} {L : Addr}
end
end Rx
namespace Rx
open PySem PySem.Spec PyProof.Rows L2
section
variable {α : Type} {K : PySem.W.Frag} {H1 : Hp} {ms : List Addr}
end
section
end
section
end
section
variable {K : PySem.W.Frag} {ms : List Addr} {ps : List PEn} {H0 H : Hp} {x : V} {L : Addr} {ds : List D}
end
section
section
variable {X : Cx} {pins : List (Addr × Obj)} {σ : L2.St} {H : Hp} {s : Shared} {ms : List Addr}
end
end
section
variable {ms : List Addr} {p : Addr} {He H0 H H1 : Hp}
end
end Rx
namespace Rx
open PySem PySem.Spec PyProof.Rows L2
end Rx
namespace Rx
open PySem PySem.Spec PyProof.Rows L2
section
variable {ms : List Addr} {ps ps' : List PEn} {cs : List (Addr × List V)} {H0 H H' : Hp}
end
end Rx
namespace Rx
open PySem PySem.Spec PyProof.Rows L2
end Rx
namespace Rx
open PySem PySem.Spec PyProof.Rows L2
section
variable {ms ms' : List Addr} {ps : List PEn} {cs : List (Addr × List V)} {H0 H H1 H' : Hp} {C : Addr} {ns : List Str} {ds : List D} {cls : Value} {d : Option Addr}
def sp_exi (C : Addr) (n : Str) : Sp := fun vs H Q _ => ∃ (a : Addr) (y : V), vs = [.ref a, y] ∧ H a = some (exo a C none) ∧ ∀ dx, H dx = none → dx ≠ a → Q .non (upd (upd H dx (exd dx [(n, y)])) a (exo a C (some dx)))
end
inductive ClsOk (X : Cx) (n : Str) : List ExceptHandler → List (Value × (Addr → Value → Option Addr → TS)) → Prop
  | nil : ClsOk X n [] []
  | cons {x : Str} {c : Value} {ts : Addr → Value → Option Addr → TS} {st1 : Stmt} {suite : List Stmt} {np pos' : Pos} {hds : List ExceptHandler} {l : List (Value × (Addr → Value → Option Addr → TS))} (names : Names X x c)
      (each : ∀ (a : Addr) (oe : Obj) (cls : Value) (d : Option Addr) (pn : List (Addr × Obj)), Zc cls d oe → (∃ vs, oe.data = .fields vs) → PSs (X.suite a ((a, oe) :: pn)) (st1 :: suite) (ts a cls d)) (r : ClsOk X n hds l) :
      ClsOk X n (.ExceptHandler (some (.Name x np)) (some n) (st1 :: suite) pos' :: hds) ((c, ts) :: l)
end Rx
namespace Rx
open PySem PySem.Spec PyProof.Rows L2
section
variable {X : Cx} {pins : List (Addr × Obj)} {σ : L2.St} {H : Hp} {s : Shared}
end
def pyKey : Key → PyData
  | .inl i => .int i
  | .inr z => .str z
mutual
def pyX : D → PyData
  | .v .non => .none
  | .v (.bl b) => .bool b
  | .v (.int i) => .int i
  | .v (.str z) => .str z
  | .v _ => .none
  | .lst ds => .list (pyXs ds)
  | .tup ds => .tuple (pyXs ds)
  | .ins _ _ _ => .none
  | .dct ks ds => .dict ((ks.map pyKey).zip (pyXs ds))
  | .dcT _ _ => .none
  | .exc _ _ _ => .none
def pyXs : List D → List PyData
  | [] => []
  | d :: ds => pyX d :: pyXs ds
def plainX : D → Bool
  | .v .non => true
  | .v (.bl _) => true
  | .v (.int _) => true
  | .v (.str _) => true
  | .v _ => false
  | .lst ds => plainXs ds
  | .tup ds => plainXs ds
  | .ins _ _ _ => false
  | .dct ks ds => decide (ks.length = ds.length) && plainXs ds
  | .dcT _ _ => false
  | .exc _ _ _ => false
def plainXs : List D → Bool
  | [] => true
  | d :: ds => plainX d && plainXs ds
end
section
variable {X : Cx} {pins : List (Addr × Obj)} {σ : L2.St} {H : Hp} {s : Shared} {ms : List Addr}
abbrev ShX (X : Cx) (s : Shared) (v : Value) (d : PyData) : Prop := ∃ as bs, Reads s.heap v d as ∧ ReadAtMost s.heap d.depth bs ∧ ReprK X.prog X.w bs s.heap d.depth v d.shown
abbrev ShXs (X : Cx) (s : Shared) (vs : List Value) (ds : List PyData) : Prop := ∃ as bs, ReadsAll s.heap vs ds as ∧ ReadAtMost s.heap (PyData.depthAll ds) bs ∧ ReprAllK X.prog X.w bs s.heap (PyData.depthAll ds) vs (PyData.shownAll ds)
theorem pyXs_len : ∀ ds : List D, (pyXs ds).length = ds.length
  | [] => rfl
  | d :: ds => by
    simp only [pyXs, List.length_cons]
    rw [pyXs_len ds]
theorem entries_vals {P : Program} {w : World} : ∀ {ks : List Key} {vs : List V} {ws : List (Key × Value)} {es : List DictEntry}, ks.length = vs.length → KV (ks.zip vs) ws → Pairs (mixKind P w) es ws →
    Vals (ks.map kV) (es.map (·.key)) ∧ Vals vs (es.map (·.val))
  | [], [], _, _, _, kv, pr => by
    cases kv
    cases pr
    exact ⟨.nil, .nil⟩
  | k :: ks, v :: vs, _, _, hl, kv, pr => by
    cases kv with
    | cons h1 h2 =>
      cases pr with
      | cons e1 e2 e3 =>
        obtain ⟨i1, i2⟩ := entries_vals (by simpa using hl) h2 e3
        exact ⟨.cons (relV_key (by have z := e1; rw [← h1.1] at z; exact z)) i1, .cons (by have z := h1.2; rw [← e2] at z; exact z) i2⟩
  | [], _ :: _, _, _, hl, _, _ => by simp at hl
  | _ :: _, [], _, _, hl, _, _ => by simp at hl
theorem shKeys (X : Cx) (s : Shared) : ∀ (ks : List Key) (us : List Value), Vals (ks.map kV) us → PyData.showableAll (ks.map pyKey) = true → (∀ t ∈ PyData.shownAll (ks.map pyKey), t.length ≤ sizeLine) → ShXs X s us (ks.map pyKey)
  | [], us, r, _, _ => by
    cases r
    exact ⟨_, [], .nil, (fun _ z => nomatch z), by simp only [List.map_nil, PyData.shownAll]; exact .nil⟩
  | k :: ks, us, r, sh, sz => by
    cases r with
    | cons r1 r2 =>
      simp only [List.map_cons, PyData.showableAll, PyData.shownAll, Bool.and_eq_true] at sh sz ⊢
      obtain ⟨a2, b2, d2, m2, k2⟩ := shKeys X s ks _ r2 sh.2 (fun t ht => sz t (List.mem_cons_of_mem _ ht))
      have one : ∀ v', RelV (kV k) v' → ShX X s v' (pyKey k) := fun v' r1 => by
        cases k with
        | inl i =>
          obtain ⟨t, rfl⟩ := r1
          exact ⟨_, [], .int i t, (fun _ z => nomatch z), by simp only [pyKey, PyData.shown]; exact .of_is (ReprIs.int t (by simpa [pyKey, PyData.showable] using sh.1)) _ _ _⟩
        | inr z =>
          obtain ⟨t, rfl⟩ := r1
          exact ⟨_, [], .str z t, (fun _ z => nomatch z), by simp only [pyKey, PyData.shown]; exact .of_is (ReprIs.str z t (by simpa only [pyKey, PyData.shown] using sz _ List.mem_cons_self)) _ _ _⟩
      obtain ⟨a1, b1, d1, m1, k1⟩ := one _ r1
      refine ⟨_, b1 ++ b2, .cons d1 d2, ?_, ?_⟩
      · simp only [PyData.depthAll]
        exact ReadAtMost.append (m1.mono (Nat.le_max_left _ _)) (m2.mono (Nat.le_max_right _ _))
      · simp only [PyData.depthAll]
        exact .cons ((k1.more fun _ z => List.mem_append_left _ z).level_le (Nat.le_max_left _ _)) (k2.more_le (fun _ z => List.mem_append_right _ z) (Nat.le_max_right _ _))
theorem reads_nil {h : Heap} {xs : List PyData} {as : List Addr} (r : ReadsAll h [] xs as) : xs = [] := by
  cases r
  rfl
mutual
theorem shX (I : L2.Inv X pins σ H s) : ∀ (d : D) (u : V) (v : Value), plainX d = true → rep ms H d u → RelV u v → (pyX d).showable = true → (pyX d).shown.length ≤ sizeLine → ShX X s v (pyX d)
  | .v x, u, v, p, h, r, sh, sz => by
    obtain rfl := of_v h
    cases u <;> simp only [plainX, pyX] at p sh sz ⊢
    case non =>
      cases r
      exact ⟨_, [], .none, (fun _ z => nomatch z), by simp only [PyData.shown]; exact .of_is ReprIs.none _ _ _⟩
    case bl b =>
      cases r
      exact ⟨_, [], .bool b, (fun _ z => nomatch z), by simp only [PyData.shown]; exact .of_is (ReprIs.bool b) _ _ _⟩
    case int i =>
      obtain ⟨t, rfl⟩ := r
      exact ⟨_, [], .int i t, (fun _ z => nomatch z), by simp only [PyData.shown]; exact .of_is (ReprIs.int t (by simpa [PyData.showable] using sh)) _ _ _⟩
    case str z =>
      obtain ⟨t, rfl⟩ := r
      exact ⟨_, [], .str z t, (fun _ z => nomatch z), by simp only [PyData.shown]; exact .of_is (ReprIs.str z t (by simpa only [PyData.shown] using sz)) _ _ _⟩
    all_goals cases p
  | .lst ds, u, v, p, h, r, sh, sz => by
    simp only [rep] at h
    obtain ⟨a, vs, rfl, _, hp, hl⟩ := h
    cases r
    obtain ⟨its, rv, ⟨o, n, ho, hc, _, hd⟩, _⟩ := I.list (.inl (.inl hp))
    simp only [plainX] at p
    simp only [pyX, PyData.showable, PyData.shown] at sh sz ⊢
    obtain ⟨as, bs, rd, most, all⟩ := shXs I ds vs its p hl rv sh (fun t ht => Nat.le_trans (listText_mem_le ht) sz)
    have rl : Reads s.heap (.ref a) (.list (pyXs ds)) _ := Reads.list ho hc hd rd
    have na : a ∉ bs := not_mem_of_deeper rl (by simp only [PyData.depth]; omega) most
    refine ⟨_, a :: bs, rl, ReadAtMost.cons rl (by simp only [PyData.depth]; omega) most, ?_⟩
    simp only [PyData.depth, PyData.shown]
    cases its with
    | nil =>
      rw [reads_nil rd]
      simp only [PyData.shownAll, listText_nil]
      exact ReprK.listEmpty ho hc hd
    | cons y l => exact ReprK.list ho hc hd na (by simpa using all.length_eq) (fun j z e => all.item j z (by simpa using e))
  | .tup ds, u, v, p, h, r, sh, sz => by
    simp only [rep] at h
    obtain ⟨a, vs, rfl, _, hp, hl⟩ := h
    cases r
    obtain ⟨its, rv, ⟨o, ho, hc, n, hd⟩, _⟩ := I.tuple (.inl (.inl hp))
    simp only [plainX] at p
    simp only [pyX, PyData.showable, PyData.shown] at sh sz ⊢
    obtain ⟨as, bs, rd, most, all⟩ := shXs I ds vs its p hl rv sh (fun t ht => Nat.le_trans (tupleText_mem_le ht) sz)
    have rl : Reads s.heap (.ref a) (.tuple (pyXs ds)) _ := Reads.tuple ho hc hd rd
    have na : a ∉ bs := not_mem_of_deeper rl (by simp only [PyData.depth]; omega) most
    refine ⟨_, a :: bs, rl, ReadAtMost.cons rl (by simp only [PyData.depth]; omega) most, ?_⟩
    simp only [PyData.depth, PyData.shown]
    exact ReprK.tuple ho hc hd na all
  | .ins _ _ _, u, v, p, h, r, sh, sz => by simp only [plainX] at p; cases p
  | .dct ks ds, u, v, p, h, r, sh, sz => by
    simp only [rep] at h
    obtain ⟨a, vs, rfl, _, hp, hlk, hl⟩ := h
    cases r
    obtain ⟨_, low, ws, kv, o, es, ep, ho, hc, hd, _, pr, _⟩ := dk_of I.hok hp
    simp only [plainX, Bool.and_eq_true, decide_eq_true_eq] at p
    obtain ⟨vk, vv⟩ := entries_vals (ks := ks) hlk kv pr
    have lx : (ks.map pyKey).length = (pyXs ds).length := by rw [List.length_map, pyXs_len]; exact p.1
    simp only [pyX, PyData.showable, PyData.shown] at sh sz ⊢
    generalize hkv : (ks.map pyKey).zip (pyXs ds) = kvs at sh sz ⊢
    have f1 : kvs.map (·.1) = ks.map pyKey := by rw [← hkv]; exact List.map_fst_zip (by omega)
    have f2 : kvs.map (·.2) = pyXs ds := by rw [← hkv]; exact List.map_snd_zip (by omega)
    obtain ⟨s1, s2⟩ := PyData.showableKv_split kvs sh
    obtain ⟨as1, b1, d1, m1, k1⟩ := shKeys X s ks _ vk (by rw [← f1]; exact s1) (fun t ht => let ⟨q, hq, hql⟩ := PyData.shownKv_key_le kvs t (by rw [f1]; exact ht); Nat.le_trans hql (Nat.le_trans (dictText_mem_le hq) sz))
    obtain ⟨as2, b2, d2, m2, k2⟩ := shXs I ds vs _ p.2 hl vv (by rw [← f2]; exact s2) (fun t ht => let ⟨q, hq, hql⟩ := PyData.shownKv_val_le kvs t (by rw [f2]; exact ht); Nat.le_trans hql (Nat.le_trans (dictText_mem_le hq) sz))
    rw [← f1] at d1 m1 k1
    rw [← f2] at d2 m2 k2
    have rl : Reads s.heap (.ref a) (.dict kvs) _ := Reads.dict ho hc.1 hd d1 d2
    have hb : ReadAtMost s.heap (PyData.depthKv kvs) (b1 ++ b2) := (m1.mono (PyData.depthAll_keys_le kvs)).append (m2.mono (PyData.depthAll_vals_le kvs))
    have na : a ∉ b1 ++ b2 := not_mem_of_deeper rl (by simp only [PyData.depth]; omega) hb
    refine ⟨_, a :: (b1 ++ b2), rl, ReadAtMost.cons rl (by simp only [PyData.depth]; omega) hb, ?_⟩
    simp only [PyData.depth, PyData.shown, PyData.shownKv_eq]
    exact ReprK.dict ho hc.1 hd low na (ReprEntriesK.of_two es.toList _ _
      (k1.more_le (fun b hb => List.mem_append_left _ hb) (PyData.depthAll_keys_le kvs)) (k2.more_le (fun b hb => List.mem_append_right _ hb) (PyData.depthAll_vals_le kvs)))
  | .dcT _ _, u, v, p, h, r, sh, sz => by simp only [plainX] at p; cases p
  | .exc _ _ _, u, v, p, h, r, sh, sz => by simp only [plainX] at p; cases p
theorem shXs (I : L2.Inv X pins σ H s) : ∀ (ds : List D) (us : List V) (vs : List Value), plainXs ds = true → repL ms H ds us → Vals us vs → PyData.showableAll (pyXs ds) = true → (∀ t ∈ PyData.shownAll (pyXs ds), t.length ≤ sizeLine) → ShXs X s vs (pyXs ds)
  | [], us, vs, p, h, r, sh, sz => by
    obtain rfl := repL_empty h
    cases r
    simp only [pyXs]
    exact ⟨_, [], .nil, (fun _ z => nomatch z), by simp only [PyData.shownAll]; exact .nil⟩
  | d :: ds, us, vs, p, h, r, sh, sz => by
    obtain ⟨u, ws, rfl, h1, h2⟩ := repL_uncons h
    cases r with
    | cons r1 r2 =>
      simp only [plainXs, Bool.and_eq_true] at p
      simp only [pyXs, PyData.showableAll, PyData.shownAll, Bool.and_eq_true] at sh sz ⊢
      obtain ⟨a1, b1, d1, m1, k1⟩ := shX I d u _ p.1 h1 r1 sh.1 (sz _ List.mem_cons_self)
      obtain ⟨a2, b2, d2, m2, k2⟩ := shXs I ds ws _ p.2 h2 r2 sh.2 (fun t ht => sz t (List.mem_cons_of_mem _ ht))
      refine ⟨_, b1 ++ b2, .cons d1 d2, ?_, ?_⟩
      · simp only [PyData.depthAll]
        exact ReadAtMost.append (m1.mono (Nat.le_max_left _ _)) (m2.mono (Nat.le_max_right _ _))
      · simp only [PyData.depthAll]
        exact .cons ((k1.more fun _ z => List.mem_append_left _ z).level_le (Nat.le_max_left _ _)) (k2.more_le (fun _ z => List.mem_append_right _ z) (Nat.le_max_right _ _))
end
end
def rReprX (ms : List Addr) : List V → Hp → VK → Prop := fun xs H Q => ∃ (x : V) (d : D), xs = [x] ∧ rep ms H d x ∧ plainX d = true ∧ (pyX d).showable = true ∧ (pyX d).depth ≤ 60 ∧ (pyX d).shown.length ≤ sizeLine ∧ Q (.str (pyX d).shown) H
theorem call_reprX {X : Cx} {ms : List Addr} (gu : X.A.guards = some []) (un : X.A.units + 65 < cLine) : CallR X (.builtin "repr") (rReprX ms) := by
  intro pins s σ H xs us Q I r h
  obtain ⟨x, d, rfl, rp, pl, sh, dep, sz, q⟩ := h
  obtain ⟨u, rfl, ru⟩ := r.one
  have fin : ∀ (h' : Heap) (t2 : Tok) (tk : Nat), (∀ b o, s.heap.get? b = some o → h'.get? b = some o) → EP X pins σ Q (.str (pyX d).shown t2) { s with heap := h', toks := tk } := fun h' t2 tk keep => ⟨.str (pyX d).shown, H, I.kept keep, ⟨t2, rfl⟩, q⟩
  cases d with
  | v y =>
    obtain rfl := of_v rp
    cases x <;> simp only [plainX, pyX] at pl sh sz q fin ⊢
    case non =>
      cases ru
      exact P.repr_of_none ⟨.str PyData.none.shown, H, I.tok _, ⟨_, rfl⟩, q⟩
    case bl b =>
      cases ru
      exact P.repr_of_bool ⟨.str (PyData.bool b).shown, H, I.tok _, ⟨_, rfl⟩, q⟩
    case int i =>
      obtain ⟨t, rfl⟩ := ru
      exact P.repr_of_int (of_decide_eq_true sh) ⟨.str (PyData.int i).shown, H, I.tok _, ⟨_, rfl⟩, q⟩
    case str z =>
      obtain ⟨t, rfl⟩ := ru
      exact P.repr_of_str ⟨.str (PyData.str z).shown, H, I.tok _, ⟨_, rfl⟩, q⟩ sz
    all_goals cases pl
  | lst ds =>
    simp only [rep] at rp
    obtain ⟨a, vs, rfl, _, hp, hl⟩ := rp
    cases ru
    obtain ⟨its, rv, ⟨o, n, ho, hc, _, hd⟩, _⟩ := I.list (.inl (.inl hp))
    simp only [plainX] at pl
    simp only [pyX, PyData.showable, PyData.shown, PyData.depth] at sh sz dep fin ⊢
    obtain ⟨as, bs, rd, most, all⟩ := shXs I ds vs its pl hl rv sh (fun t ht => Nat.le_trans (listText_mem_le ht) sz)
    have rl : Reads s.heap (.ref a) (.list (pyXs ds)) _ := Reads.list ho hc hd rd
    have na : a ∉ bs := not_mem_of_deeper rl (by simp only [PyData.depth]; omega) most
    refine call_repr_slot (by omega) ⟨o, ho, hc⟩ F.slot_list_repr.toG ?_
    cases its with
    | nil =>
      rw [reads_nil rd] at fin
      simp only [PyData.shownAll, listText_nil] at fin
      exact call_list_repr_empty ⟨o, ho, hc⟩ ho hd ⟨_, _, rfl, fin s.heap _ _ fun _ _ e => e⟩
    | cons y l => exact call_list_reprK ho hc hd na (by simpa using all.length_eq) (fun j z e => all.item j z (by simpa using e)) gu (fun b _ => Clear.nil b) (by show X.A.units + 1 + _ < cLine; omega) (fun _ _ z => z) (fun h' t2 tk keep => ⟨_, _, rfl, fin h' t2 tk keep⟩) sz
  | tup ds =>
    simp only [rep] at rp
    obtain ⟨a, vs, rfl, _, hp, hl⟩ := rp
    cases ru
    obtain ⟨its, rv, ⟨o, ho, hc, n, hd⟩, _⟩ := I.tuple (.inl (.inl hp))
    simp only [plainX] at pl
    simp only [pyX, PyData.showable, PyData.shown, PyData.depth] at sh sz dep fin ⊢
    obtain ⟨as, bs, rd, most, all⟩ := shXs I ds vs its pl hl rv sh (fun t ht => Nat.le_trans (tupleText_mem_le ht) sz)
    have rl : Reads s.heap (.ref a) (.tuple (pyXs ds)) _ := Reads.tuple ho hc hd rd
    have na : a ∉ bs := not_mem_of_deeper rl (by simp only [PyData.depth]; omega) most
    refine call_repr_slot (by omega) ⟨o, ho, hc⟩ F.slot_tuple_repr ?_
    exact call_tuple_reprK ho hc hd na all gu (fun b _ => Clear.nil b) (by show X.A.units + 1 + _ < cLine; omega) (fun _ _ z => z) (fun h' t2 tk keep => ⟨_, _, rfl, fin h' t2 tk keep⟩) sz
  | ins _ _ _ => simp only [plainX] at pl; cases pl
  | dct ks ds =>
    simp only [plainX, Bool.and_eq_true, decide_eq_true_eq] at pl
    simp only [rep] at rp
    obtain ⟨a, vs, rfl, _, hp, hlk, hl⟩ := rp
    cases ru
    obtain ⟨_, low, ws, kv, o, es, ep, ho, hc, hd, _, pr, _⟩ := dk_of I.hok hp
    obtain ⟨vk, vv⟩ := entries_vals (ks := ks) hlk kv pr
    have lx : (ks.map pyKey).length = (pyXs ds).length := by rw [List.length_map, pyXs_len]; exact pl.1
    simp only [pyX, PyData.showable, PyData.shown, PyData.depth] at sh sz dep fin ⊢
    generalize hkv : (ks.map pyKey).zip (pyXs ds) = kvs at sh sz dep fin ⊢
    have f1 : kvs.map (·.1) = ks.map pyKey := by rw [← hkv]; exact List.map_fst_zip (by omega)
    have f2 : kvs.map (·.2) = pyXs ds := by rw [← hkv]; exact List.map_snd_zip (by omega)
    obtain ⟨s1, s2⟩ := PyData.showableKv_split kvs sh
    obtain ⟨as1, b1, d1, m1, k1⟩ := shKeys X s ks _ vk (by rw [← f1]; exact s1) (fun t ht => let ⟨q, hq, hql⟩ := PyData.shownKv_key_le kvs t (by rw [f1]; exact ht); Nat.le_trans hql (Nat.le_trans (dictText_mem_le hq) sz))
    obtain ⟨as2, b2, d2, m2, k2⟩ := shXs I ds vs _ pl.2 hl vv (by rw [← f2]; exact s2) (fun t ht => let ⟨q, hq, hql⟩ := PyData.shownKv_val_le kvs t (by rw [f2]; exact ht); Nat.le_trans hql (Nat.le_trans (dictText_mem_le hq) sz))
    rw [← f1] at d1 m1 k1
    rw [← f2] at d2 m2 k2
    have rl : Reads s.heap (.ref a) (.dict kvs) _ := Reads.dict ho hc.1 hd d1 d2
    have hb : ReadAtMost s.heap (PyData.depthKv kvs) (b1 ++ b2) := (m1.mono (PyData.depthAll_keys_le kvs)).append (m2.mono (PyData.depthAll_vals_le kvs))
    have na : a ∉ b1 ++ b2 := not_mem_of_deeper rl (by simp only [PyData.depth]; omega) hb
    refine call_repr_slot (by omega) ⟨o, ho, hc.1⟩ F.slot_dict_repr ?_
    rw [PyData.shownKv_eq] at sz fin
    exact call_dict_reprK ho hc.1 hd low na (ReprEntriesK.of_two es.toList _ _
      (k1.more_le (fun b hb => List.mem_append_left _ hb) (PyData.depthAll_keys_le kvs)) (k2.more_le (fun b hb => List.mem_append_right _ hb) (PyData.depthAll_vals_le kvs))) gu (fun b _ => Clear.nil b) (by show X.A.units + 1 + _ < cLine; omega) (fun _ _ z => z) (fun h' t2 tk keep => ⟨_, _, rfl, fin h' t2 tk keep⟩) sz
  | dcT _ _ => simp only [plainX] at pl; cases pl
  | exc _ _ _ => simp only [plainX] at pl; cases pl
end Rx
namespace Rx
open PySem PySem.Spec PyProof.Rows L2
section
variable {P : Program} {w : World} {K : PySem.W.Frag} {mg mb : Str → Option Value} {k : Nat} {fa a : Addr} {fd : FuncData} {x : Str} {sp : Sp} {s1 : Shared} {vs : List Value} {ns : List Int} {cs : List (Addr × Addr)}
structure TabT (K : PySem.W.Frag) (h : Heap) (cs : List (Addr × Addr)) : Prop where
  at_ : ∀ p ∈ cs, h.get? p.2 = some { cls := .none, data := .fields #[] }
  un : ∀ p ∈ cs, K.lookup p.2 = none
  cd : ∀ p ∈ cs, PySem.W.CodeHd h p.1 p.2
end
end Rx
namespace Rx
open PySem PySem.Spec PyProof.Rows L2
section
variable {P : Program} {w : World} {K : PySem.W.Frag} {mg : Str → Option Value} {base : Heap}
end
section
variable {X : Cx}
end
theorem rep_reprX {ms : List Addr} {H : Hp} {x : V} {d : D} {Q : VK} (h : rep ms H d x) (p : plainX d = true ∧ (pyX d).showable = true ∧ (pyX d).depth ≤ 60 ∧ (pyX d).shown.length ≤ sizeLine) (q : Q (.str (pyX d).shown) H) : rReprX ms [x] H Q :=
  ⟨x, d, rfl, h, p.1, p.2.1, p.2.2.1, p.2.2.2, q⟩
end Rx
namespace Rx
open PySem PySem.Spec PyProof.Rows L2
def rReprY : List V → Hp → VK → Prop := fun xs H Q => ∃ ms, rReprX ms xs H Q
theorem call_reprY {X : Cx} (gu : X.A.guards = some []) (un : X.A.units + 65 < cLine) : CallR X (.builtin "repr") rReprY := fun pins s σ H xs us Q I r ⟨ms, h⟩ => call_reprX gu un pins s σ H xs us Q I r h
theorem rep_reprY {ms : List Addr} {H : Hp} {x : V} {d : D} {Q : VK} (h : rep ms H d x) (p : plainX d = true ∧ (pyX d).showable = true ∧ (pyX d).depth ≤ 60 ∧ (pyX d).shown.length ≤ sizeLine) (q : Q (.str (pyX d).shown) H) : rReprY [x] H Q :=
  ⟨ms, rep_reprX h p q⟩
end Rx
namespace Rx
open PySem PySem.Spec PyProof.Rows L2
section
variable {ms : List Addr} {ps : List PEn} {H0 H H1 H' : Hp} {d : D} {u : V} {L : Addr}
end
end Rx
namespace Rx
open PySem PySem.Spec PyProof.Rows L2
end Rx
namespace Rx
open PySem PySem.Spec PyProof.Rows L2
section
end
end Rx
namespace Rx
open PySem PySem.Spec PyProof.Rows L2
structure OexG (K : PySem.W.Frag) (C : Addr) : Prop where
  base : ∃ (B newId initId : String) (bmB : List Value), ExcBaseFacts B newId initId bmB ∧ StoreFacts B bmB "object.__setattr__" "object" ∧ PySem.W.excInitIn K C bmB newId = true ∧ PySem.W.excOver K C bmB = true
  cd : ∃ cd, PySem.W.clsIn K C = some cd ∧ cd.hasDict = true
  sa : PySem.W.findIn K (.ref C) "__setattr__" = some (some (.builtin "object.__setattr__"))
  exC : PySem.W.subIn K (.ref C) (.type "BaseException") = some true
  tyC : PySem.W.typeIn K (.ref C) = some (.type "type")
  kC : PySem.W.keepIn K (.ref C) = true
section
open PySem.W Builtin Builtin.ObjectAttr
variable {prog : Program} {w : World} {A : Around} {R : Result → Shared → Prop} {hp : Heap} {g : Array GenState} {d : Drawn} {t : Nat} {os : OsState} {K : PySem.W.Frag} {x C : Addr} {name : Str} {tk : Tok} {v : Value}
theorem taker_none (ha : findIn K (.ref C) name = some none) : takerIn K C name = some none := by
  unfold takerIn
  rw [ha]
  rfl
theorem gosa_new (T : OexG K C) (X : K.In hp) {fv : Array Value} (hx : hp.get? x = some { cls := .ref C, data := .fields fv }) (ha : findIn K (.ref C) name = some none)
    (hq : ∀ h' tk' dx, (∀ b o, b ≠ x → hp.get? b = some o → h'.get? b = some o) → hp.objs.size ≤ dx → dx ≠ x → h'.get? x = some { cls := .ref C, dict := some dx, data := .fields fv } →
      h'.Ns1 dx (fun y => if y = name then some v else none) → R (.ok (.ret .none)) ⟨h', g, d, tk', os⟩) :
    codeAny (model prog w) A (.call (.builtin "object.__setattr__") ⟨[.ref x, .str name tk, v], []⟩) R ⟨hp, g, d, t, os⟩ := by
  obtain ⟨B, newId, initId, bmB, F, SF, q1, q2⟩ := T.base
  obtain ⟨cd, hc, hh⟩ := T.cd
  have hxs : x ≠ hp.objs.size := Nat.ne_of_lt (Heap.lt_size hx)
  have hcls : W.Looks (model prog w) hp (classData C) cd := W.looks_clsIn X hc
  refine osa_openX (s := ⟨hp, g, d, t, os⟩) (od := none) SF X ⟨hx, rfl, rfl, trivial⟩ q2 (taker_none ha) fun b => ?_
  obtain ⟨nm, bs, mro, ns, qn, hd, sn, sb, ab, col, del⟩ := cd
  dsimp only at hh
  subst hh
  show wpAny _ _ (storeInOwnDict (.ref x) (.ref C) (.str name tk) name v b) _ _ _
  unfold storeInOwnDict ownDictForStores
  repeat (first | with_reducible refine PySem.HandSPX.store_in_new ?_ ?_ | with_reducible refine wpAny_loadPart_at hx ?_ | with_reducible refine hcls.at ?_ | wp_step)
  · exact ⟨_, #[], _, (Heap.get?_update_ne _ _ _ _ hxs.symm).trans (Heap.get?_push_at rfl rfl), rfl, fun e he => absurd he (by simp), fun _ => rfl⟩
  · intro h' tk' hn' hs
    refine hq h' tk' hp.objs.size (fun b o hb ho => ?_) (Nat.le_refl _) hxs.symm ?_ hn'
    · exact (hs.2 b (Nat.ne_of_lt (Heap.lt_size ho))).trans ((Heap.get?_update_ne _ _ _ _ hb).trans (Heap.get?_push_of_some _ ho))
    · exact (hs.2 x hxs).trans (Heap.get?_update_self _ (Heap.get?_push_of_some _ hx) rfl)
theorem gosa_old (T : OexG K C) (X : K.In hp) {fv : Array Value} {dx : Addr} {m0 : Str → Option Value} {nl : List Str} (hx : hp.get? x = some { cls := .ref C, dict := some dx, data := .fields fv }) (hns : hp.Ns1 dx m0) (hw : Within m0 nl) (hz : nl.length ≤ 1000)
    (ha : findIn K (.ref C) name = some none)
    (hq : ∀ h' tk', (∀ b o, b ≠ dx → hp.get? b = some o → h'.get? b = some o) → h'.Ns1 dx (fun y => if y = name then some v else m0 y) → R (.ok (.ret .none)) ⟨h', g, d, tk', os⟩) :
    codeAny (model prog w) A (.call (.builtin "object.__setattr__") ⟨[.ref x, .str name tk, v], []⟩) R ⟨hp, g, d, t, os⟩ := by
  obtain ⟨B, newId, initId, bmB, F, SF, q1, q2⟩ := T.base
  obtain ⟨cd, hc, hh⟩ := T.cd
  obtain ⟨oD, esD, epD, hoD, hdD, _⟩ := hns.count hw
  have hcls : W.Looks (model prog w) hp (classData C) cd := W.looks_clsIn X hc
  refine osa_openX (s := ⟨hp, g, d, t, os⟩) (od := some oD) SF X ⟨hx, rfl, rfl, hoD⟩ q2 (taker_none ha) fun b => ?_
  obtain ⟨nm, bs, mro, ns, qn, hd, sn, sb, ab, col, del⟩ := cd
  dsimp only at hh
  subst hh
  show wpAny _ _ (storeInOwnDict (.ref x) (.ref C) (.str name tk) name v b) _ _ _
  unfold storeInOwnDict ownDictForStores
  repeat (first | with_reducible refine PySem.OEX.store_in_old hns hw hz ?_ | with_reducible refine wpAny_loadPart_at hx ?_ | with_reducible refine hcls.at ?_ | wp_step)
  intro h' tk' hn' hs
  exact hq h' tk' (fun b o hb ho => (hs.2 b hb).trans ho) hn'
end
section
variable {X : Cx} {pins : List (Addr × Obj)} {σ : L2.St} {H : Hp} {s : Shared} {a C dx : Addr} {f : Str} {y : V} {u : Value} {fs : List (Str × V)} {Q : Unit → Shared → Prop} {E : Value → Shared → Prop}
theorem gost_new (T : OexG X.K C) (I : L2.Inv X pins σ H s) (e : H a = some (exo a C none)) (hno : PySem.W.findIn X.K (.ref C) f = some none) (ry : RelV y u)
    (h : ∀ dx s', H dx = none → dx ≠ a → L2.Inv X pins σ (upd (upd H dx (exd dx [(f, y)])) a (exo a C (some dx))) s' → Q () s') : wpAny (model X.prog X.w) A (setAttr (.ref a) f u) Q E s := by
  obtain ⟨t1, ho⟩ := exo_at I.hok e
  obtain ⟨hp, g, d, t, os⟩ := s
  refine PySem.W.set_plain I.kIn (ox := { cls := .ref C, dict := none, data := .fields #[.ref t1, .none, .none, .none, .bool false, .none] }) (od := none) ⟨ho, rfl, rfl, trivial⟩ T.sa ?_
  refine gosa_new T I.kIn ho hno fun h' tk' dx k dn dne hx hn => ?_
  have hnd : H dx = none := I.hok.fresh dn
  have other : ∀ {b : Addr} {o : HO}, b ≠ a → H b = some o → (upd (upd H dx (exd dx [(f, y)])) a (exo a C (some dx))) b = some o := fun {b o} nb hb => by
    rw [upd_ne nb, upd_ne (ne_of_none hb hnd)]
    exact hb
  have free : ∀ {b : Addr} {o : Obj}, hp.get? b = some o → H b = none → b ≠ a ∧ b ≠ dx := fun {b o} q n =>
    ⟨(fun z => by rw [z, e] at n; cases n), Nat.ne_of_lt (Nat.lt_of_lt_of_le (Heap.lt_size q) dn)⟩
  have un : Un X.fs [] H (upd (upd H dx (exd dx [(f, y)])) a (exo a C (some dx))) hp h' := {
    keep := fun b o q n _ _ => k b o (free q n).1 q
    slot := fun b o q n _ _ => ⟨o.slots, k b o (free q n).1 q⟩
    free := fun b o q n _ => by rw [upd_ne (free q n).1, upd_ne (free q n).2]; exact n
    there := fun b o q _ => by
      by_cases hb : b = a
      · exact ⟨_, by rw [hb]; exact hx⟩
      · exact ⟨o, k b o hb q⟩
    tups := fun b xs q => other (at_ne e q exo_tup) q
    frzs := fun b o v q => other (at_ne e q exo_frz) q
    tbls := fun b ps q => ⟨#[], by rw [other (at_ne e q exo_tbl) q]; simp⟩ }
  refine h dx _ hnd dne (I.un (t' := tk') un fun b o q => ?_)
  by_cases hb : b = a
  · subst hb
    rw [upd_same] at q
    cases q
    exact exo_ok hx
  rw [upd_ne hb] at q
  by_cases hd : b = dx
  · subst hd
    rw [upd_same] at q
    cases q
    exact exd_ok hn (relO_put (fs := []) ry fun g => True.intro)
  rw [upd_ne hd] at q
  refine (I.hok b o q).stay (fun c v hc z => k c v ?_ z) (fun c hc => other (at_ne e hc exo_own) hc) fun c xs hc => other (at_ne e hc exo_tup) hc
  rcases hc with hc | hc
  · rw [hc]
    exact hb
  · exact at_ne e hc exo_own
theorem gost_old (T : OexG X.K C) (I : L2.Inv X pins σ H s) (e : H a = some (exo a C (some dx))) (ed : H dx = some (exd dx fs)) (hl : fs.length ≤ 900) (hno : PySem.W.findIn X.K (.ref C) f = some none) (ry : RelV y u)
    (h : ∀ s', L2.Inv X pins σ (upd H dx (exd dx ((f, y) :: fs))) s' → Q () s') : wpAny (model X.prog X.w) A (setAttr (.ref a) f u) Q E s := by
  obtain ⟨t1, ho⟩ := exo_at I.hok e
  obtain ⟨mA, hns, rel⟩ := exd_at I.hok ed
  have hw := within_of rel
  obtain ⟨hp, g, d, t, os⟩ := s
  obtain ⟨oD, _, _, hoD, _, _⟩ := hns.count hw
  refine PySem.W.set_plain I.kIn (ox := { cls := .ref C, dict := some dx, data := .fields #[.ref t1, .none, .none, .none, .bool false, .none] }) (od := some oD) ⟨ho, rfl, rfl, hoD⟩ T.sa ?_
  refine gosa_old T I.kIn ho hns hw (by rw [List.length_map]; omega) hno fun h' tk' k hn => ?_
  have hd : ∃ o, h'.get? dx = some o := by
    obtain ⟨o, _, _, e', _⟩ := hn
    exact ⟨o, e'⟩
  exact h _ (I.write (t' := tk') (x := dx) (e := dx) (o := exd dx ((f, y) :: fs)) (by rw [ed]; exact True.intro) (.inl rfl) k hd (exd_ok hn (relO_put ry rel)))
end
def tOstG (K : PySem.W.Frag) (f : Str) (to te : TE) : TS := fun D σ H => te σ H fun y H1 => to σ H1 fun x H2 => ∃ a C : Addr, x = .ref a ∧ OexG K C ∧ PySem.W.findIn K (.ref C) f = some none ∧
  ((H2 a = some (exo a C none) ∧ ∀ dx, H2 dx = none → dx ≠ a → D.nx σ (upd (upd H2 dx (exd dx [(f, y)])) a (exo a C (some dx)))) ∨
    ∃ (dx : Addr) (fs : List (Str × V)), H2 a = some (exo a C (some dx)) ∧ H2 dx = some (exd dx fs) ∧ fs.length ≤ 900 ∧ D.nx σ (upd H2 dx (exd dx ((f, y) :: fs))))
section
variable {X : Cx} {o e : PySem.Expr} {es : List PySem.Expr} {to te : TE} {ta : TA} {f : Str} {p p' pos : Pos}
theorem ps_ostG {K : PySem.W.Frag} (hK : X.K = K) (ho : PE X o to) (he : PE X e te) (hs : swapsWith e (some (.Attribute o f p')) pos.line X.env = pure false := by rfl) : PS X (.Assign [.Attribute o f p'] e pos) (tOstG K f to te) := by
  subst hK
  refine ⟨fun pins s σ H D I h => ?_⟩
  refine plainObj_wpAny_Assign_Attribute (thn (he.run pins s σ H _ I h) fun v s1 ⟨y, H1, I1, r1, q1⟩ => thn (ho.run pins s1 σ H1 _ I1 q1) fun u s2 ⟨x, H2, I2, r2, a, C, ex, T, hno, q⟩ => ?_) hs
  subst ex
  obtain rfl : u = Value.ref a := r2
  rcases q with ⟨ea, q⟩ | ⟨dx, fs, ea, ed, hl, q⟩
  · exact gost_new T I2 ea hno r1 fun dx s' n ne J => ⟨σ, _, J, q dx n ne⟩
  · exact gost_old T I2 ea ed hl hno r1 fun s' J => ⟨σ, _, J, q⟩
end
def sp_exi2 (C : Addr) (n m : Str) : Sp := fun vs H Q _ => ∃ (a : Addr) (y z : V), vs = [.ref a, y, z] ∧ H a = some (exo a C none) ∧ ∀ dx, H dx = none → dx ≠ a → Q .non (upd (upd (upd H dx (exd dx [(n, y)])) a (exo a C (some dx))) dx (exd dx [(m, z), (n, y)]))
section
variable {ms ms' : List Addr} {ps : List PEn} {cs : List (Addr × List V)} {H0 H H1 H' : Hp} {C : Addr}
end
theorem oexG_of {K : PySem.W.Frag} {C : Addr} {B newId initId : String} {bmB : List Value} (F : ExcBaseFacts B newId initId bmB) (SF : StoreFacts B bmB "object.__setattr__" "object") (q1 : PySem.W.excInitIn K C bmB newId = true) (q2 : PySem.W.excOver K C bmB = true)
    (hd : (PySem.W.clsIn K C).any (fun cd => cd.hasDict) = true) (sa : PySem.W.findIn K (.ref C) "__setattr__" = some (some (.builtin "object.__setattr__"))) (ex : PySem.W.subIn K (.ref C) (.type "BaseException") = some true) (ty : PySem.W.typeIn K (.ref C) = some (.type "type")) (kc : PySem.W.keepIn K (.ref C) = true) : OexG K C :=
  ⟨⟨B, newId, initId, bmB, F, SF, q1, q2⟩, by
    cases h : PySem.W.clsIn K C with
    | none => rw [h] at hd; cases hd
    | some cd => rw [h] at hd; exact ⟨cd, rfl, hd⟩, sa, ex, ty, kc⟩
end Rx
namespace Rx
open PySem PySem.Spec PyProof.Rows L2
section
variable {α : Type}
end
section
end
section
variable {K : PySem.W.Frag} {ms : List Addr} {ps : List PEn} {H0 H : Hp} {x : V} {L : Addr} {ds : List D}
end
section
variable {X : L2.Cx}
end
section
variable {X : L2.Cx} {e : PySem.Expr} {te : TE}
end
section
variable {α β : Type} {K : PySem.W.Frag} {H1 : Hp} {σ : L2.St} {Qd : Hp → Prop} {L : Addr} {ms : List Addr} {tc : TE}
end
section
variable {K : PySem.W.Frag} {ms : List Addr} {H : Hp} {x : V} {a : Addr} {ds : List D}
end
end Rx
namespace Rx
open PySem PySem.Spec PyProof.Rows L2
section
variable {M : Model} {A : Around} {E : Value → Shared → Prop} {s : Shared} {a : Addr} {pos : Pos} {Q : Value → Shared → Prop}
end
section
variable {K : PySem.W.Frag} {X : Cx} {C g0 : Addr} {CX : CXT} {k : Nat} {sp : Sp} {E : XK} {fe : PySem.Expr} {tf : TE} {tk : TA} {pos : Pos} {fd : FuncData} {ps ks : List Str} {kws : List Keyword} {g : List Value → List Value → List Value} {gV : List V → List V → List V}
end
section
variable {X : Cx} {CX : CXT} {k : Nat} {C g0 : Addr} {fd : FuncData} {ps ks : List Str} {sp : Sp} {E : XK} {o : PySem.Expr} {m : Str} {pos apos : Pos} {ta : TE} {tk : TA} {kws : List Keyword} {g : List Value → List Value → List Value} {gV : List V → List V → List V}
end
section
variable {X : Cx} {b : List Stmt} {t1 t2 : TS}
end
section
variable {ms ms' : List Addr} {ps : List PEn} {H0 H H1 : Hp} {L : Addr}
end
end Rx
namespace Rx
open PySem PySem.Spec PyProof.Rows L2
section
variable {X : Cx} {pins : List (Addr × Obj)} {σ : L2.St} {H : Hp} {s : Shared}
end
end Rx
namespace PySem.W
open Lean Elab Tactic Meta PySem PySem.Calls PyProof.Rows
section
variable {prog : Program} {w : World} {A : Around} {E : Value → Shared → Prop} {s : Shared} {K : Frag} {y C L f g : Addr} {h₀ : Heap} {m : Str → Option Value} {oy : Obj} {oe : Option Obj} {v : Value} {T : String} {b : Bool} {t : Tok}
end
end PySem.W
namespace Rx
open PySem PySem.Spec PyProof.Rows L2
structure OpN (op : Operator) : Prop where
  n : ∀ T ∈ (["NoneType", "str", "list", "tuple", "dict"] : List String), fillsNumberSlot (.type T) op.info.2 = pure false
  b : fillsNumberSlot (.type "bool") op.info.2 = pure true
  r : ∃ ro, typeLookup (.type "bool") (dunderR op.info.2) = pure ro
structure OpI (op : Operator) : Prop where
  b : fillsNumberSlot (.type "int") op.info.2 = pure true
  r : ∃ ro, typeLookup (.type "int") (dunderR op.info.2) = pure ro
end Rx
namespace Rx
open PySem PySem.Spec PyProof.Rows L2
theorem shR_ok {K : PySem.W.Frag} {a : Addr} {x q : Str} {ps : Arguments} {body : List Stmt} {sc : Scope} {dV cd : Value}
    (e : shR K a = some (x, q, ps, .stmts body, sc, mainGlobals, [], builtinsNs)) (d : dfR K a = some dV) (c : cdR K a = cd) :
    ∃ oc od sl kV dc pm an ct, K.lookup a = some ⟨oc, od, .func (PySem.W.fnOf x q ps body sc dV kV dc pm an cd ct), sl⟩ := by
  unfold shR at e
  unfold dfR at d
  unfold cdR at c
  cases z : fdR K a with
  | none =>
    rw [z] at e
    cases e
  | some fd =>
    rw [z] at e d c
    obtain ⟨n1, n2, n3, n4, n5, n6, n7, n8, n9, n10, n11, n12, n13, n14, n15⟩ := fd
    have e1 := Option.some.inj e
    have d1 := Option.some.inj d
    simp only [Prod.mk.injEq] at e1 d1 c
    obtain ⟨h1, h2, h3, h4, h5, h6, h7, h8⟩ := e1
    subst h1 h2 h3 h4 h5 h6 h7 h8 d1 c
    unfold fdR at z
    split at z
    · rename_i oc od fd sl hl
      cases z
      exact ⟨oc, od, sl, _, _, _, _, _, hl⟩
    · cases z
theorem frcK_eq {α : Type} : ∀ (K : PySem.W.Frag) (k : PySem.W.Frag → α), frcK K k = k K
  | [], _ => rfl
  | (a, o) :: r, k => by
    show frcK r (fun r => k ((a, o) :: r)) = _
    rw [frcK_eq r]
theorem obF_eq {n : Nat} {ea eb : PySem.W.Frag → Bool} {fn : List (PySem.W.Frag → Addr)} {vs : List He.FnW} {ts : List He.Tab} (s : PySem.W.SharedT) : obF n ea eb fn ts s = (hkR n (fun K => ea K && eb K) fn vs ts).obs s.abs := by
  have e : HandSHeadRun.getT s = s.abs.heap.get? := funext fun a => HandSHeadRun.getT_eq s a
  show (frcK (He.frT (HandSHeadRun.getT s) (List.range n)) ea && frcK (He.frT (HandSHeadRun.getT s) (List.range n)) eb, frcK (He.frT (HandSHeadRun.getT s) (List.range n)) fun K => (fn.map fun a => shR K (a K), ts.map fun t => He.dicW K (t.1 K))) = obK (fun K => ea K && eb K) fn ts (He.frT s.abs.heap.get? (List.range n))
  rw [frcK_eq, frcK_eq, frcK_eq, e]
  rfl
theorem fnAt {K : PySem.W.Frag} {fn : List (PySem.W.Frag → Addr)} {vs : List He.FnW} (c : (fn.map fun a => shR K (a K)) = vs) (i : Nat) {a : PySem.W.Frag → Addr} {v : He.FnW} (ha : fn[i]? = some a) (hv : vs[i]? = some v) : shR K (a K) = v := by
  rw [← c, List.getElem?_map, ha] at hv
  exact Option.some.inj hv
theorem walk_ofGE {l : PySem.W.OpenLaw} {n k : Nat} {q : Program} {loose : List Str} {XP : (Str → Option Value) → Heap → Prop} {YP : World → Heap → Prop} {d : DefRec} {x : Str}
    (most : l.most = some n) (small : n ≤ sizeLine) (plain : d.params.defaults = []) (hr : Room k callerA)
    (F : ∀ (w : World) (mg : Str → Option Value) (fa : Addr) (h : Heap), YP w h → h.Ns mainGlobals mg → mg d.name = some (.ref fa) →
      ∃ K : PySem.W.Frag, K.In h ∧ ∃ (fd : FuncData) (sp : Sp), (∀ (s : Shared) (u : Value), BindsTo s fd ⟨[u], []⟩ [(x, u)]) ∧
        (∀ (H : Hp) (a : Addr) (ns : List Int), ns.length ≤ n → Only H → SqL K H a (ns.map V.int) → sp [.ref a] H (fun v _ => v = .bl true) E0) ∧
        ∀ base : Heap, K.In base → base.Ns mainGlobals mg → FnG l.prog w K mg base k fa fd [x] sp) :
    PySem.W.WalkO q loose XP YP l.row.toRowW d [] (fun f vs => PySem.call f vs) := by
  refine Att.attach_call most plain fun w s₀ s₁ mg mb fa o pm cd doc a vs ns G Y ho hd hcd hmg obj its0 len ng => ?_
  obtain ⟨K, KX, fd, sp, bind, enter, hF⟩ := F w mg fa _ Y G.T.g hmg
  exact callG KX G.T.g G.T.b G.T.builtins G.T.nolimit ng obj its0 (Nat.le_trans len small) hr hF bind fun H only sq => enter H a ns len only sq
end Rx

namespace Rx
open PySem PySem.Spec PyProof.Rows L2 PySem.W PySem.Calls PySem.HandSPX
section
variable {M : Model} {A : Around} {E : Value → Shared → Prop} {h : Heap} {g : Array GenState} {d : Drawn} {t : Nat} {os : OsState}
variable {nm q : Str} {C N : Addr} {bs bm bmB : List Value} {hdct : Bool} {sn : List Str} {sub : List Value} {ab : Bool} {col : Option Bool} {dd : Option Addr} {k0 k1 k2 k3 k5 : Option Value} {B newId initId : String}
theorem kw_check_new (F : ExcBaseFacts B newId initId bmB) (hT : ∀ X : String, bm.contains (.type X) = bmB.contains (.type X)) {kw : List (Str × Value)} {Q : Unit → Shared → Prop}
    (hC : h.get? C = some (excClassObj nm q C N bs bm hdct sn sub ab col dd k0 k1 k2 k3 k5 newId)) (hq : Q () ⟨h, g, d, t, os⟩) : wpAny M A (checkBuiltinCall newId ⟨[.ref C], kw⟩) Q E ⟨h, g, d, t, os⟩ := by
  have under : (Value.ref C :: bm).contains (.type B) = true := by rw [List.contains_cons, hT, F.hasB, Bool.or_true]
  have hstar := F.noStar
  simp only [checkBuiltinCall, F.newKind, F.newSplit, F.newRow]
  repeat (first | refine wpAny_loadPart_at hC ?_ | (refine wpAny_isSubtype_exc hC ?_; rw [under]) | refine wpAny_staticBase_exc hC ?_ | refine wpAny_madeBy_exc hC ?_ | simp only [bne_self_eq_false, Bool.false_eq_true, if_false] | wp_step)
  exact hq
theorem kw_check_call {kw : List (Str × Value)} {Q : Unit → Shared → Prop} (hC : h.get? C = some (excClassObj nm q C N bs bm hdct sn sub ab col dd k0 k1 k2 k3 k5 newId))
    (hq : Q () ⟨h, g, d, t, os⟩) : wpAny M A (checkBuiltinCall "type.__call__" ⟨[.ref C], kw⟩) Q E ⟨h, g, d, t, os⟩ := by
  have f3 := tc_sub
  have isTy : (⟨h, g, d, t, os⟩ : Shared).TypeIs (.ref C) "type" := ⟨_, hC, rfl⟩
  simp only [checkBuiltinCall, tc_kind, tc_split]
  repeat (any_goals (first | assumption | with_reducible refine wpAny_loadPart_at hC ?_ | with_reducible refine wpAny_onRaise ?_ | with_reducible refine wpAny_map ?_ | wp_step))
end
section
variable {prog : Program} {w : World} {A : Around} {E : Value → Shared → Prop} {R : Result → Shared → Prop} {h : Heap} {g : Array GenState} {d : Drawn} {t : Nat} {os : OsState}
variable {nm q : Str} {C N : Addr} {bs bm bmB : List Value} {hdct : Bool} {sn : List Str} {sub : List Value} {ab : Bool} {col : Option Bool} {dd : Option Addr} {k0 k1 k2 k3 k5 : Option Value} {B newId initId : String} {kw : List (Str × Value)}
abbrev hNew (h : Heap) (C : Addr) : Heap := (h.push (kdv_tup [])).push (excO C h.objs.size)
theorem kw_new (F : ExcBaseFacts B newId initId bmB) (hT : ∀ X : String, bm.contains (.type X) = bmB.contains (.type X))
    (hC : h.get? C = some (excClassObj nm q C N bs bm hdct sn sub ab col dd k0 k1 k2 k3 k5 newId))
    (hq : R (.ok (.ret (.ref (h.objs.size + 1)))) ⟨hNew h C, g, d, t, os⟩) :
    codeAny (model prog w) A (.builtin newId ⟨[.ref C], kw⟩) R ⟨h, g, d, t, os⟩ := by
  have hends := F.ends
  have inB : (Value.ref C :: bm).contains (.type B) = true := by rw [List.contains_cons, hT, F.hasB, Bool.or_true]
  have noA : (Value.ref C :: bm).contains (.type "AttributeError") = false := by rw [List.contains_cons, hT, F.noAttr]; rfl
  have noN : (Value.ref C :: bm).contains (.type "NameError") = false := by rw [List.contains_cons, hT, F.noName]; rfl
  refine codeAny_builtinAt F.entry ?_
  unfold Builtin.«BaseException.__new__»
  refine PySem.wpAt_bind ?_
  show PySem.wpAt _ _ _ (stack >>= _) _ _ _
  refine PySem.wpAt_bind (PySem.wpAt_stack fun p below => PySem.wpAt_of_wpAny ?_)
  wp_walk
  refine PySem.wpAt_of_wpAny ?_
  rw [F.owner]
  repeat (first | with_reducible refine wpAny_madeHere_exc F.canon hC ?_ | with_reducible refine wpAny_loadPart_at hC ?_ | (with_reducible refine wpAny_isSubtype_exc hC ?_; first | rw [inB] | rw [noA] | rw [noN]) | wp_step)
  show R _ _
  rw [Heap.size_push]
  exact hq
theorem kw_type_call (F : ExcBaseFacts B newId initId bmB) (hT : ∀ X : String, bm.contains (.type X) = bmB.contains (.type X)) {fI : Addr} {Q : Fin → Shared → Prop}
    (hC : h.get? C = some (excClassObj nm q C N bs bm hdct sn sub ab col dd k0 k1 k2 k3 k5 newId))
    (hi : Looks (model prog w) h (typeLookup (.ref C) "__init__") (some (.ref fI))) (hb : ∀ self, Looks (model prog w) h (bindSpecial (.ref fI) self) (.ref fI, [self]))
    (hq : codeAny (model prog w) A (.call (.ref fI) ⟨[.ref (h.objs.size + 1)], kw⟩)
      (fun r s' => match r with | .ok (.ret v) => v = .none ∧ Q (.done (.ret (.ref (h.objs.size + 1)))) s' | .ok _ => False | .error e => E e s') ⟨hNew h C, g, d, t, os⟩) :
    wpAny (model prog w) A (Builtin.«type.__call__» ⟨[.ref C], kw⟩) Q E ⟨h, g, d, t, os⟩ := by
  repeat (first | with_reducible refine wpAny_loadPart_at hC ?_ | with_reducible refine wpAny_madeBy_exc hC ?_ | wp_step)
  refine codeAny_call_builtin_code (Code.quiet_builtin _ F.quiet) (kw_check_new F hT hC ?_)
  refine kw_new F hT hC ?_
  show wpAny _ _ _ _ _ _
  have more : ∀ b o, h.get? b = some o → (hNew h C).get? b = some o := fun b o e => Heap.get?_push_of_some _ (Heap.get?_push_of_some _ e)
  have there := more _ _ hC
  have made : (hNew h C).get? (h.objs.size + 1) = some (excO C h.objs.size) := by heap_get
  have self : (Value.ref C :: bm).contains (.ref C) = true := by simp
  have i1 := hi.keeps more
  have b1 := (hb (.ref (h.objs.size + 1))).keeps more
  unfold isInstance
  repeat (first | with_reducible refine wpAny_loadPart_at made ?_ | (with_reducible refine wpAny_isSubtype_exc there ?_; rw [self]) | wp_step)
  show wpAny _ _ (typeLookup (.ref C) _) _ _ _
  refine i1.at ?_
  refine wpAny_holding (wpAny_bind (b1.at ?_))
  refine wpAny_bind (wpAny_call (codeAny_mono hq fun r s' z => ?_))
  rcases r with e | (v | _ | _ | _) <;> first | exact z | exact z.elim | skip
  obtain ⟨rfl, z⟩ := z
  first
    | exact wpAny_pure (wpAny_pure z)
    | (wp_walk; exact z)
theorem kw_call (F : ExcBaseFacts B newId initId bmB) (hT : ∀ X : String, bm.contains (.type X) = bmB.contains (.type X)) {fI : Addr}
    (hC : h.get? C = some (excClassObj nm q C N bs bm hdct sn sub ab col dd k0 k1 k2 k3 k5 newId))
    (hi : Looks (model prog w) h (typeLookup (.ref C) "__init__") (some (.ref fI))) (hb : ∀ self, Looks (model prog w) h (bindSpecial (.ref fI) self) (.ref fI, [self]))
    (hq : codeAny (model prog w) (A.under (.builtin "type.__call__" ⟨[.ref C], kw⟩)) (.call (.ref fI) ⟨[.ref (h.objs.size + 1)], kw⟩) (InitBack (h.objs.size + 1) R) ⟨hNew h C, g, d, t, os⟩) :
    codeAny (model prog w) A (.call (.ref C) ⟨[], kw⟩) R ⟨h, g, d, t, os⟩ := by
  have f1 := tc_lookup
  have f2 := tc_bind (.ref C)
  have isTy : (⟨h, g, d, t, os⟩ : Shared).TypeIs (.ref C) "type" := ⟨_, hC, rfl⟩
  refine codeAny_of_tree ?_
  show wpAny _ _ (callAny (.ref C) _) _ _ _
  repeat (any_goals (first | assumption | with_reducible refine wpAny_loadPart_at hC ?_ | wp_step))
  refine ⟨rfl, ?_⟩
  refine codeAny_call_builtin_at (Code.quiet_builtin _ (by decide +kernel)) entry_typeCall (kw_check_call hC (kw_type_call F hT hC hi hb ?_))
  refine codeAny_mono hq fun r s' z => ?_
  rcases r with e | (v | _ | _ | _) <;> exact z
end
def tMkX (C : Addr) (sp : Sp) (ta : TA) : TE := fun σ H Q => ta σ H fun vs H1 => vs.length ≤ 1000 ∧ ∀ a, H1 a = none → sp (.ref a :: vs) (upd H1 a (exo a C none)) (fun v H2 => v = .non ∧ Q (.ref a) H2) (fun _ _ _ => False)
def tMkXK (C : Addr) (m : Nat) (gV : List V → List V → List V) (sp : Sp) (tk : TA) : TE := fun σ H Q => tk σ H fun zs H1 => zs.length = m ∧ ∀ a, H1 a = none → sp (gV [.ref a] zs) (upd H1 a (exo a C none)) (fun v H2 => v = .non ∧ Q (.ref a) H2) (fun _ _ _ => False)
section
variable {X : Cx} {CX : CXT} {k : Nat} {x : Str} {C fI : Addr} {fd : FuncData} {ps ks : List Str} {sp : Sp} {e : Expr} {es : List Expr} {kws : List Keyword} {p pos : Pos} {ta tk : TA} {gf : List Value → List Value → List Value} {gV : List V → List V → List V}
theorem pe_mkX (T : OexG X.K C) (iC : findIn X.K (.ref C) "__init__" = some (some (.ref fI))) (tI : typeIn X.K (.ref fI) = some (.type "function"))
    (F1 : FnOk X.prog X.w X.K X.mg X.base CX k fI fd ps sp) (hr : Room (k + 1) X.A) (hb : L2.Binds X.K fd ps []) (hx : Passes CX X (fun _ _ _ => False)) (hg : Gl X x) (hm : X.mg x = some (.ref C)) (ha : PA X (e :: es) ta)
    (hdb : (x == ("__debug__" : Str)) = false := by decide) (he : starEach (e :: es) X.env = (false, eval e X.env) :: starEach es X.env := by rfl) (hpl : (backTo pos (starEach es X.env)).any (·.1) = false := by rfl) :
    PE X (.Call (.Name x p) (e :: es) [] pos) (tMkX C sp ta) := by
  refine ⟨fun pins s σ H Q I h => ?_⟩
  obtain ⟨B, newId, initId, bmB, F, SF, q1, q2⟩ := T.base
  refine wpAny_Call_Name_kw (ld_glob I hg hm ?_ hdb)
  refine callWith_K (h₀ := X.base) I.ok.mod.kin T.kC (thn (ha.run pos pins s σ H _ I h) fun us s1 ⟨vs, H1, I1, r1, hz, qq⟩ => ⟨I1.kIn, ?_⟩) he hpl
  show wpAny _ _ (call (.ref C) us) _ _ _
  obtain ⟨hp, g, dr, tk, os⟩ := s1
  obtain ⟨nm, N, qn, bs, bm, hdct, sn, sub, ab, col, dd, k0, k1, k2, k3, k5, hC, hT⟩ := excInit_of I1.kIn q1
  generalize ea : hp.objs.size + 1 = a
  have hsz : hp.objs.size ≤ a := by omega
  have hq := qq a (I1.hok.fresh hsz)
  have kk : ∀ b o, hp.get? b = some o → ((hp.push (kdv_tup us)).push (excO C hp.objs.size)).get? b = some o := fun b o e => Heap.get?_push_of_some _ (Heap.get?_push_of_some _ e)
  have hget : ((hp.push (kdv_tup us)).push (excO C hp.objs.size)).get? a = some (excO C hp.objs.size) := by
    rw [← ea]
    heap_get
  have I2 := I1.laid (t' := tk) (a := a) (o := exo a C none) (h' := (hp.push (kdv_tup us)).push (excO C hp.objs.size)) kk hsz (exo_ok hget)
  have r2 : Vals (V.ref a :: vs) (Value.ref a :: us) := .cons rfl r1
  have hl : (Value.ref a :: us).length = ps.length := by
    have e := r2.length
    rw [F1.len _ _ _ _ hq] at e
    exact e.symm
  have b0 := hb ⟨(hp.push (kdv_tup us)).push (excO C hp.objs.size), g, dr, tk, os⟩ (Value.ref a :: us) I2.kIn (by rw [List.append_nil]; exact hl)
  rw [List.append_nil] at b0
  have hus : us.length ≤ sizeLine := by
    rw [← Paired.length r1, sizeLine_eq]
    omega
  refine wpAny_call (HandSPX.call_own F hT hC (looks_findIn I1.kIn iC) (fun self => bind_fn I1.kIn self tI) hus ?_)
  rw [ea]
  refine codeAny_mono (F1.run _ X.stack _ _ ⟨Value.ref a :: us, []⟩ (Value.ref a :: us) _ _ (fun _ _ _ => False) (hr.make C us []) (I2.env0.make C us []) b0 r2 hq) fun r s' hq' => ?_
  cases r with
  | error er => exact hx pins σ _ _ er s' I2 hq'
  | ok fl =>
    cases fl with
    | ret u =>
      obtain ⟨v, H', I3, rv, ev, q3⟩ := I2.after hq'
      subst ev
      exact ⟨rv, ⟨V.ref a, H', I3, rfl, q3⟩⟩
    | next => exact False.elim hq'
    | brk => exact False.elim hq'
    | cont => exact False.elim hq'
theorem pe_mkXK (T : OexG X.K C) (iC : findIn X.K (.ref C) "__init__" = some (some (.ref fI))) (tI : typeIn X.K (.ref fI) = some (.type "function"))
    (F1 : FnOk X.prog X.w X.K X.mg X.base CX k fI fd ps sp) (hr : Room (k + 1) X.A) (hb : KBn X.K fd ps 1 ks gf gV) (hx : Passes CX X (fun _ _ _ => False)) (hg : Gl X x) (hm : X.mg x = some (.ref C)) (hkw : PK X kws tk)
    (hall : (backToKw pos (keywordEach kws X.env)).all (·.1.isSome) = true := by rfl) (hks : (backToKw pos (keywordEach kws X.env)).filterMap (·.1) = ks := by rfl) (hdb : (x == ("__debug__" : Str)) = false := by decide)
    (hpl : ((backTo pos (starEach [] X.env)).any (·.1) || (backToKw pos (keywordEach kws X.env)).any (·.1.isNone)) = false := by rfl) :
    PE X (.Call (.Name x p) [] kws pos) (tMkXK C ks.length gV sp tk) := by
  refine ⟨fun pins s σ H Q I h => ?_⟩
  obtain ⟨B, newId, initId, bmB, F, SF, q1, q2⟩ := T.base
  refine wpAny_Call_Name_kw (ld_glob I hg hm ?_ hdb)
  refine callWith_KW0 (h₀ := X.base) I.ok.mod.kin T.kC hall ?_ hpl
  refine thn (hkw.run pos pins s σ H _ I h) fun ws s1 ⟨zs, H1, I1, rz, l2, qq⟩ => ⟨I1.kIn, ?_⟩
  rw [hks]
  show wpAny _ _ (call (.ref C) [] (ks.zip ws)) _ _ _
  obtain ⟨hp, g, dr, tk, os⟩ := s1
  obtain ⟨nm, N, qn, bs, bm, hdct, sn, sub, ab, col, dd, k0, k1, k2, k3, k5, hC, hT⟩ := excInit_of I1.kIn q1
  generalize ea : hp.objs.size + 1 = a
  have hsz : hp.objs.size ≤ a := by omega
  have hq := qq a (I1.hok.fresh hsz)
  have kk : ∀ b o, hp.get? b = some o → (hNew hp C).get? b = some o := fun b o e => Heap.get?_push_of_some _ (Heap.get?_push_of_some _ e)
  have hget : (hNew hp C).get? a = some (excO C hp.objs.size) := by
    rw [← ea]
    heap_get
  have I2 := I1.laid (t' := tk) (a := a) (o := exo a C none) (h' := hNew hp C) kk hsz (exo_ok hget)
  have r1 : Vals [V.ref a] [Value.ref a] := .cons rfl .nil
  have r2 := hb.rel r1 rz
  refine wpAny_call (kw_call F hT hC (looks_findIn I1.kIn iC) (fun self => bind_fn I1.kIn self tI) ?_)
  rw [ea]
  refine codeAny_mono (F1.run _ X.stack _ _ ⟨[Value.ref a], ks.zip ws⟩ (gf [Value.ref a] ws) _ _ (fun _ _ _ => False) (hr.make C [] (ks.zip ws)) (I2.env0.make C [] (ks.zip ws)) (hb.to _ [Value.ref a] ws I2.kIn rfl (rz.length.symm.trans l2)) r2 hq) fun r s' hq' => ?_
  cases r with
  | error er => exact hx pins σ _ _ er s' I2 hq'
  | ok fl =>
    cases fl with
    | ret u =>
      obtain ⟨v, H', I3, rv, ev, q3⟩ := I2.after hq'
      subst ev
      exact ⟨rv, ⟨V.ref a, H', I3, rfl, q3⟩⟩
    | next => exact False.elim hq'
    | brk => exact False.elim hq'
    | cont => exact False.elim hq'
theorem pe_mkX0 {bmB : List Value} {B newId initId : String} (F : ExcBaseFacts B newId initId bmB) (q : excIn X.K C bmB newId = true) (kC : keepIn X.K (.ref C) = true) (hg : Gl X x) (hm : X.mg x = some (.ref C))
    (hdb : (x == ("__debug__" : Str)) = false := by decide) :
    PE X (.Call (.Name x p) [] [] pos) (fun _ H Q => ∀ a, H a = none → Q (.ref a) (upd H a (exo a C none))) := by
  refine ⟨fun pins s σ H Q I h => ?_⟩
  refine wpAny_Call_Name_kw (ld_glob I hg hm ?_ hdb)
  refine callWith_K0 I.kIn kC ?_
  obtain ⟨bm, N, nm, qn, bs, hdct, sn, sub, ab, col, dd, k0, k1, k2, k3, k5, mN, hC, hN, hni, T⟩ := exc_obj I.kIn q
  refine wpAny_call_exc_subT F T hC hN hni (fun h' a hm => ?_) (by show 0 ≤ sizeLine; rw [sizeLine_eq]; omega)
  have hn : H a = none := I.hok.gone hm.new
  obtain ⟨t, ht, _, _⟩ := hm.there
  exact ⟨.ref a, upd H a (exo a C none), I.laidN hm.keeps hm.new hn (exo_ok ht), rfl, h a hn⟩
def tXv (K : Frag) (f : Str) (te : TE) : TE := fun σ H Q => te σ H fun x H1 => ∃ (a C dx : Addr) (fs : List (Str × V)) (v : V), x = .ref a ∧ XfC K C ∧ findIn K (.ref C) f = some none ∧ H1 a = some (exo a C (some dx)) ∧ H1 dx = some (exd dx fs) ∧ fs.lookup f = some v ∧ Q v H1
theorem pe_xv {K : Frag} (hK : X.K = K) {te : TE} {n : Str} (he : PE X e te) (hb : attributeBase e n X.env (eval e X.env) = eval e X.env := by rfl) : PE X (.Attribute e n pos) (tXv K n te) := by
  subst hK
  refine ⟨fun pins s σ H Q I h => ?_⟩
  refine attr_of hb (thn (he.run pins s σ H _ I h) fun u s1 ⟨x, H1, I1, rx, a, C, dx, fs, v, ex, T, hno, ea, ed, l, q⟩ => ?_)
  subst ex
  obtain rfl : u = Value.ref a := rx
  obtain ⟨t1, ho⟩ := exo_at I1.hok ea
  obtain ⟨mA, hns, hr⟩ := exd_at I1.hok ed
  obtain ⟨od, hod, hl⟩ := lookIn_ns hns
  obtain ⟨u, hu, ru⟩ := RelO.some_of (v := v) (o := mA n) (by rw [← l]; exact hr n)
  have J : InstAt s1.heap a _ C (some od) := ⟨ho, rfl, rfl, hod⟩
  exact HandSPX.exc_get I1.kIn J T.ga T.gg T.exC (findObj_own T.hdC hno rfl (by rw [hl, hu])) (handed_of ru) ⟨v, H1, I1.tok _, ru, q⟩
def rIsV (K : Frag) : List V → Hp → VK → Prop := fun xs H Q => ∃ (a C : Addr) (c : V) (cv : Value) (b : Bool), xs = [.ref a, c] ∧ ExcC K C ∧ (∀ u, RelV c u → u = cv) ∧ kitOne K (.ref C) cv = some b ∧
  (H a = some (exo a C none) ∨ ∃ dx fs, H a = some (exo a C (some dx)) ∧ H dx = some (exd dx fs)) ∧ Q (.bl b) H
theorem call_isV {K : Frag} (hK : X.K = K) : CallR X (.builtin "isinstance") (rIsV K) := by
  subst hK
  rintro pins s σ H xs us Q I r ⟨a, D, c, cv, b, rfl, C, hcv, kb, hat, q⟩
  rcases r with _ | ⟨ra, _ | ⟨rc, _ | _⟩⟩
  cases ra
  obtain rfl := hcv _ rc
  rcases hat with ea | ⟨dx, fs, ea, ed⟩
  · obtain ⟨t1, ho⟩ := exo_at I.hok ea
    have J : InstAt s.heap a _ D none := ⟨ho, rfl, rfl, trivial⟩
    exact kia_one (handS_kitx_exc C.hg C.hk C.hs C.hd C.ha C.hn C.ht C.hm) I.kIn J kb (fun z => nomatch z) fun tk => ⟨.bl b, H, I.kept (t' := tk) fun _ _ z => z, rfl, q⟩
  · obtain ⟨t1, ho⟩ := exo_at I.hok ea
    obtain ⟨mA, hns, _⟩ := exd_at I.hok ed
    obtain ⟨od, hod, _⟩ := lookIn_ns hns
    have known : (clsIn X.K D).isSome = true := by
      obtain ⟨cd, hc, _⟩ := any_some C.hd
      simp [hc]
    have J : InstAt s.heap a _ D (some od) := ⟨ho, rfl, rfl, hod⟩
    exact kia_one (kitx_exc known C.hg C.hk C.hs C.ha C.hn C.ht C.hm) I.kIn J kb (fun z => nomatch z) fun tk => ⟨.bl b, H, I.kept (t' := tk) fun _ _ z => z, rfl, q⟩
end
end Rx
namespace Rx
open PySem PySem.Spec PyProof.Rows L2
section
variable {ms : List Addr} {ps : List PEn} {cs : List (Addr × List V)} {H0 H : Hp} {C : Addr} {n m : Str} {v z x : V} {dv dz : D} {Q : VK} {QA : Addr → Hp → Prop} {ns : List Str} {ds : List D}
theorem xv_one (w : Wd ms ps cs H0 H) (hr : rep ms H dv v) (k : ∀ p H', Rx.Ext H H' → rep ms H' (.exc C [n] [dv]) (.ref p) → QA p H') {a : Addr} (na : H a = none) :
    sp_exi C n [.ref a, v] (upd H a (exo a C none)) (fun w H2 => w = .non ∧ QA a H2) (fun _ _ _ => False) := by
  refine ⟨a, v, rfl, upd_same, fun dx nd ne => ⟨rfl, ?_⟩⟩
  have nd' : H dx = none := by
    rw [upd_ne ne] at nd
    exact nd
  have e : Rx.Ext H (upd (upd (upd H a (exo a C none)) dx (exd dx [(n, v)])) a (exo a C (some dx))) := by
    refine ⟨fun b o _ h => ?_, fun _ h => absurd h List.not_mem_nil, fun b h => ?_⟩
    · rw [upd_ne (ne_of_none h na), upd_ne (ne_of_none h nd'), upd_ne (ne_of_none h na)]
      exact h
    · cases q : H b with
      | none => exact absurd q h
      | some o =>
        rw [upd_ne (ne_of_none q na), upd_ne (ne_of_none q nd'), upd_ne (ne_of_none q na), q]
        exact fun z => nomatch z
  refine k a _ e ?_
  simp only [rep]
  exact ⟨a, [v], rfl, fun z => w.tr a z na, .inr ⟨dx, fun z => w.tr dx z nd', upd_same, by rw [upd_ne ne, upd_same]; rfl⟩, rfl, repL_one (rep_ext e hr)⟩
theorem xv_two (w : Wd ms ps cs H0 H) (hr : rep ms H dv v) (hz : rep ms H dz z) (k : ∀ p H', Rx.Ext H H' → rep ms H' (.exc C [m, n] [dz, dv]) (.ref p) → QA p H') {a : Addr} (na : H a = none) :
    sp_exi2 C n m [.ref a, v, z] (upd H a (exo a C none)) (fun w H2 => w = .non ∧ QA a H2) (fun _ _ _ => False) := by
  refine ⟨a, v, z, rfl, upd_same, fun dx nd ne => ⟨rfl, ?_⟩⟩
  have nd' : H dx = none := by
    rw [upd_ne ne] at nd
    exact nd
  have e : Rx.Ext H (upd (upd (upd (upd H a (exo a C none)) dx (exd dx [(n, v)])) a (exo a C (some dx))) dx (exd dx [(m, z), (n, v)])) := by
    refine ⟨fun b o _ h => ?_, fun _ h => absurd h List.not_mem_nil, fun b h => ?_⟩
    · rw [upd_ne (ne_of_none h nd'), upd_ne (ne_of_none h na), upd_ne (ne_of_none h nd'), upd_ne (ne_of_none h na)]
      exact h
    · cases q : H b with
      | none => exact absurd q h
      | some o =>
        rw [upd_ne (ne_of_none q nd'), upd_ne (ne_of_none q na), upd_ne (ne_of_none q nd'), upd_ne (ne_of_none q na), q]
        exact fun z => nomatch z
  refine k a _ e ?_
  simp only [rep]
  exact ⟨a, [z, v], rfl, fun z => w.tr a z na, .inr ⟨dx, fun z => w.tr dx z nd', by rw [upd_ne (Ne.symm ne), upd_same], by rw [upd_same]; rfl⟩, rfl, repL_cons (rep_ext e hz) (repL_one (rep_ext e hr))⟩
theorem rep_mkX1 (w : Wd ms ps cs H0 H) (hr : rep ms H dv v) (k : ∀ p H', Rx.Ext H H' → rep ms H' (.exc C [n] [dv]) (.ref p) → QA p H') :
    [v].length ≤ 1000 ∧ ∀ a, H a = none → sp_exi C n (.ref a :: [v]) (upd H a (exo a C none)) (fun w H2 => w = .non ∧ QA a H2) (fun _ _ _ => False) := ⟨(by show 1 ≤ 1000; decide), fun _ na => xv_one w hr k na⟩
theorem rep_mkX2 (w : Wd ms ps cs H0 H) (hr : rep ms H dv v) (hz : rep ms H dz z) (k : ∀ p H', Rx.Ext H H' → rep ms H' (.exc C [m, n] [dz, dv]) (.ref p) → QA p H') :
    [v, z].length ≤ 1000 ∧ ∀ a, H a = none → sp_exi2 C n m (.ref a :: [v, z]) (upd H a (exo a C none)) (fun w H2 => w = .non ∧ QA a H2) (fun _ _ _ => False) := ⟨(by show 2 ≤ 1000; decide), fun _ na => xv_two w hr hz k na⟩
theorem rep_mkXK1 {j : Nat} {zs : List V} {gl : Addr → List V} (hl : zs.length = j) (hg : ∀ a : Addr, gl a = [V.ref a, v]) (w : Wd ms ps cs H0 H) (hr : rep ms H dv v) (k : ∀ p H', Rx.Ext H H' → rep ms H' (.exc C [n] [dv]) (.ref p) → QA p H') :
    zs.length = j ∧ ∀ a, H a = none → sp_exi C n (gl a) (upd H a (exo a C none)) (fun w H2 => w = .non ∧ QA a H2) (fun _ _ _ => False) := ⟨hl, fun a na => by rw [hg a]; exact xv_one w hr k na⟩
theorem rep_mkXK2 {j : Nat} {zs : List V} {gl : Addr → List V} (hl : zs.length = j) (hg : ∀ a : Addr, gl a = [V.ref a, v, z]) (w : Wd ms ps cs H0 H) (hr : rep ms H dv v) (hz : rep ms H dz z) (k : ∀ p H', Rx.Ext H H' → rep ms H' (.exc C [m, n] [dz, dv]) (.ref p) → QA p H') :
    zs.length = j ∧ ∀ a, H a = none → sp_exi2 C n m (gl a) (upd H a (exo a C none)) (fun w H2 => w = .non ∧ QA a H2) (fun _ _ _ => False) := ⟨hl, fun a na => by rw [hg a]; exact xv_two w hr hz k na⟩
def sp_exi0 (C : Addr) : Sp := fun vs H Q _ => ∃ a : Addr, vs = [.ref a] ∧ H a = some (exo a C none) ∧ Q .non H
theorem rep_mkXK0 {zs : List V} {gl : Addr → List V} (w : Wd ms ps cs H0 H) (k : ∀ p H', Rx.Ext H H' → rep ms H' (.exc C [] []) (.ref p) → QA p H') (hz : zs = [] := by rfl) (hg : ∀ a : Addr, gl a = [V.ref a] := by exact fun _ => rfl) :
    zs.length = 0 ∧ ∀ a, H a = none → sp_exi0 C (gl a) (upd H a (exo a C none)) (fun w H2 => w = .non ∧ QA a H2) (fun _ _ _ => False) := by
  subst hz
  refine ⟨rfl, fun a na => ⟨a, hg a, upd_same, rfl, k a _ (Ext.new na) ?_⟩⟩
  simp only [rep]
  exact ⟨a, [], rfl, fun z => w.tr a z na, .inl ⟨rfl, upd_same⟩, rfl, repL_nil⟩
theorem rep_x0 {p : Addr} {H' : Hp} (w : Wd ms ps cs H0 H) (np : H p = none) (e : Rx.Ext H H') (hp : H' p = some (exo p C none)) : rep ms H' (.exc C [] []) (.ref p) := by
  simp only [rep]
  exact ⟨p, [], rfl, fun z => w.tr p z np, .inl ⟨rfl, hp⟩, rfl, repL_nil⟩
theorem lk_rep {f : Str} {y : D} : ∀ {ns : List Str} {ds : List D} {vs : List V}, repL ms H ds vs → (ns.zip ds).lookup f = some y → ∃ v, (ns.zip vs).lookup f = some v ∧ rep ms H y v
  | [], _, _, _, h => by simp at h
  | _ :: _, [], _, _, h => by simp at h
  | n :: ns, d :: ds, vs, r, h => by
    obtain ⟨u, us, rfl, r1, r2⟩ := repL_uncons r
    rw [List.zip_cons_cons, List.lookup_cons] at h
    rw [List.zip_cons_cons, List.lookup_cons]
    cases q : f == n with
    | true =>
      rw [q] at h
      cases h
      exact ⟨u, rfl, r1⟩
    | false =>
      rw [q] at h
      exact lk_rep r2 h
theorem rep_xv {K : PySem.W.Frag} {f : Str} {y : D} (h : rep ms H (.exc C ns ds) x) (T : XfC K C) (no : PySem.W.findIn K (.ref C) f = some none) (hy : (ns.zip ds).lookup f = some y) (k : ∀ v, rep ms H y v → Q v H) :
    ∃ (a C dx : Addr) (fs : List (Str × V)) (v : V), x = .ref a ∧ XfC K C ∧ PySem.W.findIn K (.ref C) f = some none ∧ H a = some (exo a C (some dx)) ∧ H dx = some (exd dx fs) ∧ fs.lookup f = some v ∧ Q v H := by
  simp only [rep] at h
  obtain ⟨p, vs, rfl, _, hx, hl, hr⟩ := h
  obtain ⟨v, hv, rv⟩ := lk_rep hr hy
  rcases hx with ⟨e, _⟩ | ⟨dx, _, h1, h2⟩
  · rw [e] at hv
    cases hv
  · exact ⟨p, C, dx, _, v, rfl, T, no, h1, h2, hv, k v rv⟩
theorem rep_isV {K : PySem.W.Frag} {c : V} {cv : Value} {b : Bool} {PB : Bool → Prop} (h : rep ms H (.exc C ns ds) x) (T : ExcC K C) (hcv : ∀ u, RelV c u → u = cv) (kb : PySem.W.kitOne K (.ref C) cv = some b) (q : PB b) :
    ∃ (a C : Addr) (c2 : V) (cv2 : Value) (b2 : Bool), [x, c] = [.ref a, c2] ∧ ExcC K C ∧ (∀ u, RelV c2 u → u = cv2) ∧ PySem.W.kitOne K (.ref C) cv2 = some b2 ∧ (H a = some (exo a C none) ∨ ∃ dx fs, H a = some (exo a C (some dx)) ∧ H dx = some (exd dx fs)) ∧ PB b2 := by
  simp only [rep] at h
  obtain ⟨p, vs, rfl, _, hx, hl, hr⟩ := h
  refine ⟨p, C, c, cv, b, rfl, T, hcv, kb, ?_, q⟩
  rcases hx with ⟨_, h1⟩ | ⟨dx, _, h1, h2⟩
  · exact .inl h1
  · exact .inr ⟨dx, _, h1, h2⟩
end
structure XvA (K : PySem.W.Frag) (at_ : List Str) (l : List Addr) : Prop where
  all : l.all (xvB K at_) = true
  hn : PySem.W.specialIn K (.builtin "object.__class__") "__get__" = some (some (.builtin "getset_descriptor.__get__"))
  ht : PySem.W.takesIn K (.builtin "object.__class__") = some true
section
variable {K : PySem.W.Frag} {at_ : List Str} {l : List Addr} {d : Addr}
theorem getD_mem {α : Type} {l : List α} {d : α} (hd : d ∈ l) (n : Nat) : l.getD n d ∈ l := by
  rw [List.getD_eq_getElem?_getD]
  cases h : l[n]? with
  | none => exact hd
  | some x => exact List.mem_of_getElem? h
theorem XvA.at (X : XvA K at_ l) (hd : d ∈ l) (n : Nat) : xvB K at_ (l.getD n d) = true := List.all_eq_true.mp X.all _ (getD_mem hd n)
theorem XvA.xf (X : XvA K at_ l) (hd : d ∈ l) (n : Nat) : XfC K (l.getD n d) := by
  have h := X.at hd n
  simp only [xvB, Bool.and_eq_true] at h
  exact xfB_ok h.1.1.1
theorem XvA.ex (X : XvA K at_ l) (hd : d ∈ l) (n : Nat) : ExcC K (l.getD n d) := by
  have h := X.at hd n
  have f := X.xf hd n
  simp only [xvB, Bool.and_eq_true, decide_eq_true_eq] at h
  exact ⟨f.ga, f.gg, f.exC, f.hdC, h.1.1.2, X.hn, X.ht, h.1.2⟩
theorem XvA.no (X : XvA K at_ l) (hd : d ∈ l) (n : Nat) {f : Str} (hf : f ∈ at_) : PySem.W.findIn K (.ref (l.getD n d)) f = some none := by
  have h := X.at hd n
  simp only [xvB, Bool.and_eq_true] at h
  exact of_decide_eq_true (List.all_eq_true.mp h.2 f hf)
theorem kitA_at {cv : Value} : ∀ {l : List Addr} {t : List Bool}, l.length = t.length → ∀ {d : Addr} {b : Bool}, PySem.W.kitOne K (.ref d) cv = some b → kitA K cv l t = true → ∀ n, PySem.W.kitOne K (.ref (l.getD n d)) cv = some (t.getD n b)
  | [], [], _, _, _, h, _, _ => h
  | [], _ :: _, hl, _, _, _, _, _ => by simp at hl
  | _ :: _, [], hl, _, _, _, _, _ => by simp at hl
  | c :: l, b0 :: t, hl, d, b, h, ha, n => by
    simp only [kitA, List.zip_cons_cons, List.all_cons, Bool.and_eq_true] at ha
    cases n with
    | zero => exact of_decide_eq_true ha.1
    | succ n => exact kitA_at (by simpa using hl) h ha.2 n
end
end Rx
namespace Wm
open PySem PySem.Spec PyProof.Rows L2

abbrev L (z : Str) : List Nat := z.cps.toList
theorem eqI {a b : Int} : decide (V.int a = V.int b) = decide (a = b) := by
  by_cases h : a = b
  · subst h
    simp
  · rw [decide_eq_false (fun z => h (V.int.inj z)), decide_eq_false h]

def cyc (m : List Nat) (k : Nat) : List Nat := (List.range k).map fun j => m.getD (j % m.length) 0
def row (h m t : List Nat) (n : Nat) : List Nat := h ++ cyc m (n - h.length - t.length) ++ t
section
variable {h m t : List Nat} {n : Nat}
end

section
open Rx
variable {α β S : Type}
theorem mapC_ok {body : α → (β → Prop) → Prop} {k : List β → Prop} (g : α → β) : ∀ {xs : List α} {acc : List β}, (∀ x ∈ xs, ∀ k' : β → Prop, k' (g x) → body x k') → k (acc ++ xs.map g) → mapC body xs acc k
  | [], acc, _, q => by
    rw [List.map_nil, List.append_nil] at q
    exact q
  | x :: xs, acc, h, q => h x List.mem_cons_self _ (mapC_ok g (fun y hy => h y (List.mem_cons_of_mem _ hy)) (by rw [List.append_assoc]; exact q))
theorem mapC_any {body : α → (β → Prop) → Prop} {k : List β → Prop} (P : β → Prop) : ∀ {xs : List α} {acc : List β}, (∀ x ∈ xs, ∀ k' : β → Prop, (∀ y, P y → k' y) → body x k') → (∀ ys : List β, ys.length = xs.length → (∀ y ∈ ys, P y) → k (acc ++ ys)) → mapC body xs acc k
  | [], acc, _, q => by
    have := q [] rfl (fun _ h => absurd h List.not_mem_nil)
    rw [List.append_nil] at this
    exact this
  | x :: xs, acc, h, q => h x List.mem_cons_self _ fun y hy => mapC_any P (fun z hz => h z (List.mem_cons_of_mem _ hz)) fun ys hl hp => by
    rw [List.append_assoc]
    exact q (y :: ys) (congrArg Nat.succ hl) fun z hz => by
      rcases List.mem_cons.mp hz with e | hz
      · rw [e]
        exact hy
      · exact hp z hz
theorem forC_ok {body : α → S → (S → Prop) → Prop} {k : S → Prop} (I : S → Prop) : ∀ {xs : List α} {s0 : S}, (∀ x ∈ xs, ∀ (s : S) (k' : S → Prop), I s → (∀ s', I s' → k' s') → body x s k') → I s0 → (∀ s, I s → k s) → forC body xs s0 k
  | [], s0, _, i, q => q s0 i
  | x :: xs, s0, h, i, q => h x List.mem_cons_self s0 _ i fun s' i' => forC_ok I (fun y hy => h y (List.mem_cons_of_mem _ hy)) i' q
end
end Wm

namespace Lw
open PySem PySem.Spec PyProof.Rows L2 Rx
abbrev St := L2.St
theorem sc_draw : FnScope ["_law_pot_here", "_law_many", "_law_digit"] ["_law_pot_here", "_law_many"] (defScope s_draw) := ⟨rfl, rfl, rfl, by decide +kernel, rfl, by decide +kernel, by decide +kernel⟩
theorem sc_pick : FnScope ["_law_pot_here", "_law_some"] ["_law_pot_here", "_law_some"] (defScope s_pick) := ⟨rfl, rfl, rfl, by decide +kernel, rfl, by decide +kernel, by decide +kernel⟩
theorem sc_all : FnScope ["_law_a", "_law_b", "_law_found"] ["_law_a", "_law_b"] (defScope s_all) := ⟨rfl, rfl, rfl, by decide +kernel, rfl, by decide +kernel, by decide +kernel⟩
theorem sc_named : FnScope ["_law_a", "_law_b", "_law_found"] ["_law_a", "_law_b"] (defScope s_named) := ⟨rfl, rfl, rfl, by decide +kernel, rfl, by decide +kernel, by decide +kernel⟩
theorem sc_kept : FnScope ["_law_k", "_law_e"] ["_law_k", "_law_e"] (defScope s_kept) := ⟨rfl, rfl, rfl, by decide +kernel, rfl, by decide +kernel, by decide +kernel⟩
theorem sc_width : FnScope ["_law_k"] ["_law_k"] (defScope s_width) := ⟨rfl, rfl, rfl, by decide +kernel, rfl, by decide +kernel, by decide +kernel⟩
theorem sc_flags : FnScope ["_law_e", "_law_found"] ["_law_e"] (defScope s_flags) := ⟨rfl, rfl, rfl, by decide +kernel, rfl, by decide +kernel, by decide +kernel⟩
theorem sc_grounds : FnScope ["_law_e", "_law_found"] ["_law_e"] (defScope s_grounds) := ⟨rfl, rfl, rfl, by decide +kernel, rfl, by decide +kernel, by decide +kernel⟩
theorem sc_ground : FnScope ["_law_k"] ["_law_k"] (defScope s_ground) := ⟨rfl, rfl, rfl, by decide +kernel, rfl, by decide +kernel, by decide +kernel⟩
theorem sc_due_grounds : FnScope ["_law_ground_here", "_law_k"] ["_law_ground_here"] (defScope s_due_grounds) := ⟨rfl, rfl, rfl, by decide +kernel, rfl, by decide +kernel, by decide +kernel⟩
theorem sc_right : FnScope ["_law_pot_here", "_law_menu", "_law_near", "_law_far", "_law_some", "_law_parts", "_law_k", "_law_e", "_law_n"] ["_law_pot_here"] (defScope s_right) := ⟨rfl, rfl, rfl, by decide +kernel, rfl, by decide +kernel, by decide +kernel⟩
theorem sc_pot : FnScope ["_law_script", "_law_k", "_law_figures"] ["_law_script", "_law_k"] (defScope s_pot) := ⟨rfl, rfl, rfl, by decide +kernel, rfl, by decide +kernel, by decide +kernel⟩
theorem sc_law : FnScope ["_law_script", "_law_k"] ["_law_script"] (defScope s_law) := ⟨rfl, rfl, rfl, by decide +kernel, rfl, by decide +kernel, by decide +kernel⟩
theorem sc_CommandFailed_init : FnScope ["self", "position"] ["self", "position"] (defScope s_CommandFailed_init) := ⟨rfl, rfl, rfl, by decide +kernel, rfl, by decide +kernel, by decide +kernel⟩
theorem sc_InvalidCells_init : FnScope ["self", "position"] ["self", "position"] (defScope s_InvalidCells_init) := ⟨rfl, rfl, rfl, by decide +kernel, rfl, by decide +kernel, by decide +kernel⟩
theorem sc_InvalidClaim_init : FnScope ["self", "value"] ["self", "value"] (defScope s_InvalidClaim_init) := ⟨rfl, rfl, rfl, by decide +kernel, rfl, by decide +kernel, by decide +kernel⟩
theorem sc_InvalidCommand_init : FnScope ["self", "value"] ["self", "value"] (defScope s_InvalidCommand_init) := ⟨rfl, rfl, rfl, by decide +kernel, rfl, by decide +kernel, by decide +kernel⟩
theorem sc_InvalidCount_init : FnScope ["self", "value"] ["self", "value"] (defScope s_InvalidCount_init) := ⟨rfl, rfl, rfl, by decide +kernel, rfl, by decide +kernel, by decide +kernel⟩
theorem sc_InvalidFirst_init : FnScope ["self", "value"] ["self", "value"] (defScope s_InvalidFirst_init) := ⟨rfl, rfl, rfl, by decide +kernel, rfl, by decide +kernel, by decide +kernel⟩
theorem sc_InvalidFixed_init : FnScope ["self", "position"] ["self", "position"] (defScope s_InvalidFixed_init) := ⟨rfl, rfl, rfl, by decide +kernel, rfl, by decide +kernel, by decide +kernel⟩
theorem sc_InvalidGauge_init : FnScope ["self", "position"] ["self", "position"] (defScope s_InvalidGauge_init) := ⟨rfl, rfl, rfl, by decide +kernel, rfl, by decide +kernel, by decide +kernel⟩
theorem sc_InvalidLegs_init : FnScope ["self", "position"] ["self", "position"] (defScope s_InvalidLegs_init) := ⟨rfl, rfl, rfl, by decide +kernel, rfl, by decide +kernel, by decide +kernel⟩
theorem sc_InvalidLot_init : FnScope ["self", "position"] ["self", "position"] (defScope s_InvalidLot_init) := ⟨rfl, rfl, rfl, by decide +kernel, rfl, by decide +kernel, by decide +kernel⟩
theorem sc_InvalidMarks_init : FnScope ["self", "value"] ["self", "value"] (defScope s_InvalidMarks_init) := ⟨rfl, rfl, rfl, by decide +kernel, rfl, by decide +kernel, by decide +kernel⟩
theorem sc_InvalidNumber_init : FnScope ["self", "value"] ["self", "value"] (defScope s_InvalidNumber_init) := ⟨rfl, rfl, rfl, by decide +kernel, rfl, by decide +kernel, by decide +kernel⟩
theorem sc_InvalidPlace_init : FnScope ["self", "value"] ["self", "value"] (defScope s_InvalidPlace_init) := ⟨rfl, rfl, rfl, by decide +kernel, rfl, by decide +kernel, by decide +kernel⟩
theorem sc_InvalidRound_init : FnScope ["self", "value"] ["self", "value"] (defScope s_InvalidRound_init) := ⟨rfl, rfl, rfl, by decide +kernel, rfl, by decide +kernel, by decide +kernel⟩
theorem sc_InvalidRounds_init : FnScope ["self", "position"] ["self", "position"] (defScope s_InvalidRounds_init) := ⟨rfl, rfl, rfl, by decide +kernel, rfl, by decide +kernel, by decide +kernel⟩
theorem sc_InvalidRows_init : FnScope ["self", "position"] ["self", "position"] (defScope s_InvalidRows_init) := ⟨rfl, rfl, rfl, by decide +kernel, rfl, by decide +kernel, by decide +kernel⟩
theorem sc_InvalidSize_init : FnScope ["self", "value"] ["self", "value"] (defScope s_InvalidSize_init) := ⟨rfl, rfl, rfl, by decide +kernel, rfl, by decide +kernel, by decide +kernel⟩
theorem sc_InvalidStander_init : FnScope ["self", "value"] ["self", "value"] (defScope s_InvalidStander_init) := ⟨rfl, rfl, rfl, by decide +kernel, rfl, by decide +kernel, by decide +kernel⟩
theorem sc_InvalidStep_init : FnScope ["self", "value"] ["self", "value"] (defScope s_InvalidStep_init) := ⟨rfl, rfl, rfl, by decide +kernel, rfl, by decide +kernel, by decide +kernel⟩
theorem sc_InvalidTeam_init : FnScope ["self", "value"] ["self", "value"] (defScope s_InvalidTeam_init) := ⟨rfl, rfl, rfl, by decide +kernel, rfl, by decide +kernel, by decide +kernel⟩
theorem sc_InvalidText_init : FnScope ["self", "line"] ["self", "line"] (defScope s_InvalidText_init) := ⟨rfl, rfl, rfl, by decide +kernel, rfl, by decide +kernel, by decide +kernel⟩
theorem sc_InvalidTurned_init : FnScope ["self", "value"] ["self", "value"] (defScope s_InvalidTurned_init) := ⟨rfl, rfl, rfl, by decide +kernel, rfl, by decide +kernel, by decide +kernel⟩
theorem sc_InvalidValues_init : FnScope ["self", "position"] ["self", "position"] (defScope s_InvalidValues_init) := ⟨rfl, rfl, rfl, by decide +kernel, rfl, by decide +kernel, by decide +kernel⟩
theorem sc_NoRound_init : FnScope ["self"] ["self"] (defScope s_NoRound_init) := ⟨rfl, rfl, rfl, by decide +kernel, rfl, by decide +kernel, by decide +kernel⟩
theorem sc_NotOpen_init : FnScope ["self", "home", "away"] ["self", "home", "away"] (defScope s_NotOpen_init) := ⟨rfl, rfl, rfl, by decide +kernel, rfl, by decide +kernel, by decide +kernel⟩
theorem sc_NotRight_init : FnScope ["self", "size"] ["self", "size"] (defScope s_NotRight_init) := ⟨rfl, rfl, rfl, by decide +kernel, rfl, by decide +kernel, by decide +kernel⟩
theorem sc_NotSingle_init : FnScope ["self", "one", "other"] ["self", "one", "other"] (defScope s_NotSingle_init) := ⟨rfl, rfl, rfl, by decide +kernel, rfl, by decide +kernel, by decide +kernel⟩
theorem sc_NothingToUndo_init : FnScope ["self"] ["self"] (defScope s_NothingToUndo_init) := ⟨rfl, rfl, rfl, by decide +kernel, rfl, by decide +kernel, by decide +kernel⟩
theorem sc_TooMany_init : FnScope ["self", "what", "limit"] ["self", "what", "limit"] (defScope s_TooMany_init) := ⟨rfl, rfl, rfl, by decide +kernel, rfl, by decide +kernel, by decide +kernel⟩
theorem sc_Unplayed_init : FnScope ["self", "home", "away"] ["self", "home", "away"] (defScope s_Unplayed_init) := ⟨rfl, rfl, rfl, by decide +kernel, rfl, by decide +kernel, by decide +kernel⟩
structure Ad where
  a_draw : Addr
  d_draw : FuncData
  a_pick : Addr
  d_pick : FuncData
  a_all : Addr
  d_all : FuncData
  a_named : Addr
  d_named : FuncData
  a_kept : Addr
  d_kept : FuncData
  a_width : Addr
  d_width : FuncData
  a_flags : Addr
  d_flags : FuncData
  a_grounds : Addr
  d_grounds : FuncData
  a_ground : Addr
  d_ground : FuncData
  a_due_grounds : Addr
  d_due_grounds : FuncData
  a_right : Addr
  d_right : FuncData
  a_pot : Addr
  d_pot : FuncData
  a_law : Addr
  d_law : FuncData
  a_CommandFailed_init : Addr
  d_CommandFailed_init : FuncData
  a_InvalidCells_init : Addr
  d_InvalidCells_init : FuncData
  a_InvalidClaim_init : Addr
  d_InvalidClaim_init : FuncData
  a_InvalidCommand_init : Addr
  d_InvalidCommand_init : FuncData
  a_InvalidCount_init : Addr
  d_InvalidCount_init : FuncData
  a_InvalidFirst_init : Addr
  d_InvalidFirst_init : FuncData
  a_InvalidFixed_init : Addr
  d_InvalidFixed_init : FuncData
  a_InvalidGauge_init : Addr
  d_InvalidGauge_init : FuncData
  a_InvalidLegs_init : Addr
  d_InvalidLegs_init : FuncData
  a_InvalidLot_init : Addr
  d_InvalidLot_init : FuncData
  a_InvalidMarks_init : Addr
  d_InvalidMarks_init : FuncData
  a_InvalidNumber_init : Addr
  d_InvalidNumber_init : FuncData
  a_InvalidPlace_init : Addr
  d_InvalidPlace_init : FuncData
  a_InvalidRound_init : Addr
  d_InvalidRound_init : FuncData
  a_InvalidRounds_init : Addr
  d_InvalidRounds_init : FuncData
  a_InvalidRows_init : Addr
  d_InvalidRows_init : FuncData
  a_InvalidSize_init : Addr
  d_InvalidSize_init : FuncData
  a_InvalidStander_init : Addr
  d_InvalidStander_init : FuncData
  a_InvalidStep_init : Addr
  d_InvalidStep_init : FuncData
  a_InvalidTeam_init : Addr
  d_InvalidTeam_init : FuncData
  a_InvalidText_init : Addr
  d_InvalidText_init : FuncData
  a_InvalidTurned_init : Addr
  d_InvalidTurned_init : FuncData
  a_InvalidValues_init : Addr
  d_InvalidValues_init : FuncData
  a_NoRound_init : Addr
  d_NoRound_init : FuncData
  a_NotOpen_init : Addr
  d_NotOpen_init : FuncData
  a_NotRight_init : Addr
  d_NotRight_init : FuncData
  a_NotSingle_init : Addr
  d_NotSingle_init : FuncData
  a_NothingToUndo_init : Addr
  d_NothingToUndo_init : FuncData
  a_TooMany_init : Addr
  d_TooMany_init : FuncData
  a_Unplayed_init : Addr
  d_Unplayed_init : FuncData
  c_CommandFailed : Addr
  c_InvalidCells : Addr
  c_InvalidClaim : Addr
  c_InvalidCommand : Addr
  c_InvalidCount : Addr
  c_InvalidFirst : Addr
  c_InvalidFixed : Addr
  c_InvalidGauge : Addr
  c_InvalidLegs : Addr
  c_InvalidLot : Addr
  c_InvalidMarks : Addr
  c_InvalidNumber : Addr
  c_InvalidPlace : Addr
  c_InvalidRound : Addr
  c_InvalidRounds : Addr
  c_InvalidRows : Addr
  c_InvalidSize : Addr
  c_InvalidStander : Addr
  c_InvalidStep : Addr
  c_InvalidTeam : Addr
  c_InvalidText : Addr
  c_InvalidTurned : Addr
  c_InvalidValues : Addr
  c_LeagueError : Addr
  c_LimitError : Addr
  c_NoRound : Addr
  c_NotOpen : Addr
  c_NotRight : Addr
  c_NotSingle : Addr
  c_NothingToUndo : Addr
  c_StateError : Addr
  c_TooMany : Addr
  c_Unplayed : Addr
abbrev Ad.tbs (A : Ad) : List PEn := []
def xL (A : Ad) : List Addr := [A.c_InvalidFirst, A.c_InvalidNumber, A.c_InvalidPlace, A.c_InvalidMarks, A.c_InvalidStep, A.c_InvalidStander, A.c_InvalidTurned, A.c_InvalidSize, A.c_InvalidTeam, A.c_InvalidRound, A.c_InvalidCount, A.c_InvalidClaim, A.c_InvalidCommand, A.c_InvalidValues, A.c_InvalidRows, A.c_InvalidRounds, A.c_InvalidCells, A.c_InvalidLegs, A.c_InvalidLot, A.c_InvalidFixed, A.c_InvalidGauge, A.c_InvalidText, A.c_CommandFailed, A.c_NotRight, A.c_NotSingle, A.c_NotOpen, A.c_Unplayed, A.c_TooMany, A.c_NoRound, A.c_NothingToUndo, A.c_LeagueError, A.c_StateError, A.c_LimitError]
theorem xL_mem {A : Ad} : A.c_InvalidFirst ∈ xL A := List.mem_cons_self
def xC (A : Ad) (n : Nat) : Addr := (xL A).getD n A.c_InvalidFirst
def xN (n : Nat) : List Str := ([[("value" : Str)], [("value" : Str)], [("value" : Str)], [("value" : Str)], [("value" : Str)], [("value" : Str)], [("value" : Str)], [("value" : Str)], [("value" : Str)], [("value" : Str)], [("value" : Str)], [("value" : Str)], [("value" : Str)], [("position" : Str)], [("position" : Str)], [("position" : Str)], [("position" : Str)], [("position" : Str)], [("position" : Str)], [("position" : Str)], [("position" : Str)], [("line" : Str)], [("position" : Str)], [("size" : Str)], [("other" : Str), ("one" : Str)], [("away" : Str), ("home" : Str)], [("away" : Str), ("home" : Str)], [("limit" : Str), ("what" : Str)], [], [], [], [], []] : List (List Str)).getD n [("value" : Str)]
abbrev eX (A : Ad) (m : Nat × List D) : D := .exc ((xL A).getD m.1 A.c_InvalidFirst) (xN m.1) m.2
def xAt (m : Nat × List D) (f : Str) : Option D := ((xN m.1).zip m.2).lookup f
structure Txt (w : World) (K : PySem.W.Frag) (mg : Str → Option Value) (A : Ad) : Prop where
  xva : XvA K ["away", "home", "limit", "line", "one", "other", "position", "size", "value", "what"] (xL A)
  xk_ArithmeticError : kitA K (.type "ArithmeticError") (xL A) xtb_ArithmeticError = true
  xd_ArithmeticError : PySem.W.kitOne K (.ref A.c_InvalidFirst) (.type "ArithmeticError") = some false
  xk_CommandFailed : kitA K (.ref A.c_CommandFailed) (xL A) xtb_CommandFailed = true
  xd_CommandFailed : PySem.W.kitOne K (.ref A.c_InvalidFirst) (.ref A.c_CommandFailed) = some false
  xk_InvalidCells : kitA K (.ref A.c_InvalidCells) (xL A) xtb_InvalidCells = true
  xd_InvalidCells : PySem.W.kitOne K (.ref A.c_InvalidFirst) (.ref A.c_InvalidCells) = some false
  xk_InvalidClaim : kitA K (.ref A.c_InvalidClaim) (xL A) xtb_InvalidClaim = true
  xd_InvalidClaim : PySem.W.kitOne K (.ref A.c_InvalidFirst) (.ref A.c_InvalidClaim) = some false
  xk_InvalidCommand : kitA K (.ref A.c_InvalidCommand) (xL A) xtb_InvalidCommand = true
  xd_InvalidCommand : PySem.W.kitOne K (.ref A.c_InvalidFirst) (.ref A.c_InvalidCommand) = some false
  xk_InvalidCount : kitA K (.ref A.c_InvalidCount) (xL A) xtb_InvalidCount = true
  xd_InvalidCount : PySem.W.kitOne K (.ref A.c_InvalidFirst) (.ref A.c_InvalidCount) = some false
  xk_InvalidFirst : kitA K (.ref A.c_InvalidFirst) (xL A) xtb_InvalidFirst = true
  xd_InvalidFirst : PySem.W.kitOne K (.ref A.c_InvalidFirst) (.ref A.c_InvalidFirst) = some true
  xk_InvalidFixed : kitA K (.ref A.c_InvalidFixed) (xL A) xtb_InvalidFixed = true
  xd_InvalidFixed : PySem.W.kitOne K (.ref A.c_InvalidFirst) (.ref A.c_InvalidFixed) = some false
  xk_InvalidGauge : kitA K (.ref A.c_InvalidGauge) (xL A) xtb_InvalidGauge = true
  xd_InvalidGauge : PySem.W.kitOne K (.ref A.c_InvalidFirst) (.ref A.c_InvalidGauge) = some false
  xk_InvalidLegs : kitA K (.ref A.c_InvalidLegs) (xL A) xtb_InvalidLegs = true
  xd_InvalidLegs : PySem.W.kitOne K (.ref A.c_InvalidFirst) (.ref A.c_InvalidLegs) = some false
  xk_InvalidLot : kitA K (.ref A.c_InvalidLot) (xL A) xtb_InvalidLot = true
  xd_InvalidLot : PySem.W.kitOne K (.ref A.c_InvalidFirst) (.ref A.c_InvalidLot) = some false
  xk_InvalidMarks : kitA K (.ref A.c_InvalidMarks) (xL A) xtb_InvalidMarks = true
  xd_InvalidMarks : PySem.W.kitOne K (.ref A.c_InvalidFirst) (.ref A.c_InvalidMarks) = some false
  xk_InvalidNumber : kitA K (.ref A.c_InvalidNumber) (xL A) xtb_InvalidNumber = true
  xd_InvalidNumber : PySem.W.kitOne K (.ref A.c_InvalidFirst) (.ref A.c_InvalidNumber) = some false
  xk_InvalidPlace : kitA K (.ref A.c_InvalidPlace) (xL A) xtb_InvalidPlace = true
  xd_InvalidPlace : PySem.W.kitOne K (.ref A.c_InvalidFirst) (.ref A.c_InvalidPlace) = some false
  xk_InvalidRound : kitA K (.ref A.c_InvalidRound) (xL A) xtb_InvalidRound = true
  xd_InvalidRound : PySem.W.kitOne K (.ref A.c_InvalidFirst) (.ref A.c_InvalidRound) = some false
  xk_InvalidRounds : kitA K (.ref A.c_InvalidRounds) (xL A) xtb_InvalidRounds = true
  xd_InvalidRounds : PySem.W.kitOne K (.ref A.c_InvalidFirst) (.ref A.c_InvalidRounds) = some false
  xk_InvalidRows : kitA K (.ref A.c_InvalidRows) (xL A) xtb_InvalidRows = true
  xd_InvalidRows : PySem.W.kitOne K (.ref A.c_InvalidFirst) (.ref A.c_InvalidRows) = some false
  xk_InvalidSize : kitA K (.ref A.c_InvalidSize) (xL A) xtb_InvalidSize = true
  xd_InvalidSize : PySem.W.kitOne K (.ref A.c_InvalidFirst) (.ref A.c_InvalidSize) = some false
  xk_InvalidStander : kitA K (.ref A.c_InvalidStander) (xL A) xtb_InvalidStander = true
  xd_InvalidStander : PySem.W.kitOne K (.ref A.c_InvalidFirst) (.ref A.c_InvalidStander) = some false
  xk_InvalidStep : kitA K (.ref A.c_InvalidStep) (xL A) xtb_InvalidStep = true
  xd_InvalidStep : PySem.W.kitOne K (.ref A.c_InvalidFirst) (.ref A.c_InvalidStep) = some false
  xk_InvalidTeam : kitA K (.ref A.c_InvalidTeam) (xL A) xtb_InvalidTeam = true
  xd_InvalidTeam : PySem.W.kitOne K (.ref A.c_InvalidFirst) (.ref A.c_InvalidTeam) = some false
  xk_InvalidText : kitA K (.ref A.c_InvalidText) (xL A) xtb_InvalidText = true
  xd_InvalidText : PySem.W.kitOne K (.ref A.c_InvalidFirst) (.ref A.c_InvalidText) = some false
  xk_InvalidTurned : kitA K (.ref A.c_InvalidTurned) (xL A) xtb_InvalidTurned = true
  xd_InvalidTurned : PySem.W.kitOne K (.ref A.c_InvalidFirst) (.ref A.c_InvalidTurned) = some false
  xk_InvalidValues : kitA K (.ref A.c_InvalidValues) (xL A) xtb_InvalidValues = true
  xd_InvalidValues : PySem.W.kitOne K (.ref A.c_InvalidFirst) (.ref A.c_InvalidValues) = some false
  xk_LeagueError : kitA K (.ref A.c_LeagueError) (xL A) xtb_LeagueError = true
  xd_LeagueError : PySem.W.kitOne K (.ref A.c_InvalidFirst) (.ref A.c_LeagueError) = some true
  xk_LimitError : kitA K (.ref A.c_LimitError) (xL A) xtb_LimitError = true
  xd_LimitError : PySem.W.kitOne K (.ref A.c_InvalidFirst) (.ref A.c_LimitError) = some false
  xk_LookupError : kitA K (.type "LookupError") (xL A) xtb_LookupError = true
  xd_LookupError : PySem.W.kitOne K (.ref A.c_InvalidFirst) (.type "LookupError") = some false
  xk_NoRound : kitA K (.ref A.c_NoRound) (xL A) xtb_NoRound = true
  xd_NoRound : PySem.W.kitOne K (.ref A.c_InvalidFirst) (.ref A.c_NoRound) = some false
  xk_NotOpen : kitA K (.ref A.c_NotOpen) (xL A) xtb_NotOpen = true
  xd_NotOpen : PySem.W.kitOne K (.ref A.c_InvalidFirst) (.ref A.c_NotOpen) = some false
  xk_NotRight : kitA K (.ref A.c_NotRight) (xL A) xtb_NotRight = true
  xd_NotRight : PySem.W.kitOne K (.ref A.c_InvalidFirst) (.ref A.c_NotRight) = some false
  xk_NotSingle : kitA K (.ref A.c_NotSingle) (xL A) xtb_NotSingle = true
  xd_NotSingle : PySem.W.kitOne K (.ref A.c_InvalidFirst) (.ref A.c_NotSingle) = some false
  xk_NothingToUndo : kitA K (.ref A.c_NothingToUndo) (xL A) xtb_NothingToUndo = true
  xd_NothingToUndo : PySem.W.kitOne K (.ref A.c_InvalidFirst) (.ref A.c_NothingToUndo) = some false
  xk_RuntimeError : kitA K (.type "RuntimeError") (xL A) xtb_RuntimeError = true
  xd_RuntimeError : PySem.W.kitOne K (.ref A.c_InvalidFirst) (.type "RuntimeError") = some false
  xk_StateError : kitA K (.ref A.c_StateError) (xL A) xtb_StateError = true
  xd_StateError : PySem.W.kitOne K (.ref A.c_InvalidFirst) (.ref A.c_StateError) = some false
  xk_TooMany : kitA K (.ref A.c_TooMany) (xL A) xtb_TooMany = true
  xd_TooMany : PySem.W.kitOne K (.ref A.c_InvalidFirst) (.ref A.c_TooMany) = some false
  xk_TypeError : kitA K (.type "TypeError") (xL A) xtb_TypeError = true
  xd_TypeError : PySem.W.kitOne K (.ref A.c_InvalidFirst) (.type "TypeError") = some false
  xk_Unplayed : kitA K (.ref A.c_Unplayed) (xL A) xtb_Unplayed = true
  xd_Unplayed : PySem.W.kitOne K (.ref A.c_InvalidFirst) (.ref A.c_Unplayed) = some false
  xk_ValueError : kitA K (.type "ValueError") (xL A) xtb_ValueError = true
  xd_ValueError : PySem.W.kitOne K (.ref A.c_InvalidFirst) (.type "ValueError") = some true
  xk_ZeroDivisionError : kitA K (.type "ZeroDivisionError") (xL A) xtb_ZeroDivisionError = true
  xd_ZeroDivisionError : PySem.W.kitOne K (.ref A.c_InvalidFirst) (.type "ZeroDivisionError") = some false
  x0_LeagueError : PySem.W.excIn K A.c_LeagueError [.type "ValueError", .type "Exception", .type "BaseException", .type "object"] "ValueError.__new__" = true
  kp_LeagueError : PySem.W.keepIn K (.ref A.c_LeagueError) = true
  x0_LimitError : PySem.W.excIn K A.c_LimitError [.type "ArithmeticError", .type "Exception", .type "BaseException", .type "object"] "ArithmeticError.__new__" = true
  kp_LimitError : PySem.W.keepIn K (.ref A.c_LimitError) = true
  x0_StateError : PySem.W.excIn K A.c_StateError [.type "RuntimeError", .type "Exception", .type "BaseException", .type "object"] "RuntimeError.__new__" = true
  kp_StateError : PySem.W.keepIn K (.ref A.c_StateError) = true
  g_CommandFailed : mg "CommandFailed" = some (.ref A.c_CommandFailed)
  g_InvalidCells : mg "InvalidCells" = some (.ref A.c_InvalidCells)
  g_InvalidClaim : mg "InvalidClaim" = some (.ref A.c_InvalidClaim)
  g_InvalidCommand : mg "InvalidCommand" = some (.ref A.c_InvalidCommand)
  g_InvalidCount : mg "InvalidCount" = some (.ref A.c_InvalidCount)
  g_InvalidFirst : mg "InvalidFirst" = some (.ref A.c_InvalidFirst)
  g_InvalidFixed : mg "InvalidFixed" = some (.ref A.c_InvalidFixed)
  g_InvalidGauge : mg "InvalidGauge" = some (.ref A.c_InvalidGauge)
  g_InvalidLegs : mg "InvalidLegs" = some (.ref A.c_InvalidLegs)
  g_InvalidLot : mg "InvalidLot" = some (.ref A.c_InvalidLot)
  g_InvalidMarks : mg "InvalidMarks" = some (.ref A.c_InvalidMarks)
  g_InvalidNumber : mg "InvalidNumber" = some (.ref A.c_InvalidNumber)
  g_InvalidPlace : mg "InvalidPlace" = some (.ref A.c_InvalidPlace)
  g_InvalidRound : mg "InvalidRound" = some (.ref A.c_InvalidRound)
  g_InvalidRounds : mg "InvalidRounds" = some (.ref A.c_InvalidRounds)
  g_InvalidRows : mg "InvalidRows" = some (.ref A.c_InvalidRows)
  g_InvalidSize : mg "InvalidSize" = some (.ref A.c_InvalidSize)
  g_InvalidStander : mg "InvalidStander" = some (.ref A.c_InvalidStander)
  g_InvalidStep : mg "InvalidStep" = some (.ref A.c_InvalidStep)
  g_InvalidTeam : mg "InvalidTeam" = some (.ref A.c_InvalidTeam)
  g_InvalidText : mg "InvalidText" = some (.ref A.c_InvalidText)
  g_InvalidTurned : mg "InvalidTurned" = some (.ref A.c_InvalidTurned)
  g_InvalidValues : mg "InvalidValues" = some (.ref A.c_InvalidValues)
  g_LeagueError : mg "LeagueError" = some (.ref A.c_LeagueError)
  g_LimitError : mg "LimitError" = some (.ref A.c_LimitError)
  g_NoRound : mg "NoRound" = some (.ref A.c_NoRound)
  g_NotOpen : mg "NotOpen" = some (.ref A.c_NotOpen)
  g_NotRight : mg "NotRight" = some (.ref A.c_NotRight)
  g_NotSingle : mg "NotSingle" = some (.ref A.c_NotSingle)
  g_NothingToUndo : mg "NothingToUndo" = some (.ref A.c_NothingToUndo)
  g_StateError : mg "StateError" = some (.ref A.c_StateError)
  g_TooMany : mg "TooMany" = some (.ref A.c_TooMany)
  g_Unplayed : mg "Unplayed" = some (.ref A.c_Unplayed)
  ox_CommandFailed : OexG K A.c_CommandFailed
  ii_CommandFailed : PySem.W.findIn K (.ref A.c_CommandFailed) "__init__" = some (some (.ref A.a_CommandFailed_init))
  ti_CommandFailed : PySem.W.typeIn K (.ref A.a_CommandFailed_init) = some (.type "function")
  no_CommandFailed_position : PySem.W.findIn K (.ref A.c_CommandFailed) "position" = some none
  ox_InvalidCells : OexG K A.c_InvalidCells
  ii_InvalidCells : PySem.W.findIn K (.ref A.c_InvalidCells) "__init__" = some (some (.ref A.a_InvalidCells_init))
  ti_InvalidCells : PySem.W.typeIn K (.ref A.a_InvalidCells_init) = some (.type "function")
  no_InvalidCells_position : PySem.W.findIn K (.ref A.c_InvalidCells) "position" = some none
  ox_InvalidClaim : OexG K A.c_InvalidClaim
  ii_InvalidClaim : PySem.W.findIn K (.ref A.c_InvalidClaim) "__init__" = some (some (.ref A.a_InvalidClaim_init))
  ti_InvalidClaim : PySem.W.typeIn K (.ref A.a_InvalidClaim_init) = some (.type "function")
  no_InvalidClaim_value : PySem.W.findIn K (.ref A.c_InvalidClaim) "value" = some none
  ox_InvalidCommand : OexG K A.c_InvalidCommand
  ii_InvalidCommand : PySem.W.findIn K (.ref A.c_InvalidCommand) "__init__" = some (some (.ref A.a_InvalidCommand_init))
  ti_InvalidCommand : PySem.W.typeIn K (.ref A.a_InvalidCommand_init) = some (.type "function")
  no_InvalidCommand_value : PySem.W.findIn K (.ref A.c_InvalidCommand) "value" = some none
  ox_InvalidCount : OexG K A.c_InvalidCount
  ii_InvalidCount : PySem.W.findIn K (.ref A.c_InvalidCount) "__init__" = some (some (.ref A.a_InvalidCount_init))
  ti_InvalidCount : PySem.W.typeIn K (.ref A.a_InvalidCount_init) = some (.type "function")
  no_InvalidCount_value : PySem.W.findIn K (.ref A.c_InvalidCount) "value" = some none
  ox_InvalidFirst : OexG K A.c_InvalidFirst
  ii_InvalidFirst : PySem.W.findIn K (.ref A.c_InvalidFirst) "__init__" = some (some (.ref A.a_InvalidFirst_init))
  ti_InvalidFirst : PySem.W.typeIn K (.ref A.a_InvalidFirst_init) = some (.type "function")
  no_InvalidFirst_value : PySem.W.findIn K (.ref A.c_InvalidFirst) "value" = some none
  ox_InvalidFixed : OexG K A.c_InvalidFixed
  ii_InvalidFixed : PySem.W.findIn K (.ref A.c_InvalidFixed) "__init__" = some (some (.ref A.a_InvalidFixed_init))
  ti_InvalidFixed : PySem.W.typeIn K (.ref A.a_InvalidFixed_init) = some (.type "function")
  no_InvalidFixed_position : PySem.W.findIn K (.ref A.c_InvalidFixed) "position" = some none
  ox_InvalidGauge : OexG K A.c_InvalidGauge
  ii_InvalidGauge : PySem.W.findIn K (.ref A.c_InvalidGauge) "__init__" = some (some (.ref A.a_InvalidGauge_init))
  ti_InvalidGauge : PySem.W.typeIn K (.ref A.a_InvalidGauge_init) = some (.type "function")
  no_InvalidGauge_position : PySem.W.findIn K (.ref A.c_InvalidGauge) "position" = some none
  ox_InvalidLegs : OexG K A.c_InvalidLegs
  ii_InvalidLegs : PySem.W.findIn K (.ref A.c_InvalidLegs) "__init__" = some (some (.ref A.a_InvalidLegs_init))
  ti_InvalidLegs : PySem.W.typeIn K (.ref A.a_InvalidLegs_init) = some (.type "function")
  no_InvalidLegs_position : PySem.W.findIn K (.ref A.c_InvalidLegs) "position" = some none
  ox_InvalidLot : OexG K A.c_InvalidLot
  ii_InvalidLot : PySem.W.findIn K (.ref A.c_InvalidLot) "__init__" = some (some (.ref A.a_InvalidLot_init))
  ti_InvalidLot : PySem.W.typeIn K (.ref A.a_InvalidLot_init) = some (.type "function")
  no_InvalidLot_position : PySem.W.findIn K (.ref A.c_InvalidLot) "position" = some none
  ox_InvalidMarks : OexG K A.c_InvalidMarks
  ii_InvalidMarks : PySem.W.findIn K (.ref A.c_InvalidMarks) "__init__" = some (some (.ref A.a_InvalidMarks_init))
  ti_InvalidMarks : PySem.W.typeIn K (.ref A.a_InvalidMarks_init) = some (.type "function")
  no_InvalidMarks_value : PySem.W.findIn K (.ref A.c_InvalidMarks) "value" = some none
  ox_InvalidNumber : OexG K A.c_InvalidNumber
  ii_InvalidNumber : PySem.W.findIn K (.ref A.c_InvalidNumber) "__init__" = some (some (.ref A.a_InvalidNumber_init))
  ti_InvalidNumber : PySem.W.typeIn K (.ref A.a_InvalidNumber_init) = some (.type "function")
  no_InvalidNumber_value : PySem.W.findIn K (.ref A.c_InvalidNumber) "value" = some none
  ox_InvalidPlace : OexG K A.c_InvalidPlace
  ii_InvalidPlace : PySem.W.findIn K (.ref A.c_InvalidPlace) "__init__" = some (some (.ref A.a_InvalidPlace_init))
  ti_InvalidPlace : PySem.W.typeIn K (.ref A.a_InvalidPlace_init) = some (.type "function")
  no_InvalidPlace_value : PySem.W.findIn K (.ref A.c_InvalidPlace) "value" = some none
  ox_InvalidRound : OexG K A.c_InvalidRound
  ii_InvalidRound : PySem.W.findIn K (.ref A.c_InvalidRound) "__init__" = some (some (.ref A.a_InvalidRound_init))
  ti_InvalidRound : PySem.W.typeIn K (.ref A.a_InvalidRound_init) = some (.type "function")
  no_InvalidRound_value : PySem.W.findIn K (.ref A.c_InvalidRound) "value" = some none
  ox_InvalidRounds : OexG K A.c_InvalidRounds
  ii_InvalidRounds : PySem.W.findIn K (.ref A.c_InvalidRounds) "__init__" = some (some (.ref A.a_InvalidRounds_init))
  ti_InvalidRounds : PySem.W.typeIn K (.ref A.a_InvalidRounds_init) = some (.type "function")
  no_InvalidRounds_position : PySem.W.findIn K (.ref A.c_InvalidRounds) "position" = some none
  ox_InvalidRows : OexG K A.c_InvalidRows
  ii_InvalidRows : PySem.W.findIn K (.ref A.c_InvalidRows) "__init__" = some (some (.ref A.a_InvalidRows_init))
  ti_InvalidRows : PySem.W.typeIn K (.ref A.a_InvalidRows_init) = some (.type "function")
  no_InvalidRows_position : PySem.W.findIn K (.ref A.c_InvalidRows) "position" = some none
  ox_InvalidSize : OexG K A.c_InvalidSize
  ii_InvalidSize : PySem.W.findIn K (.ref A.c_InvalidSize) "__init__" = some (some (.ref A.a_InvalidSize_init))
  ti_InvalidSize : PySem.W.typeIn K (.ref A.a_InvalidSize_init) = some (.type "function")
  no_InvalidSize_value : PySem.W.findIn K (.ref A.c_InvalidSize) "value" = some none
  ox_InvalidStander : OexG K A.c_InvalidStander
  ii_InvalidStander : PySem.W.findIn K (.ref A.c_InvalidStander) "__init__" = some (some (.ref A.a_InvalidStander_init))
  ti_InvalidStander : PySem.W.typeIn K (.ref A.a_InvalidStander_init) = some (.type "function")
  no_InvalidStander_value : PySem.W.findIn K (.ref A.c_InvalidStander) "value" = some none
  ox_InvalidStep : OexG K A.c_InvalidStep
  ii_InvalidStep : PySem.W.findIn K (.ref A.c_InvalidStep) "__init__" = some (some (.ref A.a_InvalidStep_init))
  ti_InvalidStep : PySem.W.typeIn K (.ref A.a_InvalidStep_init) = some (.type "function")
  no_InvalidStep_value : PySem.W.findIn K (.ref A.c_InvalidStep) "value" = some none
  ox_InvalidTeam : OexG K A.c_InvalidTeam
  ii_InvalidTeam : PySem.W.findIn K (.ref A.c_InvalidTeam) "__init__" = some (some (.ref A.a_InvalidTeam_init))
  ti_InvalidTeam : PySem.W.typeIn K (.ref A.a_InvalidTeam_init) = some (.type "function")
  no_InvalidTeam_value : PySem.W.findIn K (.ref A.c_InvalidTeam) "value" = some none
  ox_InvalidText : OexG K A.c_InvalidText
  ii_InvalidText : PySem.W.findIn K (.ref A.c_InvalidText) "__init__" = some (some (.ref A.a_InvalidText_init))
  ti_InvalidText : PySem.W.typeIn K (.ref A.a_InvalidText_init) = some (.type "function")
  no_InvalidText_line : PySem.W.findIn K (.ref A.c_InvalidText) "line" = some none
  ox_InvalidTurned : OexG K A.c_InvalidTurned
  ii_InvalidTurned : PySem.W.findIn K (.ref A.c_InvalidTurned) "__init__" = some (some (.ref A.a_InvalidTurned_init))
  ti_InvalidTurned : PySem.W.typeIn K (.ref A.a_InvalidTurned_init) = some (.type "function")
  no_InvalidTurned_value : PySem.W.findIn K (.ref A.c_InvalidTurned) "value" = some none
  ox_InvalidValues : OexG K A.c_InvalidValues
  ii_InvalidValues : PySem.W.findIn K (.ref A.c_InvalidValues) "__init__" = some (some (.ref A.a_InvalidValues_init))
  ti_InvalidValues : PySem.W.typeIn K (.ref A.a_InvalidValues_init) = some (.type "function")
  no_InvalidValues_position : PySem.W.findIn K (.ref A.c_InvalidValues) "position" = some none
  ox_NoRound : OexG K A.c_NoRound
  ii_NoRound : PySem.W.findIn K (.ref A.c_NoRound) "__init__" = some (some (.ref A.a_NoRound_init))
  ti_NoRound : PySem.W.typeIn K (.ref A.a_NoRound_init) = some (.type "function")
  ox_NotOpen : OexG K A.c_NotOpen
  ii_NotOpen : PySem.W.findIn K (.ref A.c_NotOpen) "__init__" = some (some (.ref A.a_NotOpen_init))
  ti_NotOpen : PySem.W.typeIn K (.ref A.a_NotOpen_init) = some (.type "function")
  no_NotOpen_home : PySem.W.findIn K (.ref A.c_NotOpen) "home" = some none
  no_NotOpen_away : PySem.W.findIn K (.ref A.c_NotOpen) "away" = some none
  ox_NotRight : OexG K A.c_NotRight
  ii_NotRight : PySem.W.findIn K (.ref A.c_NotRight) "__init__" = some (some (.ref A.a_NotRight_init))
  ti_NotRight : PySem.W.typeIn K (.ref A.a_NotRight_init) = some (.type "function")
  no_NotRight_size : PySem.W.findIn K (.ref A.c_NotRight) "size" = some none
  ox_NotSingle : OexG K A.c_NotSingle
  ii_NotSingle : PySem.W.findIn K (.ref A.c_NotSingle) "__init__" = some (some (.ref A.a_NotSingle_init))
  ti_NotSingle : PySem.W.typeIn K (.ref A.a_NotSingle_init) = some (.type "function")
  no_NotSingle_one : PySem.W.findIn K (.ref A.c_NotSingle) "one" = some none
  no_NotSingle_other : PySem.W.findIn K (.ref A.c_NotSingle) "other" = some none
  ox_NothingToUndo : OexG K A.c_NothingToUndo
  ii_NothingToUndo : PySem.W.findIn K (.ref A.c_NothingToUndo) "__init__" = some (some (.ref A.a_NothingToUndo_init))
  ti_NothingToUndo : PySem.W.typeIn K (.ref A.a_NothingToUndo_init) = some (.type "function")
  ox_TooMany : OexG K A.c_TooMany
  ii_TooMany : PySem.W.findIn K (.ref A.c_TooMany) "__init__" = some (some (.ref A.a_TooMany_init))
  ti_TooMany : PySem.W.typeIn K (.ref A.a_TooMany_init) = some (.type "function")
  no_TooMany_what : PySem.W.findIn K (.ref A.c_TooMany) "what" = some none
  no_TooMany_limit : PySem.W.findIn K (.ref A.c_TooMany) "limit" = some none
  ox_Unplayed : OexG K A.c_Unplayed
  ii_Unplayed : PySem.W.findIn K (.ref A.c_Unplayed) "__init__" = some (some (.ref A.a_Unplayed_init))
  ti_Unplayed : PySem.W.typeIn K (.ref A.a_Unplayed_init) = some (.type "function")
  no_Unplayed_home : PySem.W.findIn K (.ref A.c_Unplayed) "home" = some none
  no_Unplayed_away : PySem.W.findIn K (.ref A.c_Unplayed) "away" = some none
  F_draw : Fun K "_law_draw" "_law_draw" s_draw A.a_draw A.d_draw
  b_draw : Binds K A.d_draw ["_law_pot_here", "_law_many"] []
  g_draw : mg "_law_draw" = some (.ref A.a_draw)
  F_pick : Fun K "_law_pick" "_law_pick" s_pick A.a_pick A.d_pick
  b_pick : Binds K A.d_pick ["_law_pot_here", "_law_some"] []
  g_pick : mg "_law_pick" = some (.ref A.a_pick)
  F_all : Fun K "_law_all" "_law_all" s_all A.a_all A.d_all
  b_all : Binds K A.d_all ["_law_a", "_law_b"] []
  g_all : mg "_law_all" = some (.ref A.a_all)
  F_named : Fun K "_law_named" "_law_named" s_named A.a_named A.d_named
  b_named : Binds K A.d_named ["_law_a", "_law_b"] []
  g_named : mg "_law_named" = some (.ref A.a_named)
  F_kept : Fun K "_law_kept" "_law_kept" s_kept A.a_kept A.d_kept
  b_kept : Binds K A.d_kept ["_law_k", "_law_e"] []
  g_kept : mg "_law_kept" = some (.ref A.a_kept)
  F_width : Fun K "_law_width" "_law_width" s_width A.a_width A.d_width
  b_width : Binds K A.d_width ["_law_k"] []
  g_width : mg "_law_width" = some (.ref A.a_width)
  F_flags : Fun K "_law_flags" "_law_flags" s_flags A.a_flags A.d_flags
  b_flags : Binds K A.d_flags ["_law_e"] []
  g_flags : mg "_law_flags" = some (.ref A.a_flags)
  F_grounds : Fun K "_law_grounds" "_law_grounds" s_grounds A.a_grounds A.d_grounds
  b_grounds : Binds K A.d_grounds ["_law_e"] []
  g_grounds : mg "_law_grounds" = some (.ref A.a_grounds)
  F_ground : Fun K "_law_ground" "_law_ground" s_ground A.a_ground A.d_ground
  b_ground : Binds K A.d_ground ["_law_k"] []
  g_ground : mg "_law_ground" = some (.ref A.a_ground)
  F_due_grounds : Fun K "_law_due_grounds" "_law_due_grounds" s_due_grounds A.a_due_grounds A.d_due_grounds
  b_due_grounds : Binds K A.d_due_grounds ["_law_ground_here"] []
  g_due_grounds : mg "_law_due_grounds" = some (.ref A.a_due_grounds)
  F_right : Fun K "_law_right" "_law_right" s_right A.a_right A.d_right
  b_right : Binds K A.d_right ["_law_pot_here"] []
  g_right : mg "_law_right" = some (.ref A.a_right)
  F_pot : Fun K "_law_pot" "_law_pot" s_pot A.a_pot A.d_pot
  b_pot : Binds K A.d_pot ["_law_script", "_law_k"] []
  g_pot : mg "_law_pot" = some (.ref A.a_pot)
  F_law : Fun K "law" "law" s_law A.a_law A.d_law
  b_law : Binds K A.d_law ["_law_script"] []
  g_law : mg "law" = some (.ref A.a_law)
  F_CommandFailed_init : Fun K "__init__" "CommandFailed.__init__" s_CommandFailed_init A.a_CommandFailed_init A.d_CommandFailed_init
  b_CommandFailed_init : Binds K A.d_CommandFailed_init ["self", "position"] []
  F_InvalidCells_init : Fun K "__init__" "InvalidCells.__init__" s_InvalidCells_init A.a_InvalidCells_init A.d_InvalidCells_init
  b_InvalidCells_init : Binds K A.d_InvalidCells_init ["self", "position"] []
  F_InvalidClaim_init : Fun K "__init__" "InvalidClaim.__init__" s_InvalidClaim_init A.a_InvalidClaim_init A.d_InvalidClaim_init
  b_InvalidClaim_init : Binds K A.d_InvalidClaim_init ["self", "value"] []
  F_InvalidCommand_init : Fun K "__init__" "InvalidCommand.__init__" s_InvalidCommand_init A.a_InvalidCommand_init A.d_InvalidCommand_init
  b_InvalidCommand_init : Binds K A.d_InvalidCommand_init ["self", "value"] []
  F_InvalidCount_init : Fun K "__init__" "InvalidCount.__init__" s_InvalidCount_init A.a_InvalidCount_init A.d_InvalidCount_init
  b_InvalidCount_init : Binds K A.d_InvalidCount_init ["self", "value"] []
  F_InvalidFirst_init : Fun K "__init__" "InvalidFirst.__init__" s_InvalidFirst_init A.a_InvalidFirst_init A.d_InvalidFirst_init
  b_InvalidFirst_init : Binds K A.d_InvalidFirst_init ["self", "value"] []
  F_InvalidFixed_init : Fun K "__init__" "InvalidFixed.__init__" s_InvalidFixed_init A.a_InvalidFixed_init A.d_InvalidFixed_init
  b_InvalidFixed_init : Binds K A.d_InvalidFixed_init ["self", "position"] []
  F_InvalidGauge_init : Fun K "__init__" "InvalidGauge.__init__" s_InvalidGauge_init A.a_InvalidGauge_init A.d_InvalidGauge_init
  b_InvalidGauge_init : Binds K A.d_InvalidGauge_init ["self", "position"] []
  F_InvalidLegs_init : Fun K "__init__" "InvalidLegs.__init__" s_InvalidLegs_init A.a_InvalidLegs_init A.d_InvalidLegs_init
  b_InvalidLegs_init : Binds K A.d_InvalidLegs_init ["self", "position"] []
  F_InvalidLot_init : Fun K "__init__" "InvalidLot.__init__" s_InvalidLot_init A.a_InvalidLot_init A.d_InvalidLot_init
  b_InvalidLot_init : Binds K A.d_InvalidLot_init ["self", "position"] []
  F_InvalidMarks_init : Fun K "__init__" "InvalidMarks.__init__" s_InvalidMarks_init A.a_InvalidMarks_init A.d_InvalidMarks_init
  b_InvalidMarks_init : Binds K A.d_InvalidMarks_init ["self", "value"] []
  F_InvalidNumber_init : Fun K "__init__" "InvalidNumber.__init__" s_InvalidNumber_init A.a_InvalidNumber_init A.d_InvalidNumber_init
  b_InvalidNumber_init : Binds K A.d_InvalidNumber_init ["self", "value"] []
  F_InvalidPlace_init : Fun K "__init__" "InvalidPlace.__init__" s_InvalidPlace_init A.a_InvalidPlace_init A.d_InvalidPlace_init
  b_InvalidPlace_init : Binds K A.d_InvalidPlace_init ["self", "value"] []
  F_InvalidRound_init : Fun K "__init__" "InvalidRound.__init__" s_InvalidRound_init A.a_InvalidRound_init A.d_InvalidRound_init
  b_InvalidRound_init : Binds K A.d_InvalidRound_init ["self", "value"] []
  F_InvalidRounds_init : Fun K "__init__" "InvalidRounds.__init__" s_InvalidRounds_init A.a_InvalidRounds_init A.d_InvalidRounds_init
  b_InvalidRounds_init : Binds K A.d_InvalidRounds_init ["self", "position"] []
  F_InvalidRows_init : Fun K "__init__" "InvalidRows.__init__" s_InvalidRows_init A.a_InvalidRows_init A.d_InvalidRows_init
  b_InvalidRows_init : Binds K A.d_InvalidRows_init ["self", "position"] []
  F_InvalidSize_init : Fun K "__init__" "InvalidSize.__init__" s_InvalidSize_init A.a_InvalidSize_init A.d_InvalidSize_init
  b_InvalidSize_init : Binds K A.d_InvalidSize_init ["self", "value"] []
  F_InvalidStander_init : Fun K "__init__" "InvalidStander.__init__" s_InvalidStander_init A.a_InvalidStander_init A.d_InvalidStander_init
  b_InvalidStander_init : Binds K A.d_InvalidStander_init ["self", "value"] []
  F_InvalidStep_init : Fun K "__init__" "InvalidStep.__init__" s_InvalidStep_init A.a_InvalidStep_init A.d_InvalidStep_init
  b_InvalidStep_init : Binds K A.d_InvalidStep_init ["self", "value"] []
  F_InvalidTeam_init : Fun K "__init__" "InvalidTeam.__init__" s_InvalidTeam_init A.a_InvalidTeam_init A.d_InvalidTeam_init
  b_InvalidTeam_init : Binds K A.d_InvalidTeam_init ["self", "value"] []
  F_InvalidText_init : Fun K "__init__" "InvalidText.__init__" s_InvalidText_init A.a_InvalidText_init A.d_InvalidText_init
  b_InvalidText_init : Binds K A.d_InvalidText_init ["self", "line"] []
  F_InvalidTurned_init : Fun K "__init__" "InvalidTurned.__init__" s_InvalidTurned_init A.a_InvalidTurned_init A.d_InvalidTurned_init
  b_InvalidTurned_init : Binds K A.d_InvalidTurned_init ["self", "value"] []
  F_InvalidValues_init : Fun K "__init__" "InvalidValues.__init__" s_InvalidValues_init A.a_InvalidValues_init A.d_InvalidValues_init
  b_InvalidValues_init : Binds K A.d_InvalidValues_init ["self", "position"] []
  F_NoRound_init : Fun K "__init__" "NoRound.__init__" s_NoRound_init A.a_NoRound_init A.d_NoRound_init
  b_NoRound_init : Binds K A.d_NoRound_init ["self"] []
  F_NotOpen_init : Fun K "__init__" "NotOpen.__init__" s_NotOpen_init A.a_NotOpen_init A.d_NotOpen_init
  b_NotOpen_init : Binds K A.d_NotOpen_init ["self", "home", "away"] []
  F_NotRight_init : Fun K "__init__" "NotRight.__init__" s_NotRight_init A.a_NotRight_init A.d_NotRight_init
  b_NotRight_init : Binds K A.d_NotRight_init ["self", "size"] []
  F_NotSingle_init : Fun K "__init__" "NotSingle.__init__" s_NotSingle_init A.a_NotSingle_init A.d_NotSingle_init
  b_NotSingle_init : Binds K A.d_NotSingle_init ["self", "one", "other"] []
  F_NothingToUndo_init : Fun K "__init__" "NothingToUndo.__init__" s_NothingToUndo_init A.a_NothingToUndo_init A.d_NothingToUndo_init
  b_NothingToUndo_init : Binds K A.d_NothingToUndo_init ["self"] []
  F_TooMany_init : Fun K "__init__" "TooMany.__init__" s_TooMany_init A.a_TooMany_init A.d_TooMany_init
  b_TooMany_init : Binds K A.d_TooMany_init ["self", "what", "limit"] []
  F_Unplayed_init : Fun K "__init__" "Unplayed.__init__" s_Unplayed_init A.a_Unplayed_init A.d_Unplayed_init
  b_Unplayed_init : Binds K A.d_Unplayed_init ["self", "home", "away"] []
  z_ArithmeticError : mg "ArithmeticError" = none
  z_LookupError : mg "LookupError" = none
  z_RuntimeError : mg "RuntimeError" = none
  z_TypeError : mg "TypeError" = none
  z_ValueError : mg "ValueError" = none
  z_ZeroDivisionError : mg "ZeroDivisionError" = none
  z_abs : mg "abs" = none
  z_all : mg "all" = none
  z_dict : mg "dict" = none
  z_divmod : mg "divmod" = none
  z_enumerate : mg "enumerate" = none
  z_int : mg "int" = none
  z_isinstance : mg "isinstance" = none
  z_len : mg "len" = none
  z_list : mg "list" = none
  z_max : mg "max" = none
  z_min : mg "min" = none
  z_range : mg "range" = none
  z_repr : mg "repr" = none
  z_tuple : mg "tuple" = none
  z_zip : mg "zip" = none
  k_CommandFailed_init_position : KBn K A.d_CommandFailed_init ["self", "position"] 1 ["position"] (fun us ws => us ++ [ws.getD 0 .none]) (fun us ws => us ++ [ws.getD 0 .non])
  k_InvalidCells_init_position : KBn K A.d_InvalidCells_init ["self", "position"] 1 ["position"] (fun us ws => us ++ [ws.getD 0 .none]) (fun us ws => us ++ [ws.getD 0 .non])
  k_InvalidClaim_init_value : KBn K A.d_InvalidClaim_init ["self", "value"] 1 ["value"] (fun us ws => us ++ [ws.getD 0 .none]) (fun us ws => us ++ [ws.getD 0 .non])
  k_InvalidCommand_init_value : KBn K A.d_InvalidCommand_init ["self", "value"] 1 ["value"] (fun us ws => us ++ [ws.getD 0 .none]) (fun us ws => us ++ [ws.getD 0 .non])
  k_InvalidCount_init_value : KBn K A.d_InvalidCount_init ["self", "value"] 1 ["value"] (fun us ws => us ++ [ws.getD 0 .none]) (fun us ws => us ++ [ws.getD 0 .non])
  k_InvalidFirst_init_value : KBn K A.d_InvalidFirst_init ["self", "value"] 1 ["value"] (fun us ws => us ++ [ws.getD 0 .none]) (fun us ws => us ++ [ws.getD 0 .non])
  k_InvalidFixed_init_position : KBn K A.d_InvalidFixed_init ["self", "position"] 1 ["position"] (fun us ws => us ++ [ws.getD 0 .none]) (fun us ws => us ++ [ws.getD 0 .non])
  k_InvalidGauge_init_position : KBn K A.d_InvalidGauge_init ["self", "position"] 1 ["position"] (fun us ws => us ++ [ws.getD 0 .none]) (fun us ws => us ++ [ws.getD 0 .non])
  k_InvalidLegs_init_position : KBn K A.d_InvalidLegs_init ["self", "position"] 1 ["position"] (fun us ws => us ++ [ws.getD 0 .none]) (fun us ws => us ++ [ws.getD 0 .non])
  k_InvalidLot_init_position : KBn K A.d_InvalidLot_init ["self", "position"] 1 ["position"] (fun us ws => us ++ [ws.getD 0 .none]) (fun us ws => us ++ [ws.getD 0 .non])
  k_InvalidMarks_init_value : KBn K A.d_InvalidMarks_init ["self", "value"] 1 ["value"] (fun us ws => us ++ [ws.getD 0 .none]) (fun us ws => us ++ [ws.getD 0 .non])
  k_InvalidNumber_init_value : KBn K A.d_InvalidNumber_init ["self", "value"] 1 ["value"] (fun us ws => us ++ [ws.getD 0 .none]) (fun us ws => us ++ [ws.getD 0 .non])
  k_InvalidPlace_init_value : KBn K A.d_InvalidPlace_init ["self", "value"] 1 ["value"] (fun us ws => us ++ [ws.getD 0 .none]) (fun us ws => us ++ [ws.getD 0 .non])
  k_InvalidRound_init_value : KBn K A.d_InvalidRound_init ["self", "value"] 1 ["value"] (fun us ws => us ++ [ws.getD 0 .none]) (fun us ws => us ++ [ws.getD 0 .non])
  k_InvalidRounds_init_position : KBn K A.d_InvalidRounds_init ["self", "position"] 1 ["position"] (fun us ws => us ++ [ws.getD 0 .none]) (fun us ws => us ++ [ws.getD 0 .non])
  k_InvalidRows_init_position : KBn K A.d_InvalidRows_init ["self", "position"] 1 ["position"] (fun us ws => us ++ [ws.getD 0 .none]) (fun us ws => us ++ [ws.getD 0 .non])
  k_InvalidSize_init_value : KBn K A.d_InvalidSize_init ["self", "value"] 1 ["value"] (fun us ws => us ++ [ws.getD 0 .none]) (fun us ws => us ++ [ws.getD 0 .non])
  k_InvalidStander_init_value : KBn K A.d_InvalidStander_init ["self", "value"] 1 ["value"] (fun us ws => us ++ [ws.getD 0 .none]) (fun us ws => us ++ [ws.getD 0 .non])
  k_InvalidStep_init_value : KBn K A.d_InvalidStep_init ["self", "value"] 1 ["value"] (fun us ws => us ++ [ws.getD 0 .none]) (fun us ws => us ++ [ws.getD 0 .non])
  k_InvalidTeam_init_value : KBn K A.d_InvalidTeam_init ["self", "value"] 1 ["value"] (fun us ws => us ++ [ws.getD 0 .none]) (fun us ws => us ++ [ws.getD 0 .non])
  k_InvalidText_init_line : KBn K A.d_InvalidText_init ["self", "line"] 1 ["line"] (fun us ws => us ++ [ws.getD 0 .none]) (fun us ws => us ++ [ws.getD 0 .non])
  k_InvalidTurned_init_value : KBn K A.d_InvalidTurned_init ["self", "value"] 1 ["value"] (fun us ws => us ++ [ws.getD 0 .none]) (fun us ws => us ++ [ws.getD 0 .non])
  k_InvalidValues_init_position : KBn K A.d_InvalidValues_init ["self", "position"] 1 ["position"] (fun us ws => us ++ [ws.getD 0 .none]) (fun us ws => us ++ [ws.getD 0 .non])
  k_NoRound_init_ : KBn K A.d_NoRound_init ["self"] 1 [] (fun us ws => us ++ []) (fun us ws => us ++ [])
  k_NotOpen_init_away_home : KBn K A.d_NotOpen_init ["self", "home", "away"] 1 ["away", "home"] (fun us ws => us ++ [ws.getD 1 .none, ws.getD 0 .none]) (fun us ws => us ++ [ws.getD 1 .non, ws.getD 0 .non])
  k_NotRight_init_size : KBn K A.d_NotRight_init ["self", "size"] 1 ["size"] (fun us ws => us ++ [ws.getD 0 .none]) (fun us ws => us ++ [ws.getD 0 .non])
  k_NotSingle_init_other_one : KBn K A.d_NotSingle_init ["self", "one", "other"] 1 ["other", "one"] (fun us ws => us ++ [ws.getD 1 .none, ws.getD 0 .none]) (fun us ws => us ++ [ws.getD 1 .non, ws.getD 0 .non])
  k_NothingToUndo_init_ : KBn K A.d_NothingToUndo_init ["self"] 1 [] (fun us ws => us ++ []) (fun us ws => us ++ [])
  k_TooMany_init_limit_what : KBn K A.d_TooMany_init ["self", "what", "limit"] 1 ["limit", "what"] (fun us ws => us ++ [ws.getD 1 .none, ws.getD 0 .none]) (fun us ws => us ++ [ws.getD 1 .non, ws.getD 0 .non])
  k_Unplayed_init_away_home : KBn K A.d_Unplayed_init ["self", "home", "away"] 1 ["away", "home"] (fun us ws => us ++ [ws.getD 1 .none, ws.getD 0 .none]) (fun us ws => us ++ [ws.getD 1 .non, ws.getD 0 .non])
theorem ok_CommandFailed_init {P : Program} {w : World} {K : PySem.W.Frag} {mg : Str → Option Value} {base : Heap} {A : Ad} (T : Txt w K mg A) : FnOk P w K mg base CX0 1 A.a_CommandFailed_init A.d_CommandFailed_init ["self", "position"] (sp_exi A.c_CommandFailed "position") := by
  refine T.F_CommandFailed_init.ok sc_CommandFailed_init (fun vs H Q E h => ?_) (fun cdv A_ outer s_ H_0 vs Q E hr h => ?_)
  · obtain ⟨a, y, rfl, _⟩ := h
    rfl
  · obtain ⟨a, y, rfl, ha, hQ⟩ := h
    refine ⟨_, pss_one (ps_ostG rfl (pv 0) (pv 1)), ?_⟩
    exact ⟨_, rfl, _, rfl, a, A.c_CommandFailed, rfl, T.ox_CommandFailed, T.no_CommandFailed_position, .inl ⟨ha, fun dx n1 n2 => hQ dx n1 n2⟩⟩
theorem ok_InvalidCells_init {P : Program} {w : World} {K : PySem.W.Frag} {mg : Str → Option Value} {base : Heap} {A : Ad} (T : Txt w K mg A) : FnOk P w K mg base CX0 1 A.a_InvalidCells_init A.d_InvalidCells_init ["self", "position"] (sp_exi A.c_InvalidCells "position") := by
  refine T.F_InvalidCells_init.ok sc_InvalidCells_init (fun vs H Q E h => ?_) (fun cdv A_ outer s_ H_0 vs Q E hr h => ?_)
  · obtain ⟨a, y, rfl, _⟩ := h
    rfl
  · obtain ⟨a, y, rfl, ha, hQ⟩ := h
    refine ⟨_, pss_one (ps_ostG rfl (pv 0) (pv 1)), ?_⟩
    exact ⟨_, rfl, _, rfl, a, A.c_InvalidCells, rfl, T.ox_InvalidCells, T.no_InvalidCells_position, .inl ⟨ha, fun dx n1 n2 => hQ dx n1 n2⟩⟩
theorem ok_InvalidClaim_init {P : Program} {w : World} {K : PySem.W.Frag} {mg : Str → Option Value} {base : Heap} {A : Ad} (T : Txt w K mg A) : FnOk P w K mg base CX0 1 A.a_InvalidClaim_init A.d_InvalidClaim_init ["self", "value"] (sp_exi A.c_InvalidClaim "value") := by
  refine T.F_InvalidClaim_init.ok sc_InvalidClaim_init (fun vs H Q E h => ?_) (fun cdv A_ outer s_ H_0 vs Q E hr h => ?_)
  · obtain ⟨a, y, rfl, _⟩ := h
    rfl
  · obtain ⟨a, y, rfl, ha, hQ⟩ := h
    refine ⟨_, pss_one (ps_ostG rfl (pv 0) (pv 1)), ?_⟩
    exact ⟨_, rfl, _, rfl, a, A.c_InvalidClaim, rfl, T.ox_InvalidClaim, T.no_InvalidClaim_value, .inl ⟨ha, fun dx n1 n2 => hQ dx n1 n2⟩⟩
theorem ok_InvalidCommand_init {P : Program} {w : World} {K : PySem.W.Frag} {mg : Str → Option Value} {base : Heap} {A : Ad} (T : Txt w K mg A) : FnOk P w K mg base CX0 1 A.a_InvalidCommand_init A.d_InvalidCommand_init ["self", "value"] (sp_exi A.c_InvalidCommand "value") := by
  refine T.F_InvalidCommand_init.ok sc_InvalidCommand_init (fun vs H Q E h => ?_) (fun cdv A_ outer s_ H_0 vs Q E hr h => ?_)
  · obtain ⟨a, y, rfl, _⟩ := h
    rfl
  · obtain ⟨a, y, rfl, ha, hQ⟩ := h
    refine ⟨_, pss_one (ps_ostG rfl (pv 0) (pv 1)), ?_⟩
    exact ⟨_, rfl, _, rfl, a, A.c_InvalidCommand, rfl, T.ox_InvalidCommand, T.no_InvalidCommand_value, .inl ⟨ha, fun dx n1 n2 => hQ dx n1 n2⟩⟩
theorem ok_InvalidCount_init {P : Program} {w : World} {K : PySem.W.Frag} {mg : Str → Option Value} {base : Heap} {A : Ad} (T : Txt w K mg A) : FnOk P w K mg base CX0 1 A.a_InvalidCount_init A.d_InvalidCount_init ["self", "value"] (sp_exi A.c_InvalidCount "value") := by
  refine T.F_InvalidCount_init.ok sc_InvalidCount_init (fun vs H Q E h => ?_) (fun cdv A_ outer s_ H_0 vs Q E hr h => ?_)
  · obtain ⟨a, y, rfl, _⟩ := h
    rfl
  · obtain ⟨a, y, rfl, ha, hQ⟩ := h
    refine ⟨_, pss_one (ps_ostG rfl (pv 0) (pv 1)), ?_⟩
    exact ⟨_, rfl, _, rfl, a, A.c_InvalidCount, rfl, T.ox_InvalidCount, T.no_InvalidCount_value, .inl ⟨ha, fun dx n1 n2 => hQ dx n1 n2⟩⟩
theorem ok_InvalidFirst_init {P : Program} {w : World} {K : PySem.W.Frag} {mg : Str → Option Value} {base : Heap} {A : Ad} (T : Txt w K mg A) : FnOk P w K mg base CX0 1 A.a_InvalidFirst_init A.d_InvalidFirst_init ["self", "value"] (sp_exi A.c_InvalidFirst "value") := by
  refine T.F_InvalidFirst_init.ok sc_InvalidFirst_init (fun vs H Q E h => ?_) (fun cdv A_ outer s_ H_0 vs Q E hr h => ?_)
  · obtain ⟨a, y, rfl, _⟩ := h
    rfl
  · obtain ⟨a, y, rfl, ha, hQ⟩ := h
    refine ⟨_, pss_one (ps_ostG rfl (pv 0) (pv 1)), ?_⟩
    exact ⟨_, rfl, _, rfl, a, A.c_InvalidFirst, rfl, T.ox_InvalidFirst, T.no_InvalidFirst_value, .inl ⟨ha, fun dx n1 n2 => hQ dx n1 n2⟩⟩
theorem ok_InvalidFixed_init {P : Program} {w : World} {K : PySem.W.Frag} {mg : Str → Option Value} {base : Heap} {A : Ad} (T : Txt w K mg A) : FnOk P w K mg base CX0 1 A.a_InvalidFixed_init A.d_InvalidFixed_init ["self", "position"] (sp_exi A.c_InvalidFixed "position") := by
  refine T.F_InvalidFixed_init.ok sc_InvalidFixed_init (fun vs H Q E h => ?_) (fun cdv A_ outer s_ H_0 vs Q E hr h => ?_)
  · obtain ⟨a, y, rfl, _⟩ := h
    rfl
  · obtain ⟨a, y, rfl, ha, hQ⟩ := h
    refine ⟨_, pss_one (ps_ostG rfl (pv 0) (pv 1)), ?_⟩
    exact ⟨_, rfl, _, rfl, a, A.c_InvalidFixed, rfl, T.ox_InvalidFixed, T.no_InvalidFixed_position, .inl ⟨ha, fun dx n1 n2 => hQ dx n1 n2⟩⟩
theorem ok_InvalidGauge_init {P : Program} {w : World} {K : PySem.W.Frag} {mg : Str → Option Value} {base : Heap} {A : Ad} (T : Txt w K mg A) : FnOk P w K mg base CX0 1 A.a_InvalidGauge_init A.d_InvalidGauge_init ["self", "position"] (sp_exi A.c_InvalidGauge "position") := by
  refine T.F_InvalidGauge_init.ok sc_InvalidGauge_init (fun vs H Q E h => ?_) (fun cdv A_ outer s_ H_0 vs Q E hr h => ?_)
  · obtain ⟨a, y, rfl, _⟩ := h
    rfl
  · obtain ⟨a, y, rfl, ha, hQ⟩ := h
    refine ⟨_, pss_one (ps_ostG rfl (pv 0) (pv 1)), ?_⟩
    exact ⟨_, rfl, _, rfl, a, A.c_InvalidGauge, rfl, T.ox_InvalidGauge, T.no_InvalidGauge_position, .inl ⟨ha, fun dx n1 n2 => hQ dx n1 n2⟩⟩
theorem ok_InvalidLegs_init {P : Program} {w : World} {K : PySem.W.Frag} {mg : Str → Option Value} {base : Heap} {A : Ad} (T : Txt w K mg A) : FnOk P w K mg base CX0 1 A.a_InvalidLegs_init A.d_InvalidLegs_init ["self", "position"] (sp_exi A.c_InvalidLegs "position") := by
  refine T.F_InvalidLegs_init.ok sc_InvalidLegs_init (fun vs H Q E h => ?_) (fun cdv A_ outer s_ H_0 vs Q E hr h => ?_)
  · obtain ⟨a, y, rfl, _⟩ := h
    rfl
  · obtain ⟨a, y, rfl, ha, hQ⟩ := h
    refine ⟨_, pss_one (ps_ostG rfl (pv 0) (pv 1)), ?_⟩
    exact ⟨_, rfl, _, rfl, a, A.c_InvalidLegs, rfl, T.ox_InvalidLegs, T.no_InvalidLegs_position, .inl ⟨ha, fun dx n1 n2 => hQ dx n1 n2⟩⟩
theorem ok_InvalidLot_init {P : Program} {w : World} {K : PySem.W.Frag} {mg : Str → Option Value} {base : Heap} {A : Ad} (T : Txt w K mg A) : FnOk P w K mg base CX0 1 A.a_InvalidLot_init A.d_InvalidLot_init ["self", "position"] (sp_exi A.c_InvalidLot "position") := by
  refine T.F_InvalidLot_init.ok sc_InvalidLot_init (fun vs H Q E h => ?_) (fun cdv A_ outer s_ H_0 vs Q E hr h => ?_)
  · obtain ⟨a, y, rfl, _⟩ := h
    rfl
  · obtain ⟨a, y, rfl, ha, hQ⟩ := h
    refine ⟨_, pss_one (ps_ostG rfl (pv 0) (pv 1)), ?_⟩
    exact ⟨_, rfl, _, rfl, a, A.c_InvalidLot, rfl, T.ox_InvalidLot, T.no_InvalidLot_position, .inl ⟨ha, fun dx n1 n2 => hQ dx n1 n2⟩⟩
theorem ok_InvalidMarks_init {P : Program} {w : World} {K : PySem.W.Frag} {mg : Str → Option Value} {base : Heap} {A : Ad} (T : Txt w K mg A) : FnOk P w K mg base CX0 1 A.a_InvalidMarks_init A.d_InvalidMarks_init ["self", "value"] (sp_exi A.c_InvalidMarks "value") := by
  refine T.F_InvalidMarks_init.ok sc_InvalidMarks_init (fun vs H Q E h => ?_) (fun cdv A_ outer s_ H_0 vs Q E hr h => ?_)
  · obtain ⟨a, y, rfl, _⟩ := h
    rfl
  · obtain ⟨a, y, rfl, ha, hQ⟩ := h
    refine ⟨_, pss_one (ps_ostG rfl (pv 0) (pv 1)), ?_⟩
    exact ⟨_, rfl, _, rfl, a, A.c_InvalidMarks, rfl, T.ox_InvalidMarks, T.no_InvalidMarks_value, .inl ⟨ha, fun dx n1 n2 => hQ dx n1 n2⟩⟩
theorem ok_InvalidNumber_init {P : Program} {w : World} {K : PySem.W.Frag} {mg : Str → Option Value} {base : Heap} {A : Ad} (T : Txt w K mg A) : FnOk P w K mg base CX0 1 A.a_InvalidNumber_init A.d_InvalidNumber_init ["self", "value"] (sp_exi A.c_InvalidNumber "value") := by
  refine T.F_InvalidNumber_init.ok sc_InvalidNumber_init (fun vs H Q E h => ?_) (fun cdv A_ outer s_ H_0 vs Q E hr h => ?_)
  · obtain ⟨a, y, rfl, _⟩ := h
    rfl
  · obtain ⟨a, y, rfl, ha, hQ⟩ := h
    refine ⟨_, pss_one (ps_ostG rfl (pv 0) (pv 1)), ?_⟩
    exact ⟨_, rfl, _, rfl, a, A.c_InvalidNumber, rfl, T.ox_InvalidNumber, T.no_InvalidNumber_value, .inl ⟨ha, fun dx n1 n2 => hQ dx n1 n2⟩⟩
theorem ok_InvalidPlace_init {P : Program} {w : World} {K : PySem.W.Frag} {mg : Str → Option Value} {base : Heap} {A : Ad} (T : Txt w K mg A) : FnOk P w K mg base CX0 1 A.a_InvalidPlace_init A.d_InvalidPlace_init ["self", "value"] (sp_exi A.c_InvalidPlace "value") := by
  refine T.F_InvalidPlace_init.ok sc_InvalidPlace_init (fun vs H Q E h => ?_) (fun cdv A_ outer s_ H_0 vs Q E hr h => ?_)
  · obtain ⟨a, y, rfl, _⟩ := h
    rfl
  · obtain ⟨a, y, rfl, ha, hQ⟩ := h
    refine ⟨_, pss_one (ps_ostG rfl (pv 0) (pv 1)), ?_⟩
    exact ⟨_, rfl, _, rfl, a, A.c_InvalidPlace, rfl, T.ox_InvalidPlace, T.no_InvalidPlace_value, .inl ⟨ha, fun dx n1 n2 => hQ dx n1 n2⟩⟩
theorem ok_InvalidRound_init {P : Program} {w : World} {K : PySem.W.Frag} {mg : Str → Option Value} {base : Heap} {A : Ad} (T : Txt w K mg A) : FnOk P w K mg base CX0 1 A.a_InvalidRound_init A.d_InvalidRound_init ["self", "value"] (sp_exi A.c_InvalidRound "value") := by
  refine T.F_InvalidRound_init.ok sc_InvalidRound_init (fun vs H Q E h => ?_) (fun cdv A_ outer s_ H_0 vs Q E hr h => ?_)
  · obtain ⟨a, y, rfl, _⟩ := h
    rfl
  · obtain ⟨a, y, rfl, ha, hQ⟩ := h
    refine ⟨_, pss_one (ps_ostG rfl (pv 0) (pv 1)), ?_⟩
    exact ⟨_, rfl, _, rfl, a, A.c_InvalidRound, rfl, T.ox_InvalidRound, T.no_InvalidRound_value, .inl ⟨ha, fun dx n1 n2 => hQ dx n1 n2⟩⟩
theorem ok_InvalidRounds_init {P : Program} {w : World} {K : PySem.W.Frag} {mg : Str → Option Value} {base : Heap} {A : Ad} (T : Txt w K mg A) : FnOk P w K mg base CX0 1 A.a_InvalidRounds_init A.d_InvalidRounds_init ["self", "position"] (sp_exi A.c_InvalidRounds "position") := by
  refine T.F_InvalidRounds_init.ok sc_InvalidRounds_init (fun vs H Q E h => ?_) (fun cdv A_ outer s_ H_0 vs Q E hr h => ?_)
  · obtain ⟨a, y, rfl, _⟩ := h
    rfl
  · obtain ⟨a, y, rfl, ha, hQ⟩ := h
    refine ⟨_, pss_one (ps_ostG rfl (pv 0) (pv 1)), ?_⟩
    exact ⟨_, rfl, _, rfl, a, A.c_InvalidRounds, rfl, T.ox_InvalidRounds, T.no_InvalidRounds_position, .inl ⟨ha, fun dx n1 n2 => hQ dx n1 n2⟩⟩
theorem ok_InvalidRows_init {P : Program} {w : World} {K : PySem.W.Frag} {mg : Str → Option Value} {base : Heap} {A : Ad} (T : Txt w K mg A) : FnOk P w K mg base CX0 1 A.a_InvalidRows_init A.d_InvalidRows_init ["self", "position"] (sp_exi A.c_InvalidRows "position") := by
  refine T.F_InvalidRows_init.ok sc_InvalidRows_init (fun vs H Q E h => ?_) (fun cdv A_ outer s_ H_0 vs Q E hr h => ?_)
  · obtain ⟨a, y, rfl, _⟩ := h
    rfl
  · obtain ⟨a, y, rfl, ha, hQ⟩ := h
    refine ⟨_, pss_one (ps_ostG rfl (pv 0) (pv 1)), ?_⟩
    exact ⟨_, rfl, _, rfl, a, A.c_InvalidRows, rfl, T.ox_InvalidRows, T.no_InvalidRows_position, .inl ⟨ha, fun dx n1 n2 => hQ dx n1 n2⟩⟩
theorem ok_InvalidSize_init {P : Program} {w : World} {K : PySem.W.Frag} {mg : Str → Option Value} {base : Heap} {A : Ad} (T : Txt w K mg A) : FnOk P w K mg base CX0 1 A.a_InvalidSize_init A.d_InvalidSize_init ["self", "value"] (sp_exi A.c_InvalidSize "value") := by
  refine T.F_InvalidSize_init.ok sc_InvalidSize_init (fun vs H Q E h => ?_) (fun cdv A_ outer s_ H_0 vs Q E hr h => ?_)
  · obtain ⟨a, y, rfl, _⟩ := h
    rfl
  · obtain ⟨a, y, rfl, ha, hQ⟩ := h
    refine ⟨_, pss_one (ps_ostG rfl (pv 0) (pv 1)), ?_⟩
    exact ⟨_, rfl, _, rfl, a, A.c_InvalidSize, rfl, T.ox_InvalidSize, T.no_InvalidSize_value, .inl ⟨ha, fun dx n1 n2 => hQ dx n1 n2⟩⟩
theorem ok_InvalidStander_init {P : Program} {w : World} {K : PySem.W.Frag} {mg : Str → Option Value} {base : Heap} {A : Ad} (T : Txt w K mg A) : FnOk P w K mg base CX0 1 A.a_InvalidStander_init A.d_InvalidStander_init ["self", "value"] (sp_exi A.c_InvalidStander "value") := by
  refine T.F_InvalidStander_init.ok sc_InvalidStander_init (fun vs H Q E h => ?_) (fun cdv A_ outer s_ H_0 vs Q E hr h => ?_)
  · obtain ⟨a, y, rfl, _⟩ := h
    rfl
  · obtain ⟨a, y, rfl, ha, hQ⟩ := h
    refine ⟨_, pss_one (ps_ostG rfl (pv 0) (pv 1)), ?_⟩
    exact ⟨_, rfl, _, rfl, a, A.c_InvalidStander, rfl, T.ox_InvalidStander, T.no_InvalidStander_value, .inl ⟨ha, fun dx n1 n2 => hQ dx n1 n2⟩⟩
theorem ok_InvalidStep_init {P : Program} {w : World} {K : PySem.W.Frag} {mg : Str → Option Value} {base : Heap} {A : Ad} (T : Txt w K mg A) : FnOk P w K mg base CX0 1 A.a_InvalidStep_init A.d_InvalidStep_init ["self", "value"] (sp_exi A.c_InvalidStep "value") := by
  refine T.F_InvalidStep_init.ok sc_InvalidStep_init (fun vs H Q E h => ?_) (fun cdv A_ outer s_ H_0 vs Q E hr h => ?_)
  · obtain ⟨a, y, rfl, _⟩ := h
    rfl
  · obtain ⟨a, y, rfl, ha, hQ⟩ := h
    refine ⟨_, pss_one (ps_ostG rfl (pv 0) (pv 1)), ?_⟩
    exact ⟨_, rfl, _, rfl, a, A.c_InvalidStep, rfl, T.ox_InvalidStep, T.no_InvalidStep_value, .inl ⟨ha, fun dx n1 n2 => hQ dx n1 n2⟩⟩
theorem ok_InvalidTeam_init {P : Program} {w : World} {K : PySem.W.Frag} {mg : Str → Option Value} {base : Heap} {A : Ad} (T : Txt w K mg A) : FnOk P w K mg base CX0 1 A.a_InvalidTeam_init A.d_InvalidTeam_init ["self", "value"] (sp_exi A.c_InvalidTeam "value") := by
  refine T.F_InvalidTeam_init.ok sc_InvalidTeam_init (fun vs H Q E h => ?_) (fun cdv A_ outer s_ H_0 vs Q E hr h => ?_)
  · obtain ⟨a, y, rfl, _⟩ := h
    rfl
  · obtain ⟨a, y, rfl, ha, hQ⟩ := h
    refine ⟨_, pss_one (ps_ostG rfl (pv 0) (pv 1)), ?_⟩
    exact ⟨_, rfl, _, rfl, a, A.c_InvalidTeam, rfl, T.ox_InvalidTeam, T.no_InvalidTeam_value, .inl ⟨ha, fun dx n1 n2 => hQ dx n1 n2⟩⟩
theorem ok_InvalidText_init {P : Program} {w : World} {K : PySem.W.Frag} {mg : Str → Option Value} {base : Heap} {A : Ad} (T : Txt w K mg A) : FnOk P w K mg base CX0 1 A.a_InvalidText_init A.d_InvalidText_init ["self", "line"] (sp_exi A.c_InvalidText "line") := by
  refine T.F_InvalidText_init.ok sc_InvalidText_init (fun vs H Q E h => ?_) (fun cdv A_ outer s_ H_0 vs Q E hr h => ?_)
  · obtain ⟨a, y, rfl, _⟩ := h
    rfl
  · obtain ⟨a, y, rfl, ha, hQ⟩ := h
    refine ⟨_, pss_one (ps_ostG rfl (pv 0) (pv 1)), ?_⟩
    exact ⟨_, rfl, _, rfl, a, A.c_InvalidText, rfl, T.ox_InvalidText, T.no_InvalidText_line, .inl ⟨ha, fun dx n1 n2 => hQ dx n1 n2⟩⟩
theorem ok_InvalidTurned_init {P : Program} {w : World} {K : PySem.W.Frag} {mg : Str → Option Value} {base : Heap} {A : Ad} (T : Txt w K mg A) : FnOk P w K mg base CX0 1 A.a_InvalidTurned_init A.d_InvalidTurned_init ["self", "value"] (sp_exi A.c_InvalidTurned "value") := by
  refine T.F_InvalidTurned_init.ok sc_InvalidTurned_init (fun vs H Q E h => ?_) (fun cdv A_ outer s_ H_0 vs Q E hr h => ?_)
  · obtain ⟨a, y, rfl, _⟩ := h
    rfl
  · obtain ⟨a, y, rfl, ha, hQ⟩ := h
    refine ⟨_, pss_one (ps_ostG rfl (pv 0) (pv 1)), ?_⟩
    exact ⟨_, rfl, _, rfl, a, A.c_InvalidTurned, rfl, T.ox_InvalidTurned, T.no_InvalidTurned_value, .inl ⟨ha, fun dx n1 n2 => hQ dx n1 n2⟩⟩
theorem ok_InvalidValues_init {P : Program} {w : World} {K : PySem.W.Frag} {mg : Str → Option Value} {base : Heap} {A : Ad} (T : Txt w K mg A) : FnOk P w K mg base CX0 1 A.a_InvalidValues_init A.d_InvalidValues_init ["self", "position"] (sp_exi A.c_InvalidValues "position") := by
  refine T.F_InvalidValues_init.ok sc_InvalidValues_init (fun vs H Q E h => ?_) (fun cdv A_ outer s_ H_0 vs Q E hr h => ?_)
  · obtain ⟨a, y, rfl, _⟩ := h
    rfl
  · obtain ⟨a, y, rfl, ha, hQ⟩ := h
    refine ⟨_, pss_one (ps_ostG rfl (pv 0) (pv 1)), ?_⟩
    exact ⟨_, rfl, _, rfl, a, A.c_InvalidValues, rfl, T.ox_InvalidValues, T.no_InvalidValues_position, .inl ⟨ha, fun dx n1 n2 => hQ dx n1 n2⟩⟩
theorem ok_NoRound_init {P : Program} {w : World} {K : PySem.W.Frag} {mg : Str → Option Value} {base : Heap} {A : Ad} (T : Txt w K mg A) : FnOk P w K mg base CX0 1 A.a_NoRound_init A.d_NoRound_init ["self"] (sp_exi0 A.c_NoRound) := by
  refine T.F_NoRound_init.ok sc_NoRound_init (fun vs H Q E h => ?_) (fun cdv A_ outer s_ H_0 vs Q E hr h => ?_)
  · obtain ⟨a, rfl, _⟩ := h
    rfl
  · obtain ⟨a, rfl, ha, hQ⟩ := h
    exact ⟨_, pss_one ps_pass, hQ⟩
theorem ok_NotOpen_init {P : Program} {w : World} {K : PySem.W.Frag} {mg : Str → Option Value} {base : Heap} {A : Ad} (T : Txt w K mg A) : FnOk P w K mg base CX0 1 A.a_NotOpen_init A.d_NotOpen_init ["self", "home", "away"] (sp_exi2 A.c_NotOpen "home" "away") := by
  refine T.F_NotOpen_init.ok sc_NotOpen_init (fun vs H Q E h => ?_) (fun cdv A_ outer s_ H_0 vs Q E hr h => ?_)
  · obtain ⟨a, y, z, rfl, _⟩ := h
    rfl
  · obtain ⟨a, y, z, rfl, ha, hQ⟩ := h
    refine ⟨_, pss_cons (ps_ostG rfl (pv 0) (pv 1)) (pss_one (ps_ostG rfl (pv 0) (pv 2))), ?_⟩
    exact ⟨_, rfl, _, rfl, a, A.c_NotOpen, rfl, T.ox_NotOpen, T.no_NotOpen_home, .inl ⟨ha, fun dx n1 n2 => ⟨_, rfl, _, rfl, a, A.c_NotOpen, rfl, T.ox_NotOpen, T.no_NotOpen_away, .inr ⟨dx, _, upd_same, by rw [upd_ne n2, upd_same], (by show 1 ≤ 900; decide), hQ dx n1 n2⟩⟩⟩⟩
theorem ok_NotRight_init {P : Program} {w : World} {K : PySem.W.Frag} {mg : Str → Option Value} {base : Heap} {A : Ad} (T : Txt w K mg A) : FnOk P w K mg base CX0 1 A.a_NotRight_init A.d_NotRight_init ["self", "size"] (sp_exi A.c_NotRight "size") := by
  refine T.F_NotRight_init.ok sc_NotRight_init (fun vs H Q E h => ?_) (fun cdv A_ outer s_ H_0 vs Q E hr h => ?_)
  · obtain ⟨a, y, rfl, _⟩ := h
    rfl
  · obtain ⟨a, y, rfl, ha, hQ⟩ := h
    refine ⟨_, pss_one (ps_ostG rfl (pv 0) (pv 1)), ?_⟩
    exact ⟨_, rfl, _, rfl, a, A.c_NotRight, rfl, T.ox_NotRight, T.no_NotRight_size, .inl ⟨ha, fun dx n1 n2 => hQ dx n1 n2⟩⟩
theorem ok_NotSingle_init {P : Program} {w : World} {K : PySem.W.Frag} {mg : Str → Option Value} {base : Heap} {A : Ad} (T : Txt w K mg A) : FnOk P w K mg base CX0 1 A.a_NotSingle_init A.d_NotSingle_init ["self", "one", "other"] (sp_exi2 A.c_NotSingle "one" "other") := by
  refine T.F_NotSingle_init.ok sc_NotSingle_init (fun vs H Q E h => ?_) (fun cdv A_ outer s_ H_0 vs Q E hr h => ?_)
  · obtain ⟨a, y, z, rfl, _⟩ := h
    rfl
  · obtain ⟨a, y, z, rfl, ha, hQ⟩ := h
    refine ⟨_, pss_cons (ps_ostG rfl (pv 0) (pv 1)) (pss_one (ps_ostG rfl (pv 0) (pv 2))), ?_⟩
    exact ⟨_, rfl, _, rfl, a, A.c_NotSingle, rfl, T.ox_NotSingle, T.no_NotSingle_one, .inl ⟨ha, fun dx n1 n2 => ⟨_, rfl, _, rfl, a, A.c_NotSingle, rfl, T.ox_NotSingle, T.no_NotSingle_other, .inr ⟨dx, _, upd_same, by rw [upd_ne n2, upd_same], (by show 1 ≤ 900; decide), hQ dx n1 n2⟩⟩⟩⟩
theorem ok_NothingToUndo_init {P : Program} {w : World} {K : PySem.W.Frag} {mg : Str → Option Value} {base : Heap} {A : Ad} (T : Txt w K mg A) : FnOk P w K mg base CX0 1 A.a_NothingToUndo_init A.d_NothingToUndo_init ["self"] (sp_exi0 A.c_NothingToUndo) := by
  refine T.F_NothingToUndo_init.ok sc_NothingToUndo_init (fun vs H Q E h => ?_) (fun cdv A_ outer s_ H_0 vs Q E hr h => ?_)
  · obtain ⟨a, rfl, _⟩ := h
    rfl
  · obtain ⟨a, rfl, ha, hQ⟩ := h
    exact ⟨_, pss_one ps_pass, hQ⟩
theorem ok_TooMany_init {P : Program} {w : World} {K : PySem.W.Frag} {mg : Str → Option Value} {base : Heap} {A : Ad} (T : Txt w K mg A) : FnOk P w K mg base CX0 1 A.a_TooMany_init A.d_TooMany_init ["self", "what", "limit"] (sp_exi2 A.c_TooMany "what" "limit") := by
  refine T.F_TooMany_init.ok sc_TooMany_init (fun vs H Q E h => ?_) (fun cdv A_ outer s_ H_0 vs Q E hr h => ?_)
  · obtain ⟨a, y, z, rfl, _⟩ := h
    rfl
  · obtain ⟨a, y, z, rfl, ha, hQ⟩ := h
    refine ⟨_, pss_cons (ps_ostG rfl (pv 0) (pv 1)) (pss_one (ps_ostG rfl (pv 0) (pv 2))), ?_⟩
    exact ⟨_, rfl, _, rfl, a, A.c_TooMany, rfl, T.ox_TooMany, T.no_TooMany_what, .inl ⟨ha, fun dx n1 n2 => ⟨_, rfl, _, rfl, a, A.c_TooMany, rfl, T.ox_TooMany, T.no_TooMany_limit, .inr ⟨dx, _, upd_same, by rw [upd_ne n2, upd_same], (by show 1 ≤ 900; decide), hQ dx n1 n2⟩⟩⟩⟩
theorem ok_Unplayed_init {P : Program} {w : World} {K : PySem.W.Frag} {mg : Str → Option Value} {base : Heap} {A : Ad} (T : Txt w K mg A) : FnOk P w K mg base CX0 1 A.a_Unplayed_init A.d_Unplayed_init ["self", "home", "away"] (sp_exi2 A.c_Unplayed "home" "away") := by
  refine T.F_Unplayed_init.ok sc_Unplayed_init (fun vs H Q E h => ?_) (fun cdv A_ outer s_ H_0 vs Q E hr h => ?_)
  · obtain ⟨a, y, z, rfl, _⟩ := h
    rfl
  · obtain ⟨a, y, z, rfl, ha, hQ⟩ := h
    refine ⟨_, pss_cons (ps_ostG rfl (pv 0) (pv 1)) (pss_one (ps_ostG rfl (pv 0) (pv 2))), ?_⟩
    exact ⟨_, rfl, _, rfl, a, A.c_Unplayed, rfl, T.ox_Unplayed, T.no_Unplayed_home, .inl ⟨ha, fun dx n1 n2 => ⟨_, rfl, _, rfl, a, A.c_Unplayed, rfl, T.ox_Unplayed, T.no_Unplayed_away, .inr ⟨dx, _, upd_same, by rw [upd_ne n2, upd_same], (by show 1 ≤ 900; decide), hQ dx n1 n2⟩⟩⟩⟩
/-! ### draws: any number below the size -/
def M_draw (x_size : Int) (KM : Int → Prop) : Prop := (0 < x_size ∧ x_size < 1073741824) ∧ ∀ d : Int, 0 ≤ d → d < x_size → KM d
def sp_draw (A : Ad) : Sp := fun vs H Q _ => ∃ (ms : List Addr) (ap : Addr) (x_size : Int) (KM : Int → Prop), vs = [.ref ap, V.int x_size] ∧ Wd ms [(ap, none)] [] H H ∧ M_draw x_size KM ∧ ∀ (r : Int) (u : V) (H1 : Hp), KM r → Ret [(ap, none)] H H1 → rep ms H1 (D.v (V.int r)) u → Q u H1
theorem ret_pot1 {H : Hp} {ap : Addr} {o : HO} {i j : Int} (ha : H ap = some o) (hj : j.natAbs < 4294967296) : Ret [(ap, none)] H (upd H ap (.lst [.int i, .int j])) := by
  refine ⟨fun a u n h => ?_, fun a h => ?_, fun a h => ?_⟩
  · rw [upd_ne (fun z => n (by rw [z]; exact List.mem_singleton.mpr rfl))]
    exact h
  · rw [List.mem_singleton.mp h]
    exact (⟨i, j, upd_same, hj⟩ : PotH _ _)
  · by_cases e : a = ap
    · rw [e, upd_same]
      exact fun z => nomatch z
    · rw [upd_ne e]
      exact h
theorem ret_pot2 {H : Hp} {ap p : Addr} {o u : HO} {i j : Int} (ha : H ap = some o) (np : H p = none) (hj : j.natAbs < 4294967296) : Ret [(ap, none)] H (upd (upd H p u) ap (.lst [.int i, .int j])) := by
  have e := Rx.Ext.new (o := u) np
  have h2 := ret_pot1 (i := i) (j := j) (e.keep ha) hj
  exact ⟨fun a w n h => h2.kp a w n (e.keep h), h2.pot, fun a h => h2.grow a (e.grow a h)⟩
theorem ok_draw {P : Program} {w : World} {K : PySem.W.Frag} {mg : Str → Option Value} {base : Heap} {A : Ad} (T : Txt w K mg A) : FnOk P w K mg base CX0 1 A.a_draw A.d_draw ["_law_pot_here", "_law_many"] (sp_draw A) := by
  refine T.F_draw.ok sc_draw (fun vs H Q E h => ?_) (fun cdv A_ outer s_ H_0 vs Q E hr h => ?_)
  · obtain ⟨ms, ap, x_size, KM, rfl, _⟩ := h
    rfl
  · obtain ⟨ms, ap, n, KM, rfl, hW, ⟨⟨n0, n1⟩, hM⟩, hQ⟩ := h
    obtain ⟨i, j, hp, hj⟩ : PotH _ ap := hW.pot (ap, none) (List.mem_singleton.mpr rfl)
    refine ⟨_, pss_cons (ps_if (pt_cmpR op_gt (pe_ix ix_list (pv 0) pe_int (fun _ _ => rfl)) pe_int (nomark _))
        (pss_cons (ps_asg (pe_callB call_divmod (by rfl) T.z_divmod (by decide +kernel) (pa_cons (pe_ix ix_list (pv 0) pe_int (fun _ _ => rfl)) (pa_cons (pv 1) pa_nil)))
            (pg_tup rfl (pgs_cons (pg_sub (pv 0) pe_int set_list) (pgs_cons (pg_name (i := 2) sc_draw.nd rfl (.inl rfl)) pgs_nil)))) (pss_one (ps_ret (pv 2)))) pss_nil)
      (pss_cons (ps_asg (pe_op op_mod (pe_callTy call_int1 (by rfl) T.z_int (by decide +kernel) (pa_cons (pe_op op_add (pe_op op_mul (pe_ix ix_list (pv 0) pe_int (fun _ _ => rfl)) pe_int) pe_int) pa_nil)) pe_int) (pg_sub (pv 0) pe_int set_list))
      (pss_one (ps_ret (pe_op op_mod (pe_callTy call_int1 (by rfl) T.z_int (by decide +kernel) (pa_cons (pe_op op_fdiv (pe_op op_mod (pe_callTy call_int1 (by rfl) T.z_int (by decide +kernel)
          (pa_cons (pe_op op_mul (pe_ix ix_list (pv 0) pe_int (fun _ _ => rfl)) (pe_ix ix_list (pv 0) pe_int (fun _ _ => rfl))) pa_nil)) pe_int) pe_int) pa_nil)) (pv 1))))), ?_⟩
    refine ⟨_, rfl, ap, _, 0, .int i, rfl, rfl, .inl (.inl hp), rfl, _, _, rfl, rfl, _, rfl, ?_⟩
    refine ite2 (fun c => ?_) (fun c => ?_)
    · refine ⟨_, rfl, ap, _, 0, .int i, rfl, rfl, .inl (.inl hp), rfl, _, rfl, _, _, rfl, ⟨n0, n1⟩, fun p np => ?_⟩
      have npa : ap ≠ p := ne_of_none hp np
      refine ⟨p, _, rfl, .inl (.inl upd_same), rfl, _, _, rfl, _, rfl, ap, _, 0, 0, rfl, rfl, (by rw [upd_ne npa]; exact hp), rfl, _, _, rfl, rfl, _, rfl, ?_⟩
      exact hQ (i % n) _ _ (hM _ (Int.emod_nonneg _ (by omega)) (Int.emod_lt_of_pos _ n0)) (ret_pot2 hp np hj) rep_v
    · refine ⟨_, rfl, ap, _, 1, .int j, rfl, rfl, .inl (.inl hp), rfl, _, _, rfl, rfl, .inr ⟨by decide, by decide⟩, _, _, rfl, rfl, .inl ⟨_, rfl, _, _, rfl, rfl, (by show (0 : Int) < 2147483587; decide), ?_⟩⟩
      refine ⟨_, rfl, ap, _, 1, 1, rfl, rfl, hp, rfl, ?_⟩
      refine ⟨_, rfl, ap, _, 1, _, rfl, rfl, .inl (.inl upd_same), rfl, _, rfl, ap, _, 1, _, rfl, rfl, .inl (.inl upd_same), rfl, _, _, rfl, rfl, .inl ⟨?_, ?_⟩, .inl ⟨_, rfl, _, _, rfl, rfl, (by show (0 : Int) < 2147483549; decide), _, _, rfl, rfl, ⟨by decide, by decide⟩, .inl ⟨_, rfl, _, rfl, _, _, rfl, rfl, n0, ?_⟩⟩⟩
      · omega
      · omega
      · refine hQ _ _ _ (hM _ (Int.emod_nonneg _ (by omega)) (Int.emod_lt_of_pos _ n0)) (ret_pot1 (i := i) hp ?_) rep_v
        omega

def M_pick (x_some : (List D)) (KM : D → Prop) : Prop :=
  (M_draw (x_some.length : Int) fun r1 => (0 ≤ r1 ∧ ∃ g7 : Int.toNat r1 < x_some.length, ∀ x9, x9 = x_some[Int.toNat r1]'g7 → (KM x9)))
def sp_pick (A : Ad) : Sp := fun vs H Q _ => ∃ (ms : List Addr) (ap : Addr) (v_some : V) (x_some : (List D)) (KM : D → Prop), vs = [.ref ap, v_some] ∧ Wd ms [(ap, none)] [] H H ∧ rep ms H (D.lst (x_some.map (fun y_ : D => y_))) v_some ∧ M_pick x_some KM ∧ ∀ (r : D) (u : V) (H1 : Hp), KM r → Ret [(ap, none)] H H1 → rep ms H1 r u → Q u H1
set_option maxHeartbeats 16000000 in
theorem ok_pick {P : Program} {w : World} {K : PySem.W.Frag} {mg : Str → Option Value} {base : Heap} {A : Ad} (T : Txt w K mg A) : FnOk P w K mg base CX0 2 A.a_pick A.d_pick ["_law_pot_here", "_law_some"] (sp_pick A) := by
  refine T.F_pick.ok sc_pick (fun vs H Q E h => ?_) (fun cdv A_ outer s_ H_0 vs Q E hr h => ?_)
  · obtain ⟨ms, ap, v_some, x_some, KM, rfl, _⟩ := h
    rfl
  · obtain ⟨ms, ap, v_some, x_some, KM, rfl, hW, h_some, hM, hQ⟩ := h
    unfold M_pick at hM
    refine ⟨_, (pss_one (ps_ret (pe_ix (ix_listK (K := K) rfl) (pv 1) (pe_call (ok_draw T) (hr.mono (by decide)) (by rfl) T.g_draw T.F_draw.kp T.b_draw .nil pass0 (pa_cons (pv 0) (pa_cons (pe_callB (call_lenK (K := K) rfl) (by rfl) T.z_len PySem.boot_len (pa_cons (pv 1) pa_nil)) pa_nil))) (fun _ _ => rfl)))), ?_⟩
    refine ⟨_, rfl, ?_⟩
    refine ⟨_, rfl, ?_⟩
    refine ⟨_, rfl, ?_⟩
    apply rep_lenL (e := (fun y_ : D => y_)) (xs := x_some) h_some
    refine ⟨ms, ap, (x_some.length : Int), _, rfl, hW.enterP, hM, fun r1 u4 H5 hM e3 h2 => ?_⟩
    replace h_some := rep_ret hW e3 h_some
    replace hW := hW.retP e3
    obtain rfl := of_v h2
    obtain ⟨g6, g7, hM⟩ := hM
    apply rep_ixL (e := (fun y_ : D => y_)) (xs := x_some) h_some g6 g7
    intro u10 h8
    obtain ⟨x9, x9e⟩ : ∃ x_, x_ = x_some[Int.toNat r1]'g7 := ⟨_, rfl⟩
    rw [← x9e] at h8
    replace hM := hM x9 x9e
    exact hQ x9 _ _ hM hW.out h8
def M_all (x_a : D) (x_b : D) (KM : (List (Nat × List D)) → Prop) : Prop :=
  (([((0, [x_a]) : Nat × List D), ((1, [x_a]) : Nat × List D), ((2, [x_a]) : Nat × List D), ((3, [x_a]) : Nat × List D), ((4, [x_a]) : Nat × List D)] : List (Nat × List D)).length + ([((5, [x_a]) : Nat × List D), ((6, [x_a]) : Nat × List D), ((7, [x_a]) : Nat × List D), ((8, [x_a]) : Nat × List D), ((9, [x_a]) : Nat × List D)] : List (Nat × List D)).length ≤ 16777216 ∧ ((([((0, [x_a]) : Nat × List D), ((1, [x_a]) : Nat × List D), ((2, [x_a]) : Nat × List D), ((3, [x_a]) : Nat × List D), ((4, [x_a]) : Nat × List D)] : List (Nat × List D)) ++ ([((5, [x_a]) : Nat × List D), ((6, [x_a]) : Nat × List D), ((7, [x_a]) : Nat × List D), ((8, [x_a]) : Nat × List D), ((9, [x_a]) : Nat × List D)] : List (Nat × List D))).length + ([((10, [x_a]) : Nat × List D), ((11, [x_a]) : Nat × List D), ((12, [x_a]) : Nat × List D), ((13, [x_a]) : Nat × List D), ((14, [x_a]) : Nat × List D)] : List (Nat × List D)).length ≤ 16777216 ∧ (((([((0, [x_a]) : Nat × List D), ((1, [x_a]) : Nat × List D), ((2, [x_a]) : Nat × List D), ((3, [x_a]) : Nat × List D), ((4, [x_a]) : Nat × List D)] : List (Nat × List D)) ++ ([((5, [x_a]) : Nat × List D), ((6, [x_a]) : Nat × List D), ((7, [x_a]) : Nat × List D), ((8, [x_a]) : Nat × List D), ((9, [x_a]) : Nat × List D)] : List (Nat × List D))) ++ ([((10, [x_a]) : Nat × List D), ((11, [x_a]) : Nat × List D), ((12, [x_a]) : Nat × List D), ((13, [x_a]) : Nat × List D), ((14, [x_a]) : Nat × List D)] : List (Nat × List D))).length + ([((15, [x_a]) : Nat × List D), ((16, [x_a]) : Nat × List D), ((17, [x_a]) : Nat × List D), ((18, [x_a]) : Nat × List D), ((19, [x_a]) : Nat × List D)] : List (Nat × List D)).length ≤ 16777216 ∧ ((((([((0, [x_a]) : Nat × List D), ((1, [x_a]) : Nat × List D), ((2, [x_a]) : Nat × List D), ((3, [x_a]) : Nat × List D), ((4, [x_a]) : Nat × List D)] : List (Nat × List D)) ++ ([((5, [x_a]) : Nat × List D), ((6, [x_a]) : Nat × List D), ((7, [x_a]) : Nat × List D), ((8, [x_a]) : Nat × List D), ((9, [x_a]) : Nat × List D)] : List (Nat × List D))) ++ ([((10, [x_a]) : Nat × List D), ((11, [x_a]) : Nat × List D), ((12, [x_a]) : Nat × List D), ((13, [x_a]) : Nat × List D), ((14, [x_a]) : Nat × List D)] : List (Nat × List D))) ++ ([((15, [x_a]) : Nat × List D), ((16, [x_a]) : Nat × List D), ((17, [x_a]) : Nat × List D), ((18, [x_a]) : Nat × List D), ((19, [x_a]) : Nat × List D)] : List (Nat × List D))).length + ([((20, [x_a]) : Nat × List D), ((21, [x_a]) : Nat × List D), ((22, [x_a]) : Nat × List D), ((23, [x_a]) : Nat × List D), ((24, [x_b, x_a]) : Nat × List D)] : List (Nat × List D)).length ≤ 16777216 ∧ (((((([((0, [x_a]) : Nat × List D), ((1, [x_a]) : Nat × List D), ((2, [x_a]) : Nat × List D), ((3, [x_a]) : Nat × List D), ((4, [x_a]) : Nat × List D)] : List (Nat × List D)) ++ ([((5, [x_a]) : Nat × List D), ((6, [x_a]) : Nat × List D), ((7, [x_a]) : Nat × List D), ((8, [x_a]) : Nat × List D), ((9, [x_a]) : Nat × List D)] : List (Nat × List D))) ++ ([((10, [x_a]) : Nat × List D), ((11, [x_a]) : Nat × List D), ((12, [x_a]) : Nat × List D), ((13, [x_a]) : Nat × List D), ((14, [x_a]) : Nat × List D)] : List (Nat × List D))) ++ ([((15, [x_a]) : Nat × List D), ((16, [x_a]) : Nat × List D), ((17, [x_a]) : Nat × List D), ((18, [x_a]) : Nat × List D), ((19, [x_a]) : Nat × List D)] : List (Nat × List D))) ++ ([((20, [x_a]) : Nat × List D), ((21, [x_a]) : Nat × List D), ((22, [x_a]) : Nat × List D), ((23, [x_a]) : Nat × List D), ((24, [x_b, x_a]) : Nat × List D)] : List (Nat × List D))).length + ([((25, [x_b, x_a]) : Nat × List D), ((26, [x_b, x_a]) : Nat × List D), ((27, [x_b, x_a]) : Nat × List D), ((28, []) : Nat × List D), ((29, []) : Nat × List D)] : List (Nat × List D)).length ≤ 16777216 ∧ (KM (((((([((0, [x_a]) : Nat × List D), ((1, [x_a]) : Nat × List D), ((2, [x_a]) : Nat × List D), ((3, [x_a]) : Nat × List D), ((4, [x_a]) : Nat × List D)] : List (Nat × List D)) ++ ([((5, [x_a]) : Nat × List D), ((6, [x_a]) : Nat × List D), ((7, [x_a]) : Nat × List D), ((8, [x_a]) : Nat × List D), ((9, [x_a]) : Nat × List D)] : List (Nat × List D))) ++ ([((10, [x_a]) : Nat × List D), ((11, [x_a]) : Nat × List D), ((12, [x_a]) : Nat × List D), ((13, [x_a]) : Nat × List D), ((14, [x_a]) : Nat × List D)] : List (Nat × List D))) ++ ([((15, [x_a]) : Nat × List D), ((16, [x_a]) : Nat × List D), ((17, [x_a]) : Nat × List D), ((18, [x_a]) : Nat × List D), ((19, [x_a]) : Nat × List D)] : List (Nat × List D))) ++ ([((20, [x_a]) : Nat × List D), ((21, [x_a]) : Nat × List D), ((22, [x_a]) : Nat × List D), ((23, [x_a]) : Nat × List D), ((24, [x_b, x_a]) : Nat × List D)] : List (Nat × List D))) ++ ([((25, [x_b, x_a]) : Nat × List D), ((26, [x_b, x_a]) : Nat × List D), ((27, [x_b, x_a]) : Nat × List D), ((28, []) : Nat × List D), ((29, []) : Nat × List D)] : List (Nat × List D)))))))))
def sp_all (A : Ad) : Sp := fun vs H Q _ => ∃ (ms : List Addr) (v_a : V) (v_b : V) (x_a : D) (x_b : D) (KM : (List (Nat × List D)) → Prop), vs = [v_a, v_b] ∧ Wd ms [] [] H H ∧ rep ms H x_a v_a ∧ rep ms H x_b v_b ∧ M_all x_a x_b KM ∧ ∀ (r : (List (Nat × List D))) (u : V) (H1 : Hp), KM r → Ret [] H H1 → rep ms H1 (D.lst (r.map (fun y_ : (Nat × List D) => (eX A y_)))) u → Q u H1
set_option maxHeartbeats 16000000 in
theorem ok_all {P : Program} {w : World} {K : PySem.W.Frag} {mg : Str → Option Value} {base : Heap} {A : Ad} (T : Txt w K mg A) : FnOk P w K mg base CX0 3 A.a_all A.d_all ["_law_a", "_law_b"] (sp_all A) := by
  refine T.F_all.ok sc_all (fun vs H Q E h => ?_) (fun cdv A_ outer s_ H_0 vs Q E hr h => ?_)
  · obtain ⟨ms, v_a, v_b, x_a, x_b, KM, rfl, _⟩ := h
    rfl
  · obtain ⟨ms, v_a, v_b, x_a, x_b, KM, rfl, hW, h_a, h_b, hM, hQ⟩ := h
    unfold M_all at hM
    refine ⟨_, (pss_cons (ps_set (i := 2) sc_all.nd rfl (by first | exact Or.inl rfl | exact Or.inr rfl) (pe_lst (pa_cons (pe_mkX T.ox_InvalidFirst T.ii_InvalidFirst T.ti_InvalidFirst (ok_InvalidFirst_init T) (hr.mono (by decide)) T.b_InvalidFirst_init pass0 (by rfl) T.g_InvalidFirst (pa_cons (pv 0) pa_nil)) (pa_cons (pe_mkX T.ox_InvalidNumber T.ii_InvalidNumber T.ti_InvalidNumber (ok_InvalidNumber_init T) (hr.mono (by decide)) T.b_InvalidNumber_init pass0 (by rfl) T.g_InvalidNumber (pa_cons (pv 0) pa_nil)) (pa_cons (pe_mkX T.ox_InvalidPlace T.ii_InvalidPlace T.ti_InvalidPlace (ok_InvalidPlace_init T) (hr.mono (by decide)) T.b_InvalidPlace_init pass0 (by rfl) T.g_InvalidPlace (pa_cons (pv 0) pa_nil)) (pa_cons (pe_mkX T.ox_InvalidMarks T.ii_InvalidMarks T.ti_InvalidMarks (ok_InvalidMarks_init T) (hr.mono (by decide)) T.b_InvalidMarks_init pass0 (by rfl) T.g_InvalidMarks (pa_cons (pv 0) pa_nil)) (pa_cons (pe_mkX T.ox_InvalidStep T.ii_InvalidStep T.ti_InvalidStep (ok_InvalidStep_init T) (hr.mono (by decide)) T.b_InvalidStep_init pass0 (by rfl) T.g_InvalidStep (pa_cons (pv 0) pa_nil)) pa_nil))))))) (pss_cons (ps_expr (pe_bmK (K := K) rfl PySem.F.plainAttrs_list PySem.F.slot_list_extend PySem.F.type_list_extend mt_extend (pv 2) (pa_cons (pe_lst (pa_cons (pe_mkX T.ox_InvalidStander T.ii_InvalidStander T.ti_InvalidStander (ok_InvalidStander_init T) (hr.mono (by decide)) T.b_InvalidStander_init pass0 (by rfl) T.g_InvalidStander (pa_cons (pv 0) pa_nil)) (pa_cons (pe_mkX T.ox_InvalidTurned T.ii_InvalidTurned T.ti_InvalidTurned (ok_InvalidTurned_init T) (hr.mono (by decide)) T.b_InvalidTurned_init pass0 (by rfl) T.g_InvalidTurned (pa_cons (pv 0) pa_nil)) (pa_cons (pe_mkX T.ox_InvalidSize T.ii_InvalidSize T.ti_InvalidSize (ok_InvalidSize_init T) (hr.mono (by decide)) T.b_InvalidSize_init pass0 (by rfl) T.g_InvalidSize (pa_cons (pv 0) pa_nil)) (pa_cons (pe_mkX T.ox_InvalidTeam T.ii_InvalidTeam T.ti_InvalidTeam (ok_InvalidTeam_init T) (hr.mono (by decide)) T.b_InvalidTeam_init pass0 (by rfl) T.g_InvalidTeam (pa_cons (pv 0) pa_nil)) (pa_cons (pe_mkX T.ox_InvalidRound T.ii_InvalidRound T.ti_InvalidRound (ok_InvalidRound_init T) (hr.mono (by decide)) T.b_InvalidRound_init pass0 (by rfl) T.g_InvalidRound (pa_cons (pv 0) pa_nil)) pa_nil)))))) pa_nil))) (pss_cons (ps_expr (pe_bmK (K := K) rfl PySem.F.plainAttrs_list PySem.F.slot_list_extend PySem.F.type_list_extend mt_extend (pv 2) (pa_cons (pe_lst (pa_cons (pe_mkX T.ox_InvalidCount T.ii_InvalidCount T.ti_InvalidCount (ok_InvalidCount_init T) (hr.mono (by decide)) T.b_InvalidCount_init pass0 (by rfl) T.g_InvalidCount (pa_cons (pv 0) pa_nil)) (pa_cons (pe_mkX T.ox_InvalidClaim T.ii_InvalidClaim T.ti_InvalidClaim (ok_InvalidClaim_init T) (hr.mono (by decide)) T.b_InvalidClaim_init pass0 (by rfl) T.g_InvalidClaim (pa_cons (pv 0) pa_nil)) (pa_cons (pe_mkX T.ox_InvalidCommand T.ii_InvalidCommand T.ti_InvalidCommand (ok_InvalidCommand_init T) (hr.mono (by decide)) T.b_InvalidCommand_init pass0 (by rfl) T.g_InvalidCommand (pa_cons (pv 0) pa_nil)) (pa_cons (pe_mkX T.ox_InvalidValues T.ii_InvalidValues T.ti_InvalidValues (ok_InvalidValues_init T) (hr.mono (by decide)) T.b_InvalidValues_init pass0 (by rfl) T.g_InvalidValues (pa_cons (pv 0) pa_nil)) (pa_cons (pe_mkX T.ox_InvalidRows T.ii_InvalidRows T.ti_InvalidRows (ok_InvalidRows_init T) (hr.mono (by decide)) T.b_InvalidRows_init pass0 (by rfl) T.g_InvalidRows (pa_cons (pv 0) pa_nil)) pa_nil)))))) pa_nil))) (pss_cons (ps_expr (pe_bmK (K := K) rfl PySem.F.plainAttrs_list PySem.F.slot_list_extend PySem.F.type_list_extend mt_extend (pv 2) (pa_cons (pe_lst (pa_cons (pe_mkX T.ox_InvalidRounds T.ii_InvalidRounds T.ti_InvalidRounds (ok_InvalidRounds_init T) (hr.mono (by decide)) T.b_InvalidRounds_init pass0 (by rfl) T.g_InvalidRounds (pa_cons (pv 0) pa_nil)) (pa_cons (pe_mkX T.ox_InvalidCells T.ii_InvalidCells T.ti_InvalidCells (ok_InvalidCells_init T) (hr.mono (by decide)) T.b_InvalidCells_init pass0 (by rfl) T.g_InvalidCells (pa_cons (pv 0) pa_nil)) (pa_cons (pe_mkX T.ox_InvalidLegs T.ii_InvalidLegs T.ti_InvalidLegs (ok_InvalidLegs_init T) (hr.mono (by decide)) T.b_InvalidLegs_init pass0 (by rfl) T.g_InvalidLegs (pa_cons (pv 0) pa_nil)) (pa_cons (pe_mkX T.ox_InvalidLot T.ii_InvalidLot T.ti_InvalidLot (ok_InvalidLot_init T) (hr.mono (by decide)) T.b_InvalidLot_init pass0 (by rfl) T.g_InvalidLot (pa_cons (pv 0) pa_nil)) (pa_cons (pe_mkX T.ox_InvalidFixed T.ii_InvalidFixed T.ti_InvalidFixed (ok_InvalidFixed_init T) (hr.mono (by decide)) T.b_InvalidFixed_init pass0 (by rfl) T.g_InvalidFixed (pa_cons (pv 0) pa_nil)) pa_nil)))))) pa_nil))) (pss_cons (ps_expr (pe_bmK (K := K) rfl PySem.F.plainAttrs_list PySem.F.slot_list_extend PySem.F.type_list_extend mt_extend (pv 2) (pa_cons (pe_lst (pa_cons (pe_mkX T.ox_InvalidGauge T.ii_InvalidGauge T.ti_InvalidGauge (ok_InvalidGauge_init T) (hr.mono (by decide)) T.b_InvalidGauge_init pass0 (by rfl) T.g_InvalidGauge (pa_cons (pv 0) pa_nil)) (pa_cons (pe_mkX T.ox_InvalidText T.ii_InvalidText T.ti_InvalidText (ok_InvalidText_init T) (hr.mono (by decide)) T.b_InvalidText_init pass0 (by rfl) T.g_InvalidText (pa_cons (pv 0) pa_nil)) (pa_cons (pe_mkX T.ox_CommandFailed T.ii_CommandFailed T.ti_CommandFailed (ok_CommandFailed_init T) (hr.mono (by decide)) T.b_CommandFailed_init pass0 (by rfl) T.g_CommandFailed (pa_cons (pv 0) pa_nil)) (pa_cons (pe_mkX T.ox_NotRight T.ii_NotRight T.ti_NotRight (ok_NotRight_init T) (hr.mono (by decide)) T.b_NotRight_init pass0 (by rfl) T.g_NotRight (pa_cons (pv 0) pa_nil)) (pa_cons (pe_mkX T.ox_NotSingle T.ii_NotSingle T.ti_NotSingle (ok_NotSingle_init T) (hr.mono (by decide)) T.b_NotSingle_init pass0 (by rfl) T.g_NotSingle (pa_cons (pv 0) (pa_cons (pv 1) pa_nil))) pa_nil)))))) pa_nil))) (pss_cons (ps_expr (pe_bmK (K := K) rfl PySem.F.plainAttrs_list PySem.F.slot_list_extend PySem.F.type_list_extend mt_extend (pv 2) (pa_cons (pe_lst (pa_cons (pe_mkX T.ox_NotOpen T.ii_NotOpen T.ti_NotOpen (ok_NotOpen_init T) (hr.mono (by decide)) T.b_NotOpen_init pass0 (by rfl) T.g_NotOpen (pa_cons (pv 0) (pa_cons (pv 1) pa_nil))) (pa_cons (pe_mkX T.ox_Unplayed T.ii_Unplayed T.ti_Unplayed (ok_Unplayed_init T) (hr.mono (by decide)) T.b_Unplayed_init pass0 (by rfl) T.g_Unplayed (pa_cons (pv 0) (pa_cons (pv 1) pa_nil))) (pa_cons (pe_mkX T.ox_TooMany T.ii_TooMany T.ti_TooMany (ok_TooMany_init T) (hr.mono (by decide)) T.b_TooMany_init pass0 (by rfl) T.g_TooMany (pa_cons (pv 0) (pa_cons (pv 1) pa_nil))) (pa_cons (pe_mkXK T.ox_NoRound T.ii_NoRound T.ti_NoRound (ok_NoRound_init T) (hr.mono (by decide)) T.k_NoRound_init_ pass0 (by rfl) T.g_NoRound pk_nil) (pa_cons (pe_mkXK T.ox_NothingToUndo T.ii_NothingToUndo T.ti_NothingToUndo (ok_NothingToUndo_init T) (hr.mono (by decide)) T.k_NothingToUndo_init_ pass0 (by rfl) T.g_NothingToUndo pk_nil) pa_nil)))))) pa_nil))) (pss_one (ps_ret (pv 2))))))))), ?_⟩
    refine ⟨_, rfl, ?_⟩
    conv => whnf
    apply rep_mkX1 (C := A.c_InvalidFirst) (n := "value") hW h_a
    intro p1 H4 e3 h2
    replace h_a := rep_ext e3 h_a
    replace h_b := rep_ext e3 h_b
    replace hW := hW.ret0 e3
    replace h2 : rep ms H4 (eX A ((0, [x_a]) : Nat × List D)) (.ref p1) := h2
    refine ⟨_, rfl, ?_⟩
    conv => whnf
    apply rep_mkX1 (C := A.c_InvalidNumber) (n := "value") hW h_a
    intro p5 H8 e7 h6
    replace h_a := rep_ext e7 h_a
    replace h_b := rep_ext e7 h_b
    replace h2 := rep_ext e7 h2
    replace hW := hW.ret0 e7
    replace h6 : rep ms H8 (eX A ((1, [x_a]) : Nat × List D)) (.ref p5) := h6
    refine ⟨_, rfl, ?_⟩
    conv => whnf
    apply rep_mkX1 (C := A.c_InvalidPlace) (n := "value") hW h_a
    intro p9 H12 e11 h10
    replace h_a := rep_ext e11 h_a
    replace h_b := rep_ext e11 h_b
    replace h2 := rep_ext e11 h2
    replace h6 := rep_ext e11 h6
    replace hW := hW.ret0 e11
    replace h10 : rep ms H12 (eX A ((2, [x_a]) : Nat × List D)) (.ref p9) := h10
    refine ⟨_, rfl, ?_⟩
    conv => whnf
    apply rep_mkX1 (C := A.c_InvalidMarks) (n := "value") hW h_a
    intro p13 H16 e15 h14
    replace h_a := rep_ext e15 h_a
    replace h_b := rep_ext e15 h_b
    replace h2 := rep_ext e15 h2
    replace h6 := rep_ext e15 h6
    replace h10 := rep_ext e15 h10
    replace hW := hW.ret0 e15
    replace h14 : rep ms H16 (eX A ((3, [x_a]) : Nat × List D)) (.ref p13) := h14
    refine ⟨_, rfl, ?_⟩
    conv => whnf
    apply rep_mkX1 (C := A.c_InvalidStep) (n := "value") hW h_a
    intro p17 H20 e19 h18
    replace h_a := rep_ext e19 h_a
    replace h_b := rep_ext e19 h_b
    replace h2 := rep_ext e19 h2
    replace h6 := rep_ext e19 h6
    replace h10 := rep_ext e19 h10
    replace h14 := rep_ext e19 h14
    replace hW := hW.ret0 e19
    replace h18 : rep ms H20 (eX A ((4, [x_a]) : Nat × List D)) (.ref p17) := h18
    refine ⟨(by show 5 ≤ sizeLine; decide), ?_⟩
    intro L21 nl22
    have nm23 := nm_new hW nl22
    have mu24 := mo_newL (ds := ([((0, [x_a]) : Nat × List D), ((1, [x_a]) : Nat × List D), ((2, [x_a]) : Nat × List D), ((3, [x_a]) : Nat × List D), ((4, [x_a]) : Nat × List D)] : List (Nat × List D)).map (fun y_ : (Nat × List D) => (eX A y_))) (vs := [(V.ref p1), (V.ref p5), (V.ref p9), (V.ref p13), (V.ref p17)]) hW nl22 (repL_cons h2 (repL_cons h6 (repL_cons h10 (repL_cons h14 (repL_cons h18 repL_nil)))))
    replace h_a := rep_cell (o := .lst [(V.ref p1), (V.ref p5), (V.ref p9), (V.ref p13), (V.ref p17)]) nl22 h_a
    replace h_b := rep_cell (o := .lst [(V.ref p1), (V.ref p5), (V.ref p9), (V.ref p13), (V.ref p17)]) nl22 h_b
    replace h2 := rep_cell (o := .lst [(V.ref p1), (V.ref p5), (V.ref p9), (V.ref p13), (V.ref p17)]) nl22 h2
    replace h6 := rep_cell (o := .lst [(V.ref p1), (V.ref p5), (V.ref p9), (V.ref p13), (V.ref p17)]) nl22 h6
    replace h10 := rep_cell (o := .lst [(V.ref p1), (V.ref p5), (V.ref p9), (V.ref p13), (V.ref p17)]) nl22 h10
    replace h14 := rep_cell (o := .lst [(V.ref p1), (V.ref p5), (V.ref p9), (V.ref p13), (V.ref p17)]) nl22 h14
    replace h18 := rep_cell (o := .lst [(V.ref p1), (V.ref p5), (V.ref p9), (V.ref p13), (V.ref p17)]) nl22 h18
    replace hW := wd_cell (o := .lst [(V.ref p1), (V.ref p5), (V.ref p9), (V.ref p13), (V.ref p17)]) hW nl22
    generalize upd H20 L21 (.lst [(V.ref p1), (V.ref p5), (V.ref p9), (V.ref p13), (V.ref p17)]) = H25 at *
    replace mu24 : MutO (L21 :: ms) [] H_0 H25 L21 (D.lst (([((0, [x_a]) : Nat × List D), ((1, [x_a]) : Nat × List D), ((2, [x_a]) : Nat × List D), ((3, [x_a]) : Nat × List D), ((4, [x_a]) : Nat × List D)] : List (Nat × List D)).map (fun y_ : (Nat × List D) => (eX A y_)))) := mu24
    refine ⟨_, rfl, ?_⟩
    refine ⟨mo_tyL mu24, ?_⟩
    refine ⟨_, rfl, ?_⟩
    conv => whnf
    apply rep_mkX1 (C := A.c_InvalidStander) (n := "value") hW h_a
    intro p26 H29 e28 h27
    replace h_a := rep_ext e28 h_a
    replace h_b := rep_ext e28 h_b
    replace h2 := rep_ext e28 h2
    replace h6 := rep_ext e28 h6
    replace h10 := rep_ext e28 h10
    replace h14 := rep_ext e28 h14
    replace h18 := rep_ext e28 h18
    replace mu24 := mo_ext e28 mu24
    replace hW := hW.ret0 e28
    replace h27 : rep (L21 :: ms) H29 (eX A ((5, [x_a]) : Nat × List D)) (.ref p26) := h27
    refine ⟨_, rfl, ?_⟩
    conv => whnf
    apply rep_mkX1 (C := A.c_InvalidTurned) (n := "value") hW h_a
    intro p30 H33 e32 h31
    replace h_a := rep_ext e32 h_a
    replace h_b := rep_ext e32 h_b
    replace h2 := rep_ext e32 h2
    replace h6 := rep_ext e32 h6
    replace h10 := rep_ext e32 h10
    replace h14 := rep_ext e32 h14
    replace h18 := rep_ext e32 h18
    replace h27 := rep_ext e32 h27
    replace mu24 := mo_ext e32 mu24
    replace hW := hW.ret0 e32
    replace h31 : rep (L21 :: ms) H33 (eX A ((6, [x_a]) : Nat × List D)) (.ref p30) := h31
    refine ⟨_, rfl, ?_⟩
    conv => whnf
    apply rep_mkX1 (C := A.c_InvalidSize) (n := "value") hW h_a
    intro p34 H37 e36 h35
    replace h_a := rep_ext e36 h_a
    replace h_b := rep_ext e36 h_b
    replace h2 := rep_ext e36 h2
    replace h6 := rep_ext e36 h6
    replace h10 := rep_ext e36 h10
    replace h14 := rep_ext e36 h14
    replace h18 := rep_ext e36 h18
    replace h27 := rep_ext e36 h27
    replace h31 := rep_ext e36 h31
    replace mu24 := mo_ext e36 mu24
    replace hW := hW.ret0 e36
    replace h35 : rep (L21 :: ms) H37 (eX A ((7, [x_a]) : Nat × List D)) (.ref p34) := h35
    refine ⟨_, rfl, ?_⟩
    conv => whnf
    apply rep_mkX1 (C := A.c_InvalidTeam) (n := "value") hW h_a
    intro p38 H41 e40 h39
    replace h_a := rep_ext e40 h_a
    replace h_b := rep_ext e40 h_b
    replace h2 := rep_ext e40 h2
    replace h6 := rep_ext e40 h6
    replace h10 := rep_ext e40 h10
    replace h14 := rep_ext e40 h14
    replace h18 := rep_ext e40 h18
    replace h27 := rep_ext e40 h27
    replace h31 := rep_ext e40 h31
    replace h35 := rep_ext e40 h35
    replace mu24 := mo_ext e40 mu24
    replace hW := hW.ret0 e40
    replace h39 : rep (L21 :: ms) H41 (eX A ((8, [x_a]) : Nat × List D)) (.ref p38) := h39
    refine ⟨_, rfl, ?_⟩
    conv => whnf
    apply rep_mkX1 (C := A.c_InvalidRound) (n := "value") hW h_a
    intro p42 H45 e44 h43
    replace h_a := rep_ext e44 h_a
    replace h_b := rep_ext e44 h_b
    replace h2 := rep_ext e44 h2
    replace h6 := rep_ext e44 h6
    replace h10 := rep_ext e44 h10
    replace h14 := rep_ext e44 h14
    replace h18 := rep_ext e44 h18
    replace h27 := rep_ext e44 h27
    replace h31 := rep_ext e44 h31
    replace h35 := rep_ext e44 h35
    replace h39 := rep_ext e44 h39
    replace mu24 := mo_ext e44 mu24
    replace hW := hW.ret0 e44
    replace h43 : rep (L21 :: ms) H45 (eX A ((9, [x_a]) : Nat × List D)) (.ref p42) := h43
    refine ⟨(by show 5 ≤ sizeLine; decide), ?_⟩
    intro p46 n50
    have e47 := Rx.Ext.new (H := H45) (o := (HO.lst [(V.ref p26), (V.ref p30), (V.ref p34), (V.ref p38), (V.ref p42)])) n50
    have hp48 : upd H45 p46 (HO.lst [(V.ref p26), (V.ref p30), (V.ref p34), (V.ref p38), (V.ref p42)]) p46 = some (HO.lst [(V.ref p26), (V.ref p30), (V.ref p34), (V.ref p38), (V.ref p42)]) := upd_same
    generalize upd H45 p46 (HO.lst [(V.ref p26), (V.ref p30), (V.ref p34), (V.ref p38), (V.ref p42)]) = H51 at e47 hp48 ⊢
    have h49 : rep (L21 :: ms) H51 (D.lst (([((5, [x_a]) : Nat × List D), ((6, [x_a]) : Nat × List D), ((7, [x_a]) : Nat × List D), ((8, [x_a]) : Nat × List D), ((9, [x_a]) : Nat × List D)] : List (Nat × List D)).map (fun y_ : (Nat × List D) => (eX A y_)))) (.ref p46) := rep_lst_mk hW n50 e47 hp48 (repL_cons h27 (repL_cons h31 (repL_cons h35 (repL_cons h39 (repL_cons h43 repL_nil)))))
    replace h_a := rep_ext e47 h_a
    replace h_b := rep_ext e47 h_b
    replace h2 := rep_ext e47 h2
    replace h6 := rep_ext e47 h6
    replace h10 := rep_ext e47 h10
    replace h14 := rep_ext e47 h14
    replace h18 := rep_ext e47 h18
    replace h27 := rep_ext e47 h27
    replace h31 := rep_ext e47 h31
    replace h35 := rep_ext e47 h35
    replace h39 := rep_ext e47 h39
    replace h43 := rep_ext e47 h43
    replace mu24 := mo_ext e47 mu24
    replace hW := hW.ret0 e47
    obtain ⟨g52, hM⟩ := hM
    apply mo_extU (e := (fun y_ : (Nat × List D) => (eX A y_))) (ys := ([((5, [x_a]) : Nat × List D), ((6, [x_a]) : Nat × List D), ((7, [x_a]) : Nat × List D), ((8, [x_a]) : Nat × List D), ((9, [x_a]) : Nat × List D)] : List (Nat × List D))) mu24 h49 (by rw [List.length_map]; exact g52)
    intro vs53 us54 hr55 hr56
    have mk57 := mo_setL mu24 (repL_cat (e := (fun y_ : (Nat × List D) => (eX A y_))) (xs := ([((0, [x_a]) : Nat × List D), ((1, [x_a]) : Nat × List D), ((2, [x_a]) : Nat × List D), ((3, [x_a]) : Nat × List D), ((4, [x_a]) : Nat × List D)] : List (Nat × List D))) (ys := ([((5, [x_a]) : Nat × List D), ((6, [x_a]) : Nat × List D), ((7, [x_a]) : Nat × List D), ((8, [x_a]) : Nat × List D), ((9, [x_a]) : Nat × List D)] : List (Nat × List D))) hr55 hr56)
    replace h_a := rep_put (o := .lst (vs53 ++ us54)) mu24.im h_a
    replace h_b := rep_put (o := .lst (vs53 ++ us54)) mu24.im h_b
    replace h2 := rep_put (o := .lst (vs53 ++ us54)) mu24.im h2
    replace h6 := rep_put (o := .lst (vs53 ++ us54)) mu24.im h6
    replace h10 := rep_put (o := .lst (vs53 ++ us54)) mu24.im h10
    replace h14 := rep_put (o := .lst (vs53 ++ us54)) mu24.im h14
    replace h18 := rep_put (o := .lst (vs53 ++ us54)) mu24.im h18
    replace h27 := rep_put (o := .lst (vs53 ++ us54)) mu24.im h27
    replace h31 := rep_put (o := .lst (vs53 ++ us54)) mu24.im h31
    replace h35 := rep_put (o := .lst (vs53 ++ us54)) mu24.im h35
    replace h39 := rep_put (o := .lst (vs53 ++ us54)) mu24.im h39
    replace h43 := rep_put (o := .lst (vs53 ++ us54)) mu24.im h43
    replace h49 := rep_put (o := .lst (vs53 ++ us54)) mu24.im h49
    replace hW := wd_put (o := .lst (vs53 ++ us54)) hW mu24
    replace mu24 := mk57
    generalize upd H51 L21 (.lst (vs53 ++ us54)) = H58 at *
    replace mu24 : MutO (L21 :: ms) [] H_0 H58 L21 (D.lst ((([((0, [x_a]) : Nat × List D), ((1, [x_a]) : Nat × List D), ((2, [x_a]) : Nat × List D), ((3, [x_a]) : Nat × List D), ((4, [x_a]) : Nat × List D)] : List (Nat × List D)) ++ ([((5, [x_a]) : Nat × List D), ((6, [x_a]) : Nat × List D), ((7, [x_a]) : Nat × List D), ((8, [x_a]) : Nat × List D), ((9, [x_a]) : Nat × List D)] : List (Nat × List D))).map (fun y_ : (Nat × List D) => (eX A y_)))) := mu24
    clear mk57
    refine ⟨_, rfl, ?_⟩
    refine ⟨mo_tyL mu24, ?_⟩
    refine ⟨_, rfl, ?_⟩
    conv => whnf
    apply rep_mkX1 (C := A.c_InvalidCount) (n := "value") hW h_a
    intro p59 H62 e61 h60
    replace h_a := rep_ext e61 h_a
    replace h_b := rep_ext e61 h_b
    replace h2 := rep_ext e61 h2
    replace h6 := rep_ext e61 h6
    replace h10 := rep_ext e61 h10
    replace h14 := rep_ext e61 h14
    replace h18 := rep_ext e61 h18
    replace h27 := rep_ext e61 h27
    replace h31 := rep_ext e61 h31
    replace h35 := rep_ext e61 h35
    replace h39 := rep_ext e61 h39
    replace h43 := rep_ext e61 h43
    replace h49 := rep_ext e61 h49
    replace mu24 := mo_ext e61 mu24
    replace hW := hW.ret0 e61
    replace h60 : rep (L21 :: ms) H62 (eX A ((10, [x_a]) : Nat × List D)) (.ref p59) := h60
    refine ⟨_, rfl, ?_⟩
    conv => whnf
    apply rep_mkX1 (C := A.c_InvalidClaim) (n := "value") hW h_a
    intro p63 H66 e65 h64
    replace h_a := rep_ext e65 h_a
    replace h_b := rep_ext e65 h_b
    replace h2 := rep_ext e65 h2
    replace h6 := rep_ext e65 h6
    replace h10 := rep_ext e65 h10
    replace h14 := rep_ext e65 h14
    replace h18 := rep_ext e65 h18
    replace h27 := rep_ext e65 h27
    replace h31 := rep_ext e65 h31
    replace h35 := rep_ext e65 h35
    replace h39 := rep_ext e65 h39
    replace h43 := rep_ext e65 h43
    replace h49 := rep_ext e65 h49
    replace h60 := rep_ext e65 h60
    replace mu24 := mo_ext e65 mu24
    replace hW := hW.ret0 e65
    replace h64 : rep (L21 :: ms) H66 (eX A ((11, [x_a]) : Nat × List D)) (.ref p63) := h64
    refine ⟨_, rfl, ?_⟩
    conv => whnf
    apply rep_mkX1 (C := A.c_InvalidCommand) (n := "value") hW h_a
    intro p67 H70 e69 h68
    replace h_a := rep_ext e69 h_a
    replace h_b := rep_ext e69 h_b
    replace h2 := rep_ext e69 h2
    replace h6 := rep_ext e69 h6
    replace h10 := rep_ext e69 h10
    replace h14 := rep_ext e69 h14
    replace h18 := rep_ext e69 h18
    replace h27 := rep_ext e69 h27
    replace h31 := rep_ext e69 h31
    replace h35 := rep_ext e69 h35
    replace h39 := rep_ext e69 h39
    replace h43 := rep_ext e69 h43
    replace h49 := rep_ext e69 h49
    replace h60 := rep_ext e69 h60
    replace h64 := rep_ext e69 h64
    replace mu24 := mo_ext e69 mu24
    replace hW := hW.ret0 e69
    replace h68 : rep (L21 :: ms) H70 (eX A ((12, [x_a]) : Nat × List D)) (.ref p67) := h68
    refine ⟨_, rfl, ?_⟩
    conv => whnf
    apply rep_mkX1 (C := A.c_InvalidValues) (n := "position") hW h_a
    intro p71 H74 e73 h72
    replace h_a := rep_ext e73 h_a
    replace h_b := rep_ext e73 h_b
    replace h2 := rep_ext e73 h2
    replace h6 := rep_ext e73 h6
    replace h10 := rep_ext e73 h10
    replace h14 := rep_ext e73 h14
    replace h18 := rep_ext e73 h18
    replace h27 := rep_ext e73 h27
    replace h31 := rep_ext e73 h31
    replace h35 := rep_ext e73 h35
    replace h39 := rep_ext e73 h39
    replace h43 := rep_ext e73 h43
    replace h49 := rep_ext e73 h49
    replace h60 := rep_ext e73 h60
    replace h64 := rep_ext e73 h64
    replace h68 := rep_ext e73 h68
    replace mu24 := mo_ext e73 mu24
    replace hW := hW.ret0 e73
    replace h72 : rep (L21 :: ms) H74 (eX A ((13, [x_a]) : Nat × List D)) (.ref p71) := h72
    refine ⟨_, rfl, ?_⟩
    conv => whnf
    apply rep_mkX1 (C := A.c_InvalidRows) (n := "position") hW h_a
    intro p75 H78 e77 h76
    replace h_a := rep_ext e77 h_a
    replace h_b := rep_ext e77 h_b
    replace h2 := rep_ext e77 h2
    replace h6 := rep_ext e77 h6
    replace h10 := rep_ext e77 h10
    replace h14 := rep_ext e77 h14
    replace h18 := rep_ext e77 h18
    replace h27 := rep_ext e77 h27
    replace h31 := rep_ext e77 h31
    replace h35 := rep_ext e77 h35
    replace h39 := rep_ext e77 h39
    replace h43 := rep_ext e77 h43
    replace h49 := rep_ext e77 h49
    replace h60 := rep_ext e77 h60
    replace h64 := rep_ext e77 h64
    replace h68 := rep_ext e77 h68
    replace h72 := rep_ext e77 h72
    replace mu24 := mo_ext e77 mu24
    replace hW := hW.ret0 e77
    replace h76 : rep (L21 :: ms) H78 (eX A ((14, [x_a]) : Nat × List D)) (.ref p75) := h76
    refine ⟨(by show 5 ≤ sizeLine; decide), ?_⟩
    intro p79 n83
    have e80 := Rx.Ext.new (H := H78) (o := (HO.lst [(V.ref p59), (V.ref p63), (V.ref p67), (V.ref p71), (V.ref p75)])) n83
    have hp81 : upd H78 p79 (HO.lst [(V.ref p59), (V.ref p63), (V.ref p67), (V.ref p71), (V.ref p75)]) p79 = some (HO.lst [(V.ref p59), (V.ref p63), (V.ref p67), (V.ref p71), (V.ref p75)]) := upd_same
    generalize upd H78 p79 (HO.lst [(V.ref p59), (V.ref p63), (V.ref p67), (V.ref p71), (V.ref p75)]) = H84 at e80 hp81 ⊢
    have h82 : rep (L21 :: ms) H84 (D.lst (([((10, [x_a]) : Nat × List D), ((11, [x_a]) : Nat × List D), ((12, [x_a]) : Nat × List D), ((13, [x_a]) : Nat × List D), ((14, [x_a]) : Nat × List D)] : List (Nat × List D)).map (fun y_ : (Nat × List D) => (eX A y_)))) (.ref p79) := rep_lst_mk hW n83 e80 hp81 (repL_cons h60 (repL_cons h64 (repL_cons h68 (repL_cons h72 (repL_cons h76 repL_nil)))))
    replace h_a := rep_ext e80 h_a
    replace h_b := rep_ext e80 h_b
    replace h2 := rep_ext e80 h2
    replace h6 := rep_ext e80 h6
    replace h10 := rep_ext e80 h10
    replace h14 := rep_ext e80 h14
    replace h18 := rep_ext e80 h18
    replace h27 := rep_ext e80 h27
    replace h31 := rep_ext e80 h31
    replace h35 := rep_ext e80 h35
    replace h39 := rep_ext e80 h39
    replace h43 := rep_ext e80 h43
    replace h49 := rep_ext e80 h49
    replace h60 := rep_ext e80 h60
    replace h64 := rep_ext e80 h64
    replace h68 := rep_ext e80 h68
    replace h72 := rep_ext e80 h72
    replace h76 := rep_ext e80 h76
    replace mu24 := mo_ext e80 mu24
    replace hW := hW.ret0 e80
    obtain ⟨g85, hM⟩ := hM
    apply mo_extU (e := (fun y_ : (Nat × List D) => (eX A y_))) (ys := ([((10, [x_a]) : Nat × List D), ((11, [x_a]) : Nat × List D), ((12, [x_a]) : Nat × List D), ((13, [x_a]) : Nat × List D), ((14, [x_a]) : Nat × List D)] : List (Nat × List D))) mu24 h82 (by rw [List.length_map]; exact g85)
    intro vs86 us87 hr88 hr89
    have mk90 := mo_setL mu24 (repL_cat (e := (fun y_ : (Nat × List D) => (eX A y_))) (xs := (([((0, [x_a]) : Nat × List D), ((1, [x_a]) : Nat × List D), ((2, [x_a]) : Nat × List D), ((3, [x_a]) : Nat × List D), ((4, [x_a]) : Nat × List D)] : List (Nat × List D)) ++ ([((5, [x_a]) : Nat × List D), ((6, [x_a]) : Nat × List D), ((7, [x_a]) : Nat × List D), ((8, [x_a]) : Nat × List D), ((9, [x_a]) : Nat × List D)] : List (Nat × List D)))) (ys := ([((10, [x_a]) : Nat × List D), ((11, [x_a]) : Nat × List D), ((12, [x_a]) : Nat × List D), ((13, [x_a]) : Nat × List D), ((14, [x_a]) : Nat × List D)] : List (Nat × List D))) hr88 hr89)
    replace h_a := rep_put (o := .lst (vs86 ++ us87)) mu24.im h_a
    replace h_b := rep_put (o := .lst (vs86 ++ us87)) mu24.im h_b
    replace h2 := rep_put (o := .lst (vs86 ++ us87)) mu24.im h2
    replace h6 := rep_put (o := .lst (vs86 ++ us87)) mu24.im h6
    replace h10 := rep_put (o := .lst (vs86 ++ us87)) mu24.im h10
    replace h14 := rep_put (o := .lst (vs86 ++ us87)) mu24.im h14
    replace h18 := rep_put (o := .lst (vs86 ++ us87)) mu24.im h18
    replace h27 := rep_put (o := .lst (vs86 ++ us87)) mu24.im h27
    replace h31 := rep_put (o := .lst (vs86 ++ us87)) mu24.im h31
    replace h35 := rep_put (o := .lst (vs86 ++ us87)) mu24.im h35
    replace h39 := rep_put (o := .lst (vs86 ++ us87)) mu24.im h39
    replace h43 := rep_put (o := .lst (vs86 ++ us87)) mu24.im h43
    replace h49 := rep_put (o := .lst (vs86 ++ us87)) mu24.im h49
    replace h60 := rep_put (o := .lst (vs86 ++ us87)) mu24.im h60
    replace h64 := rep_put (o := .lst (vs86 ++ us87)) mu24.im h64
    replace h68 := rep_put (o := .lst (vs86 ++ us87)) mu24.im h68
    replace h72 := rep_put (o := .lst (vs86 ++ us87)) mu24.im h72
    replace h76 := rep_put (o := .lst (vs86 ++ us87)) mu24.im h76
    replace h82 := rep_put (o := .lst (vs86 ++ us87)) mu24.im h82
    replace hW := wd_put (o := .lst (vs86 ++ us87)) hW mu24
    replace mu24 := mk90
    generalize upd H84 L21 (.lst (vs86 ++ us87)) = H91 at *
    replace mu24 : MutO (L21 :: ms) [] H_0 H91 L21 (D.lst (((([((0, [x_a]) : Nat × List D), ((1, [x_a]) : Nat × List D), ((2, [x_a]) : Nat × List D), ((3, [x_a]) : Nat × List D), ((4, [x_a]) : Nat × List D)] : List (Nat × List D)) ++ ([((5, [x_a]) : Nat × List D), ((6, [x_a]) : Nat × List D), ((7, [x_a]) : Nat × List D), ((8, [x_a]) : Nat × List D), ((9, [x_a]) : Nat × List D)] : List (Nat × List D))) ++ ([((10, [x_a]) : Nat × List D), ((11, [x_a]) : Nat × List D), ((12, [x_a]) : Nat × List D), ((13, [x_a]) : Nat × List D), ((14, [x_a]) : Nat × List D)] : List (Nat × List D))).map (fun y_ : (Nat × List D) => (eX A y_)))) := mu24
    clear mk90
    refine ⟨_, rfl, ?_⟩
    refine ⟨mo_tyL mu24, ?_⟩
    refine ⟨_, rfl, ?_⟩
    conv => whnf
    apply rep_mkX1 (C := A.c_InvalidRounds) (n := "position") hW h_a
    intro p92 H95 e94 h93
    replace h_a := rep_ext e94 h_a
    replace h_b := rep_ext e94 h_b
    replace h2 := rep_ext e94 h2
    replace h6 := rep_ext e94 h6
    replace h10 := rep_ext e94 h10
    replace h14 := rep_ext e94 h14
    replace h18 := rep_ext e94 h18
    replace h27 := rep_ext e94 h27
    replace h31 := rep_ext e94 h31
    replace h35 := rep_ext e94 h35
    replace h39 := rep_ext e94 h39
    replace h43 := rep_ext e94 h43
    replace h49 := rep_ext e94 h49
    replace h60 := rep_ext e94 h60
    replace h64 := rep_ext e94 h64
    replace h68 := rep_ext e94 h68
    replace h72 := rep_ext e94 h72
    replace h76 := rep_ext e94 h76
    replace h82 := rep_ext e94 h82
    replace mu24 := mo_ext e94 mu24
    replace hW := hW.ret0 e94
    replace h93 : rep (L21 :: ms) H95 (eX A ((15, [x_a]) : Nat × List D)) (.ref p92) := h93
    refine ⟨_, rfl, ?_⟩
    conv => whnf
    apply rep_mkX1 (C := A.c_InvalidCells) (n := "position") hW h_a
    intro p96 H99 e98 h97
    replace h_a := rep_ext e98 h_a
    replace h_b := rep_ext e98 h_b
    replace h2 := rep_ext e98 h2
    replace h6 := rep_ext e98 h6
    replace h10 := rep_ext e98 h10
    replace h14 := rep_ext e98 h14
    replace h18 := rep_ext e98 h18
    replace h27 := rep_ext e98 h27
    replace h31 := rep_ext e98 h31
    replace h35 := rep_ext e98 h35
    replace h39 := rep_ext e98 h39
    replace h43 := rep_ext e98 h43
    replace h49 := rep_ext e98 h49
    replace h60 := rep_ext e98 h60
    replace h64 := rep_ext e98 h64
    replace h68 := rep_ext e98 h68
    replace h72 := rep_ext e98 h72
    replace h76 := rep_ext e98 h76
    replace h82 := rep_ext e98 h82
    replace h93 := rep_ext e98 h93
    replace mu24 := mo_ext e98 mu24
    replace hW := hW.ret0 e98
    replace h97 : rep (L21 :: ms) H99 (eX A ((16, [x_a]) : Nat × List D)) (.ref p96) := h97
    refine ⟨_, rfl, ?_⟩
    conv => whnf
    apply rep_mkX1 (C := A.c_InvalidLegs) (n := "position") hW h_a
    intro p100 H103 e102 h101
    replace h_a := rep_ext e102 h_a
    replace h_b := rep_ext e102 h_b
    replace h2 := rep_ext e102 h2
    replace h6 := rep_ext e102 h6
    replace h10 := rep_ext e102 h10
    replace h14 := rep_ext e102 h14
    replace h18 := rep_ext e102 h18
    replace h27 := rep_ext e102 h27
    replace h31 := rep_ext e102 h31
    replace h35 := rep_ext e102 h35
    replace h39 := rep_ext e102 h39
    replace h43 := rep_ext e102 h43
    replace h49 := rep_ext e102 h49
    replace h60 := rep_ext e102 h60
    replace h64 := rep_ext e102 h64
    replace h68 := rep_ext e102 h68
    replace h72 := rep_ext e102 h72
    replace h76 := rep_ext e102 h76
    replace h82 := rep_ext e102 h82
    replace h93 := rep_ext e102 h93
    replace h97 := rep_ext e102 h97
    replace mu24 := mo_ext e102 mu24
    replace hW := hW.ret0 e102
    replace h101 : rep (L21 :: ms) H103 (eX A ((17, [x_a]) : Nat × List D)) (.ref p100) := h101
    refine ⟨_, rfl, ?_⟩
    conv => whnf
    apply rep_mkX1 (C := A.c_InvalidLot) (n := "position") hW h_a
    intro p104 H107 e106 h105
    replace h_a := rep_ext e106 h_a
    replace h_b := rep_ext e106 h_b
    replace h2 := rep_ext e106 h2
    replace h6 := rep_ext e106 h6
    replace h10 := rep_ext e106 h10
    replace h14 := rep_ext e106 h14
    replace h18 := rep_ext e106 h18
    replace h27 := rep_ext e106 h27
    replace h31 := rep_ext e106 h31
    replace h35 := rep_ext e106 h35
    replace h39 := rep_ext e106 h39
    replace h43 := rep_ext e106 h43
    replace h49 := rep_ext e106 h49
    replace h60 := rep_ext e106 h60
    replace h64 := rep_ext e106 h64
    replace h68 := rep_ext e106 h68
    replace h72 := rep_ext e106 h72
    replace h76 := rep_ext e106 h76
    replace h82 := rep_ext e106 h82
    replace h93 := rep_ext e106 h93
    replace h97 := rep_ext e106 h97
    replace h101 := rep_ext e106 h101
    replace mu24 := mo_ext e106 mu24
    replace hW := hW.ret0 e106
    replace h105 : rep (L21 :: ms) H107 (eX A ((18, [x_a]) : Nat × List D)) (.ref p104) := h105
    refine ⟨_, rfl, ?_⟩
    conv => whnf
    apply rep_mkX1 (C := A.c_InvalidFixed) (n := "position") hW h_a
    intro p108 H111 e110 h109
    replace h_a := rep_ext e110 h_a
    replace h_b := rep_ext e110 h_b
    replace h2 := rep_ext e110 h2
    replace h6 := rep_ext e110 h6
    replace h10 := rep_ext e110 h10
    replace h14 := rep_ext e110 h14
    replace h18 := rep_ext e110 h18
    replace h27 := rep_ext e110 h27
    replace h31 := rep_ext e110 h31
    replace h35 := rep_ext e110 h35
    replace h39 := rep_ext e110 h39
    replace h43 := rep_ext e110 h43
    replace h49 := rep_ext e110 h49
    replace h60 := rep_ext e110 h60
    replace h64 := rep_ext e110 h64
    replace h68 := rep_ext e110 h68
    replace h72 := rep_ext e110 h72
    replace h76 := rep_ext e110 h76
    replace h82 := rep_ext e110 h82
    replace h93 := rep_ext e110 h93
    replace h97 := rep_ext e110 h97
    replace h101 := rep_ext e110 h101
    replace h105 := rep_ext e110 h105
    replace mu24 := mo_ext e110 mu24
    replace hW := hW.ret0 e110
    replace h109 : rep (L21 :: ms) H111 (eX A ((19, [x_a]) : Nat × List D)) (.ref p108) := h109
    refine ⟨(by show 5 ≤ sizeLine; decide), ?_⟩
    intro p112 n116
    have e113 := Rx.Ext.new (H := H111) (o := (HO.lst [(V.ref p92), (V.ref p96), (V.ref p100), (V.ref p104), (V.ref p108)])) n116
    have hp114 : upd H111 p112 (HO.lst [(V.ref p92), (V.ref p96), (V.ref p100), (V.ref p104), (V.ref p108)]) p112 = some (HO.lst [(V.ref p92), (V.ref p96), (V.ref p100), (V.ref p104), (V.ref p108)]) := upd_same
    generalize upd H111 p112 (HO.lst [(V.ref p92), (V.ref p96), (V.ref p100), (V.ref p104), (V.ref p108)]) = H117 at e113 hp114 ⊢
    have h115 : rep (L21 :: ms) H117 (D.lst (([((15, [x_a]) : Nat × List D), ((16, [x_a]) : Nat × List D), ((17, [x_a]) : Nat × List D), ((18, [x_a]) : Nat × List D), ((19, [x_a]) : Nat × List D)] : List (Nat × List D)).map (fun y_ : (Nat × List D) => (eX A y_)))) (.ref p112) := rep_lst_mk hW n116 e113 hp114 (repL_cons h93 (repL_cons h97 (repL_cons h101 (repL_cons h105 (repL_cons h109 repL_nil)))))
    replace h_a := rep_ext e113 h_a
    replace h_b := rep_ext e113 h_b
    replace h2 := rep_ext e113 h2
    replace h6 := rep_ext e113 h6
    replace h10 := rep_ext e113 h10
    replace h14 := rep_ext e113 h14
    replace h18 := rep_ext e113 h18
    replace h27 := rep_ext e113 h27
    replace h31 := rep_ext e113 h31
    replace h35 := rep_ext e113 h35
    replace h39 := rep_ext e113 h39
    replace h43 := rep_ext e113 h43
    replace h49 := rep_ext e113 h49
    replace h60 := rep_ext e113 h60
    replace h64 := rep_ext e113 h64
    replace h68 := rep_ext e113 h68
    replace h72 := rep_ext e113 h72
    replace h76 := rep_ext e113 h76
    replace h82 := rep_ext e113 h82
    replace h93 := rep_ext e113 h93
    replace h97 := rep_ext e113 h97
    replace h101 := rep_ext e113 h101
    replace h105 := rep_ext e113 h105
    replace h109 := rep_ext e113 h109
    replace mu24 := mo_ext e113 mu24
    replace hW := hW.ret0 e113
    obtain ⟨g118, hM⟩ := hM
    apply mo_extU (e := (fun y_ : (Nat × List D) => (eX A y_))) (ys := ([((15, [x_a]) : Nat × List D), ((16, [x_a]) : Nat × List D), ((17, [x_a]) : Nat × List D), ((18, [x_a]) : Nat × List D), ((19, [x_a]) : Nat × List D)] : List (Nat × List D))) mu24 h115 (by rw [List.length_map]; exact g118)
    intro vs119 us120 hr121 hr122
    have mk123 := mo_setL mu24 (repL_cat (e := (fun y_ : (Nat × List D) => (eX A y_))) (xs := ((([((0, [x_a]) : Nat × List D), ((1, [x_a]) : Nat × List D), ((2, [x_a]) : Nat × List D), ((3, [x_a]) : Nat × List D), ((4, [x_a]) : Nat × List D)] : List (Nat × List D)) ++ ([((5, [x_a]) : Nat × List D), ((6, [x_a]) : Nat × List D), ((7, [x_a]) : Nat × List D), ((8, [x_a]) : Nat × List D), ((9, [x_a]) : Nat × List D)] : List (Nat × List D))) ++ ([((10, [x_a]) : Nat × List D), ((11, [x_a]) : Nat × List D), ((12, [x_a]) : Nat × List D), ((13, [x_a]) : Nat × List D), ((14, [x_a]) : Nat × List D)] : List (Nat × List D)))) (ys := ([((15, [x_a]) : Nat × List D), ((16, [x_a]) : Nat × List D), ((17, [x_a]) : Nat × List D), ((18, [x_a]) : Nat × List D), ((19, [x_a]) : Nat × List D)] : List (Nat × List D))) hr121 hr122)
    replace h_a := rep_put (o := .lst (vs119 ++ us120)) mu24.im h_a
    replace h_b := rep_put (o := .lst (vs119 ++ us120)) mu24.im h_b
    replace h2 := rep_put (o := .lst (vs119 ++ us120)) mu24.im h2
    replace h6 := rep_put (o := .lst (vs119 ++ us120)) mu24.im h6
    replace h10 := rep_put (o := .lst (vs119 ++ us120)) mu24.im h10
    replace h14 := rep_put (o := .lst (vs119 ++ us120)) mu24.im h14
    replace h18 := rep_put (o := .lst (vs119 ++ us120)) mu24.im h18
    replace h27 := rep_put (o := .lst (vs119 ++ us120)) mu24.im h27
    replace h31 := rep_put (o := .lst (vs119 ++ us120)) mu24.im h31
    replace h35 := rep_put (o := .lst (vs119 ++ us120)) mu24.im h35
    replace h39 := rep_put (o := .lst (vs119 ++ us120)) mu24.im h39
    replace h43 := rep_put (o := .lst (vs119 ++ us120)) mu24.im h43
    replace h49 := rep_put (o := .lst (vs119 ++ us120)) mu24.im h49
    replace h60 := rep_put (o := .lst (vs119 ++ us120)) mu24.im h60
    replace h64 := rep_put (o := .lst (vs119 ++ us120)) mu24.im h64
    replace h68 := rep_put (o := .lst (vs119 ++ us120)) mu24.im h68
    replace h72 := rep_put (o := .lst (vs119 ++ us120)) mu24.im h72
    replace h76 := rep_put (o := .lst (vs119 ++ us120)) mu24.im h76
    replace h82 := rep_put (o := .lst (vs119 ++ us120)) mu24.im h82
    replace h93 := rep_put (o := .lst (vs119 ++ us120)) mu24.im h93
    replace h97 := rep_put (o := .lst (vs119 ++ us120)) mu24.im h97
    replace h101 := rep_put (o := .lst (vs119 ++ us120)) mu24.im h101
    replace h105 := rep_put (o := .lst (vs119 ++ us120)) mu24.im h105
    replace h109 := rep_put (o := .lst (vs119 ++ us120)) mu24.im h109
    replace h115 := rep_put (o := .lst (vs119 ++ us120)) mu24.im h115
    replace hW := wd_put (o := .lst (vs119 ++ us120)) hW mu24
    replace mu24 := mk123
    generalize upd H117 L21 (.lst (vs119 ++ us120)) = H124 at *
    replace mu24 : MutO (L21 :: ms) [] H_0 H124 L21 (D.lst ((((([((0, [x_a]) : Nat × List D), ((1, [x_a]) : Nat × List D), ((2, [x_a]) : Nat × List D), ((3, [x_a]) : Nat × List D), ((4, [x_a]) : Nat × List D)] : List (Nat × List D)) ++ ([((5, [x_a]) : Nat × List D), ((6, [x_a]) : Nat × List D), ((7, [x_a]) : Nat × List D), ((8, [x_a]) : Nat × List D), ((9, [x_a]) : Nat × List D)] : List (Nat × List D))) ++ ([((10, [x_a]) : Nat × List D), ((11, [x_a]) : Nat × List D), ((12, [x_a]) : Nat × List D), ((13, [x_a]) : Nat × List D), ((14, [x_a]) : Nat × List D)] : List (Nat × List D))) ++ ([((15, [x_a]) : Nat × List D), ((16, [x_a]) : Nat × List D), ((17, [x_a]) : Nat × List D), ((18, [x_a]) : Nat × List D), ((19, [x_a]) : Nat × List D)] : List (Nat × List D))).map (fun y_ : (Nat × List D) => (eX A y_)))) := mu24
    clear mk123
    refine ⟨_, rfl, ?_⟩
    refine ⟨mo_tyL mu24, ?_⟩
    refine ⟨_, rfl, ?_⟩
    conv => whnf
    apply rep_mkX1 (C := A.c_InvalidGauge) (n := "position") hW h_a
    intro p125 H128 e127 h126
    replace h_a := rep_ext e127 h_a
    replace h_b := rep_ext e127 h_b
    replace h2 := rep_ext e127 h2
    replace h6 := rep_ext e127 h6
    replace h10 := rep_ext e127 h10
    replace h14 := rep_ext e127 h14
    replace h18 := rep_ext e127 h18
    replace h27 := rep_ext e127 h27
    replace h31 := rep_ext e127 h31
    replace h35 := rep_ext e127 h35
    replace h39 := rep_ext e127 h39
    replace h43 := rep_ext e127 h43
    replace h49 := rep_ext e127 h49
    replace h60 := rep_ext e127 h60
    replace h64 := rep_ext e127 h64
    replace h68 := rep_ext e127 h68
    replace h72 := rep_ext e127 h72
    replace h76 := rep_ext e127 h76
    replace h82 := rep_ext e127 h82
    replace h93 := rep_ext e127 h93
    replace h97 := rep_ext e127 h97
    replace h101 := rep_ext e127 h101
    replace h105 := rep_ext e127 h105
    replace h109 := rep_ext e127 h109
    replace h115 := rep_ext e127 h115
    replace mu24 := mo_ext e127 mu24
    replace hW := hW.ret0 e127
    replace h126 : rep (L21 :: ms) H128 (eX A ((20, [x_a]) : Nat × List D)) (.ref p125) := h126
    refine ⟨_, rfl, ?_⟩
    conv => whnf
    apply rep_mkX1 (C := A.c_InvalidText) (n := "line") hW h_a
    intro p129 H132 e131 h130
    replace h_a := rep_ext e131 h_a
    replace h_b := rep_ext e131 h_b
    replace h2 := rep_ext e131 h2
    replace h6 := rep_ext e131 h6
    replace h10 := rep_ext e131 h10
    replace h14 := rep_ext e131 h14
    replace h18 := rep_ext e131 h18
    replace h27 := rep_ext e131 h27
    replace h31 := rep_ext e131 h31
    replace h35 := rep_ext e131 h35
    replace h39 := rep_ext e131 h39
    replace h43 := rep_ext e131 h43
    replace h49 := rep_ext e131 h49
    replace h60 := rep_ext e131 h60
    replace h64 := rep_ext e131 h64
    replace h68 := rep_ext e131 h68
    replace h72 := rep_ext e131 h72
    replace h76 := rep_ext e131 h76
    replace h82 := rep_ext e131 h82
    replace h93 := rep_ext e131 h93
    replace h97 := rep_ext e131 h97
    replace h101 := rep_ext e131 h101
    replace h105 := rep_ext e131 h105
    replace h109 := rep_ext e131 h109
    replace h115 := rep_ext e131 h115
    replace h126 := rep_ext e131 h126
    replace mu24 := mo_ext e131 mu24
    replace hW := hW.ret0 e131
    replace h130 : rep (L21 :: ms) H132 (eX A ((21, [x_a]) : Nat × List D)) (.ref p129) := h130
    refine ⟨_, rfl, ?_⟩
    conv => whnf
    apply rep_mkX1 (C := A.c_CommandFailed) (n := "position") hW h_a
    intro p133 H136 e135 h134
    replace h_a := rep_ext e135 h_a
    replace h_b := rep_ext e135 h_b
    replace h2 := rep_ext e135 h2
    replace h6 := rep_ext e135 h6
    replace h10 := rep_ext e135 h10
    replace h14 := rep_ext e135 h14
    replace h18 := rep_ext e135 h18
    replace h27 := rep_ext e135 h27
    replace h31 := rep_ext e135 h31
    replace h35 := rep_ext e135 h35
    replace h39 := rep_ext e135 h39
    replace h43 := rep_ext e135 h43
    replace h49 := rep_ext e135 h49
    replace h60 := rep_ext e135 h60
    replace h64 := rep_ext e135 h64
    replace h68 := rep_ext e135 h68
    replace h72 := rep_ext e135 h72
    replace h76 := rep_ext e135 h76
    replace h82 := rep_ext e135 h82
    replace h93 := rep_ext e135 h93
    replace h97 := rep_ext e135 h97
    replace h101 := rep_ext e135 h101
    replace h105 := rep_ext e135 h105
    replace h109 := rep_ext e135 h109
    replace h115 := rep_ext e135 h115
    replace h126 := rep_ext e135 h126
    replace h130 := rep_ext e135 h130
    replace mu24 := mo_ext e135 mu24
    replace hW := hW.ret0 e135
    replace h134 : rep (L21 :: ms) H136 (eX A ((22, [x_a]) : Nat × List D)) (.ref p133) := h134
    refine ⟨_, rfl, ?_⟩
    conv => whnf
    apply rep_mkX1 (C := A.c_NotRight) (n := "size") hW h_a
    intro p137 H140 e139 h138
    replace h_a := rep_ext e139 h_a
    replace h_b := rep_ext e139 h_b
    replace h2 := rep_ext e139 h2
    replace h6 := rep_ext e139 h6
    replace h10 := rep_ext e139 h10
    replace h14 := rep_ext e139 h14
    replace h18 := rep_ext e139 h18
    replace h27 := rep_ext e139 h27
    replace h31 := rep_ext e139 h31
    replace h35 := rep_ext e139 h35
    replace h39 := rep_ext e139 h39
    replace h43 := rep_ext e139 h43
    replace h49 := rep_ext e139 h49
    replace h60 := rep_ext e139 h60
    replace h64 := rep_ext e139 h64
    replace h68 := rep_ext e139 h68
    replace h72 := rep_ext e139 h72
    replace h76 := rep_ext e139 h76
    replace h82 := rep_ext e139 h82
    replace h93 := rep_ext e139 h93
    replace h97 := rep_ext e139 h97
    replace h101 := rep_ext e139 h101
    replace h105 := rep_ext e139 h105
    replace h109 := rep_ext e139 h109
    replace h115 := rep_ext e139 h115
    replace h126 := rep_ext e139 h126
    replace h130 := rep_ext e139 h130
    replace h134 := rep_ext e139 h134
    replace mu24 := mo_ext e139 mu24
    replace hW := hW.ret0 e139
    replace h138 : rep (L21 :: ms) H140 (eX A ((23, [x_a]) : Nat × List D)) (.ref p137) := h138
    refine ⟨_, rfl, ?_⟩
    refine ⟨_, rfl, ?_⟩
    conv => whnf
    apply rep_mkX2 (C := A.c_NotSingle) (n := "one") (m := "other") hW h_a h_b
    intro p141 H144 e143 h142
    replace h_a := rep_ext e143 h_a
    replace h_b := rep_ext e143 h_b
    replace h2 := rep_ext e143 h2
    replace h6 := rep_ext e143 h6
    replace h10 := rep_ext e143 h10
    replace h14 := rep_ext e143 h14
    replace h18 := rep_ext e143 h18
    replace h27 := rep_ext e143 h27
    replace h31 := rep_ext e143 h31
    replace h35 := rep_ext e143 h35
    replace h39 := rep_ext e143 h39
    replace h43 := rep_ext e143 h43
    replace h49 := rep_ext e143 h49
    replace h60 := rep_ext e143 h60
    replace h64 := rep_ext e143 h64
    replace h68 := rep_ext e143 h68
    replace h72 := rep_ext e143 h72
    replace h76 := rep_ext e143 h76
    replace h82 := rep_ext e143 h82
    replace h93 := rep_ext e143 h93
    replace h97 := rep_ext e143 h97
    replace h101 := rep_ext e143 h101
    replace h105 := rep_ext e143 h105
    replace h109 := rep_ext e143 h109
    replace h115 := rep_ext e143 h115
    replace h126 := rep_ext e143 h126
    replace h130 := rep_ext e143 h130
    replace h134 := rep_ext e143 h134
    replace h138 := rep_ext e143 h138
    replace mu24 := mo_ext e143 mu24
    replace hW := hW.ret0 e143
    replace h142 : rep (L21 :: ms) H144 (eX A ((24, [x_b, x_a]) : Nat × List D)) (.ref p141) := h142
    refine ⟨(by show 5 ≤ sizeLine; decide), ?_⟩
    intro p145 n149
    have e146 := Rx.Ext.new (H := H144) (o := (HO.lst [(V.ref p125), (V.ref p129), (V.ref p133), (V.ref p137), (V.ref p141)])) n149
    have hp147 : upd H144 p145 (HO.lst [(V.ref p125), (V.ref p129), (V.ref p133), (V.ref p137), (V.ref p141)]) p145 = some (HO.lst [(V.ref p125), (V.ref p129), (V.ref p133), (V.ref p137), (V.ref p141)]) := upd_same
    generalize upd H144 p145 (HO.lst [(V.ref p125), (V.ref p129), (V.ref p133), (V.ref p137), (V.ref p141)]) = H150 at e146 hp147 ⊢
    have h148 : rep (L21 :: ms) H150 (D.lst (([((20, [x_a]) : Nat × List D), ((21, [x_a]) : Nat × List D), ((22, [x_a]) : Nat × List D), ((23, [x_a]) : Nat × List D), ((24, [x_b, x_a]) : Nat × List D)] : List (Nat × List D)).map (fun y_ : (Nat × List D) => (eX A y_)))) (.ref p145) := rep_lst_mk hW n149 e146 hp147 (repL_cons h126 (repL_cons h130 (repL_cons h134 (repL_cons h138 (repL_cons h142 repL_nil)))))
    replace h_a := rep_ext e146 h_a
    replace h_b := rep_ext e146 h_b
    replace h2 := rep_ext e146 h2
    replace h6 := rep_ext e146 h6
    replace h10 := rep_ext e146 h10
    replace h14 := rep_ext e146 h14
    replace h18 := rep_ext e146 h18
    replace h27 := rep_ext e146 h27
    replace h31 := rep_ext e146 h31
    replace h35 := rep_ext e146 h35
    replace h39 := rep_ext e146 h39
    replace h43 := rep_ext e146 h43
    replace h49 := rep_ext e146 h49
    replace h60 := rep_ext e146 h60
    replace h64 := rep_ext e146 h64
    replace h68 := rep_ext e146 h68
    replace h72 := rep_ext e146 h72
    replace h76 := rep_ext e146 h76
    replace h82 := rep_ext e146 h82
    replace h93 := rep_ext e146 h93
    replace h97 := rep_ext e146 h97
    replace h101 := rep_ext e146 h101
    replace h105 := rep_ext e146 h105
    replace h109 := rep_ext e146 h109
    replace h115 := rep_ext e146 h115
    replace h126 := rep_ext e146 h126
    replace h130 := rep_ext e146 h130
    replace h134 := rep_ext e146 h134
    replace h138 := rep_ext e146 h138
    replace h142 := rep_ext e146 h142
    replace mu24 := mo_ext e146 mu24
    replace hW := hW.ret0 e146
    obtain ⟨g151, hM⟩ := hM
    apply mo_extU (e := (fun y_ : (Nat × List D) => (eX A y_))) (ys := ([((20, [x_a]) : Nat × List D), ((21, [x_a]) : Nat × List D), ((22, [x_a]) : Nat × List D), ((23, [x_a]) : Nat × List D), ((24, [x_b, x_a]) : Nat × List D)] : List (Nat × List D))) mu24 h148 (by rw [List.length_map]; exact g151)
    intro vs152 us153 hr154 hr155
    have mk156 := mo_setL mu24 (repL_cat (e := (fun y_ : (Nat × List D) => (eX A y_))) (xs := (((([((0, [x_a]) : Nat × List D), ((1, [x_a]) : Nat × List D), ((2, [x_a]) : Nat × List D), ((3, [x_a]) : Nat × List D), ((4, [x_a]) : Nat × List D)] : List (Nat × List D)) ++ ([((5, [x_a]) : Nat × List D), ((6, [x_a]) : Nat × List D), ((7, [x_a]) : Nat × List D), ((8, [x_a]) : Nat × List D), ((9, [x_a]) : Nat × List D)] : List (Nat × List D))) ++ ([((10, [x_a]) : Nat × List D), ((11, [x_a]) : Nat × List D), ((12, [x_a]) : Nat × List D), ((13, [x_a]) : Nat × List D), ((14, [x_a]) : Nat × List D)] : List (Nat × List D))) ++ ([((15, [x_a]) : Nat × List D), ((16, [x_a]) : Nat × List D), ((17, [x_a]) : Nat × List D), ((18, [x_a]) : Nat × List D), ((19, [x_a]) : Nat × List D)] : List (Nat × List D)))) (ys := ([((20, [x_a]) : Nat × List D), ((21, [x_a]) : Nat × List D), ((22, [x_a]) : Nat × List D), ((23, [x_a]) : Nat × List D), ((24, [x_b, x_a]) : Nat × List D)] : List (Nat × List D))) hr154 hr155)
    replace h_a := rep_put (o := .lst (vs152 ++ us153)) mu24.im h_a
    replace h_b := rep_put (o := .lst (vs152 ++ us153)) mu24.im h_b
    replace h2 := rep_put (o := .lst (vs152 ++ us153)) mu24.im h2
    replace h6 := rep_put (o := .lst (vs152 ++ us153)) mu24.im h6
    replace h10 := rep_put (o := .lst (vs152 ++ us153)) mu24.im h10
    replace h14 := rep_put (o := .lst (vs152 ++ us153)) mu24.im h14
    replace h18 := rep_put (o := .lst (vs152 ++ us153)) mu24.im h18
    replace h27 := rep_put (o := .lst (vs152 ++ us153)) mu24.im h27
    replace h31 := rep_put (o := .lst (vs152 ++ us153)) mu24.im h31
    replace h35 := rep_put (o := .lst (vs152 ++ us153)) mu24.im h35
    replace h39 := rep_put (o := .lst (vs152 ++ us153)) mu24.im h39
    replace h43 := rep_put (o := .lst (vs152 ++ us153)) mu24.im h43
    replace h49 := rep_put (o := .lst (vs152 ++ us153)) mu24.im h49
    replace h60 := rep_put (o := .lst (vs152 ++ us153)) mu24.im h60
    replace h64 := rep_put (o := .lst (vs152 ++ us153)) mu24.im h64
    replace h68 := rep_put (o := .lst (vs152 ++ us153)) mu24.im h68
    replace h72 := rep_put (o := .lst (vs152 ++ us153)) mu24.im h72
    replace h76 := rep_put (o := .lst (vs152 ++ us153)) mu24.im h76
    replace h82 := rep_put (o := .lst (vs152 ++ us153)) mu24.im h82
    replace h93 := rep_put (o := .lst (vs152 ++ us153)) mu24.im h93
    replace h97 := rep_put (o := .lst (vs152 ++ us153)) mu24.im h97
    replace h101 := rep_put (o := .lst (vs152 ++ us153)) mu24.im h101
    replace h105 := rep_put (o := .lst (vs152 ++ us153)) mu24.im h105
    replace h109 := rep_put (o := .lst (vs152 ++ us153)) mu24.im h109
    replace h115 := rep_put (o := .lst (vs152 ++ us153)) mu24.im h115
    replace h126 := rep_put (o := .lst (vs152 ++ us153)) mu24.im h126
    replace h130 := rep_put (o := .lst (vs152 ++ us153)) mu24.im h130
    replace h134 := rep_put (o := .lst (vs152 ++ us153)) mu24.im h134
    replace h138 := rep_put (o := .lst (vs152 ++ us153)) mu24.im h138
    replace h142 := rep_put (o := .lst (vs152 ++ us153)) mu24.im h142
    replace h148 := rep_put (o := .lst (vs152 ++ us153)) mu24.im h148
    replace hW := wd_put (o := .lst (vs152 ++ us153)) hW mu24
    replace mu24 := mk156
    generalize upd H150 L21 (.lst (vs152 ++ us153)) = H157 at *
    replace mu24 : MutO (L21 :: ms) [] H_0 H157 L21 (D.lst (((((([((0, [x_a]) : Nat × List D), ((1, [x_a]) : Nat × List D), ((2, [x_a]) : Nat × List D), ((3, [x_a]) : Nat × List D), ((4, [x_a]) : Nat × List D)] : List (Nat × List D)) ++ ([((5, [x_a]) : Nat × List D), ((6, [x_a]) : Nat × List D), ((7, [x_a]) : Nat × List D), ((8, [x_a]) : Nat × List D), ((9, [x_a]) : Nat × List D)] : List (Nat × List D))) ++ ([((10, [x_a]) : Nat × List D), ((11, [x_a]) : Nat × List D), ((12, [x_a]) : Nat × List D), ((13, [x_a]) : Nat × List D), ((14, [x_a]) : Nat × List D)] : List (Nat × List D))) ++ ([((15, [x_a]) : Nat × List D), ((16, [x_a]) : Nat × List D), ((17, [x_a]) : Nat × List D), ((18, [x_a]) : Nat × List D), ((19, [x_a]) : Nat × List D)] : List (Nat × List D))) ++ ([((20, [x_a]) : Nat × List D), ((21, [x_a]) : Nat × List D), ((22, [x_a]) : Nat × List D), ((23, [x_a]) : Nat × List D), ((24, [x_b, x_a]) : Nat × List D)] : List (Nat × List D))).map (fun y_ : (Nat × List D) => (eX A y_)))) := mu24
    clear mk156
    refine ⟨_, rfl, ?_⟩
    refine ⟨mo_tyL mu24, ?_⟩
    refine ⟨_, rfl, ?_⟩
    refine ⟨_, rfl, ?_⟩
    conv => whnf
    apply rep_mkX2 (C := A.c_NotOpen) (n := "home") (m := "away") hW h_a h_b
    intro p158 H161 e160 h159
    replace h_a := rep_ext e160 h_a
    replace h_b := rep_ext e160 h_b
    replace h2 := rep_ext e160 h2
    replace h6 := rep_ext e160 h6
    replace h10 := rep_ext e160 h10
    replace h14 := rep_ext e160 h14
    replace h18 := rep_ext e160 h18
    replace h27 := rep_ext e160 h27
    replace h31 := rep_ext e160 h31
    replace h35 := rep_ext e160 h35
    replace h39 := rep_ext e160 h39
    replace h43 := rep_ext e160 h43
    replace h49 := rep_ext e160 h49
    replace h60 := rep_ext e160 h60
    replace h64 := rep_ext e160 h64
    replace h68 := rep_ext e160 h68
    replace h72 := rep_ext e160 h72
    replace h76 := rep_ext e160 h76
    replace h82 := rep_ext e160 h82
    replace h93 := rep_ext e160 h93
    replace h97 := rep_ext e160 h97
    replace h101 := rep_ext e160 h101
    replace h105 := rep_ext e160 h105
    replace h109 := rep_ext e160 h109
    replace h115 := rep_ext e160 h115
    replace h126 := rep_ext e160 h126
    replace h130 := rep_ext e160 h130
    replace h134 := rep_ext e160 h134
    replace h138 := rep_ext e160 h138
    replace h142 := rep_ext e160 h142
    replace h148 := rep_ext e160 h148
    replace mu24 := mo_ext e160 mu24
    replace hW := hW.ret0 e160
    replace h159 : rep (L21 :: ms) H161 (eX A ((25, [x_b, x_a]) : Nat × List D)) (.ref p158) := h159
    refine ⟨_, rfl, ?_⟩
    refine ⟨_, rfl, ?_⟩
    conv => whnf
    apply rep_mkX2 (C := A.c_Unplayed) (n := "home") (m := "away") hW h_a h_b
    intro p162 H165 e164 h163
    replace h_a := rep_ext e164 h_a
    replace h_b := rep_ext e164 h_b
    replace h2 := rep_ext e164 h2
    replace h6 := rep_ext e164 h6
    replace h10 := rep_ext e164 h10
    replace h14 := rep_ext e164 h14
    replace h18 := rep_ext e164 h18
    replace h27 := rep_ext e164 h27
    replace h31 := rep_ext e164 h31
    replace h35 := rep_ext e164 h35
    replace h39 := rep_ext e164 h39
    replace h43 := rep_ext e164 h43
    replace h49 := rep_ext e164 h49
    replace h60 := rep_ext e164 h60
    replace h64 := rep_ext e164 h64
    replace h68 := rep_ext e164 h68
    replace h72 := rep_ext e164 h72
    replace h76 := rep_ext e164 h76
    replace h82 := rep_ext e164 h82
    replace h93 := rep_ext e164 h93
    replace h97 := rep_ext e164 h97
    replace h101 := rep_ext e164 h101
    replace h105 := rep_ext e164 h105
    replace h109 := rep_ext e164 h109
    replace h115 := rep_ext e164 h115
    replace h126 := rep_ext e164 h126
    replace h130 := rep_ext e164 h130
    replace h134 := rep_ext e164 h134
    replace h138 := rep_ext e164 h138
    replace h142 := rep_ext e164 h142
    replace h148 := rep_ext e164 h148
    replace h159 := rep_ext e164 h159
    replace mu24 := mo_ext e164 mu24
    replace hW := hW.ret0 e164
    replace h163 : rep (L21 :: ms) H165 (eX A ((26, [x_b, x_a]) : Nat × List D)) (.ref p162) := h163
    refine ⟨_, rfl, ?_⟩
    refine ⟨_, rfl, ?_⟩
    conv => whnf
    apply rep_mkX2 (C := A.c_TooMany) (n := "what") (m := "limit") hW h_a h_b
    intro p166 H169 e168 h167
    replace h_a := rep_ext e168 h_a
    replace h_b := rep_ext e168 h_b
    replace h2 := rep_ext e168 h2
    replace h6 := rep_ext e168 h6
    replace h10 := rep_ext e168 h10
    replace h14 := rep_ext e168 h14
    replace h18 := rep_ext e168 h18
    replace h27 := rep_ext e168 h27
    replace h31 := rep_ext e168 h31
    replace h35 := rep_ext e168 h35
    replace h39 := rep_ext e168 h39
    replace h43 := rep_ext e168 h43
    replace h49 := rep_ext e168 h49
    replace h60 := rep_ext e168 h60
    replace h64 := rep_ext e168 h64
    replace h68 := rep_ext e168 h68
    replace h72 := rep_ext e168 h72
    replace h76 := rep_ext e168 h76
    replace h82 := rep_ext e168 h82
    replace h93 := rep_ext e168 h93
    replace h97 := rep_ext e168 h97
    replace h101 := rep_ext e168 h101
    replace h105 := rep_ext e168 h105
    replace h109 := rep_ext e168 h109
    replace h115 := rep_ext e168 h115
    replace h126 := rep_ext e168 h126
    replace h130 := rep_ext e168 h130
    replace h134 := rep_ext e168 h134
    replace h138 := rep_ext e168 h138
    replace h142 := rep_ext e168 h142
    replace h148 := rep_ext e168 h148
    replace h159 := rep_ext e168 h159
    replace h163 := rep_ext e168 h163
    replace mu24 := mo_ext e168 mu24
    replace hW := hW.ret0 e168
    replace h167 : rep (L21 :: ms) H169 (eX A ((27, [x_b, x_a]) : Nat × List D)) (.ref p166) := h167
    conv => whnf
    apply rep_mkXK0 (C := A.c_NoRound)  hW 
    intro p170 H173 e172 h171
    replace h_a := rep_ext e172 h_a
    replace h_b := rep_ext e172 h_b
    replace h2 := rep_ext e172 h2
    replace h6 := rep_ext e172 h6
    replace h10 := rep_ext e172 h10
    replace h14 := rep_ext e172 h14
    replace h18 := rep_ext e172 h18
    replace h27 := rep_ext e172 h27
    replace h31 := rep_ext e172 h31
    replace h35 := rep_ext e172 h35
    replace h39 := rep_ext e172 h39
    replace h43 := rep_ext e172 h43
    replace h49 := rep_ext e172 h49
    replace h60 := rep_ext e172 h60
    replace h64 := rep_ext e172 h64
    replace h68 := rep_ext e172 h68
    replace h72 := rep_ext e172 h72
    replace h76 := rep_ext e172 h76
    replace h82 := rep_ext e172 h82
    replace h93 := rep_ext e172 h93
    replace h97 := rep_ext e172 h97
    replace h101 := rep_ext e172 h101
    replace h105 := rep_ext e172 h105
    replace h109 := rep_ext e172 h109
    replace h115 := rep_ext e172 h115
    replace h126 := rep_ext e172 h126
    replace h130 := rep_ext e172 h130
    replace h134 := rep_ext e172 h134
    replace h138 := rep_ext e172 h138
    replace h142 := rep_ext e172 h142
    replace h148 := rep_ext e172 h148
    replace h159 := rep_ext e172 h159
    replace h163 := rep_ext e172 h163
    replace h167 := rep_ext e172 h167
    replace mu24 := mo_ext e172 mu24
    replace hW := hW.ret0 e172
    replace h171 : rep (L21 :: ms) H173 (eX A ((28, []) : Nat × List D)) (.ref p170) := h171
    conv => whnf
    apply rep_mkXK0 (C := A.c_NothingToUndo)  hW 
    intro p174 H177 e176 h175
    replace h_a := rep_ext e176 h_a
    replace h_b := rep_ext e176 h_b
    replace h2 := rep_ext e176 h2
    replace h6 := rep_ext e176 h6
    replace h10 := rep_ext e176 h10
    replace h14 := rep_ext e176 h14
    replace h18 := rep_ext e176 h18
    replace h27 := rep_ext e176 h27
    replace h31 := rep_ext e176 h31
    replace h35 := rep_ext e176 h35
    replace h39 := rep_ext e176 h39
    replace h43 := rep_ext e176 h43
    replace h49 := rep_ext e176 h49
    replace h60 := rep_ext e176 h60
    replace h64 := rep_ext e176 h64
    replace h68 := rep_ext e176 h68
    replace h72 := rep_ext e176 h72
    replace h76 := rep_ext e176 h76
    replace h82 := rep_ext e176 h82
    replace h93 := rep_ext e176 h93
    replace h97 := rep_ext e176 h97
    replace h101 := rep_ext e176 h101
    replace h105 := rep_ext e176 h105
    replace h109 := rep_ext e176 h109
    replace h115 := rep_ext e176 h115
    replace h126 := rep_ext e176 h126
    replace h130 := rep_ext e176 h130
    replace h134 := rep_ext e176 h134
    replace h138 := rep_ext e176 h138
    replace h142 := rep_ext e176 h142
    replace h148 := rep_ext e176 h148
    replace h159 := rep_ext e176 h159
    replace h163 := rep_ext e176 h163
    replace h167 := rep_ext e176 h167
    replace h171 := rep_ext e176 h171
    replace mu24 := mo_ext e176 mu24
    replace hW := hW.ret0 e176
    replace h175 : rep (L21 :: ms) H177 (eX A ((29, []) : Nat × List D)) (.ref p174) := h175
    refine ⟨(by show 5 ≤ sizeLine; decide), ?_⟩
    intro p178 n182
    have e179 := Rx.Ext.new (H := H177) (o := (HO.lst [(V.ref p158), (V.ref p162), (V.ref p166), (V.ref p170), (V.ref p174)])) n182
    have hp180 : upd H177 p178 (HO.lst [(V.ref p158), (V.ref p162), (V.ref p166), (V.ref p170), (V.ref p174)]) p178 = some (HO.lst [(V.ref p158), (V.ref p162), (V.ref p166), (V.ref p170), (V.ref p174)]) := upd_same
    generalize upd H177 p178 (HO.lst [(V.ref p158), (V.ref p162), (V.ref p166), (V.ref p170), (V.ref p174)]) = H183 at e179 hp180 ⊢
    have h181 : rep (L21 :: ms) H183 (D.lst (([((25, [x_b, x_a]) : Nat × List D), ((26, [x_b, x_a]) : Nat × List D), ((27, [x_b, x_a]) : Nat × List D), ((28, []) : Nat × List D), ((29, []) : Nat × List D)] : List (Nat × List D)).map (fun y_ : (Nat × List D) => (eX A y_)))) (.ref p178) := rep_lst_mk hW n182 e179 hp180 (repL_cons h159 (repL_cons h163 (repL_cons h167 (repL_cons h171 (repL_cons h175 repL_nil)))))
    replace h_a := rep_ext e179 h_a
    replace h_b := rep_ext e179 h_b
    replace h2 := rep_ext e179 h2
    replace h6 := rep_ext e179 h6
    replace h10 := rep_ext e179 h10
    replace h14 := rep_ext e179 h14
    replace h18 := rep_ext e179 h18
    replace h27 := rep_ext e179 h27
    replace h31 := rep_ext e179 h31
    replace h35 := rep_ext e179 h35
    replace h39 := rep_ext e179 h39
    replace h43 := rep_ext e179 h43
    replace h49 := rep_ext e179 h49
    replace h60 := rep_ext e179 h60
    replace h64 := rep_ext e179 h64
    replace h68 := rep_ext e179 h68
    replace h72 := rep_ext e179 h72
    replace h76 := rep_ext e179 h76
    replace h82 := rep_ext e179 h82
    replace h93 := rep_ext e179 h93
    replace h97 := rep_ext e179 h97
    replace h101 := rep_ext e179 h101
    replace h105 := rep_ext e179 h105
    replace h109 := rep_ext e179 h109
    replace h115 := rep_ext e179 h115
    replace h126 := rep_ext e179 h126
    replace h130 := rep_ext e179 h130
    replace h134 := rep_ext e179 h134
    replace h138 := rep_ext e179 h138
    replace h142 := rep_ext e179 h142
    replace h148 := rep_ext e179 h148
    replace h159 := rep_ext e179 h159
    replace h163 := rep_ext e179 h163
    replace h167 := rep_ext e179 h167
    replace h171 := rep_ext e179 h171
    replace h175 := rep_ext e179 h175
    replace mu24 := mo_ext e179 mu24
    replace hW := hW.ret0 e179
    obtain ⟨g184, hM⟩ := hM
    apply mo_extU (e := (fun y_ : (Nat × List D) => (eX A y_))) (ys := ([((25, [x_b, x_a]) : Nat × List D), ((26, [x_b, x_a]) : Nat × List D), ((27, [x_b, x_a]) : Nat × List D), ((28, []) : Nat × List D), ((29, []) : Nat × List D)] : List (Nat × List D))) mu24 h181 (by rw [List.length_map]; exact g184)
    intro vs185 us186 hr187 hr188
    have mk189 := mo_setL mu24 (repL_cat (e := (fun y_ : (Nat × List D) => (eX A y_))) (xs := ((((([((0, [x_a]) : Nat × List D), ((1, [x_a]) : Nat × List D), ((2, [x_a]) : Nat × List D), ((3, [x_a]) : Nat × List D), ((4, [x_a]) : Nat × List D)] : List (Nat × List D)) ++ ([((5, [x_a]) : Nat × List D), ((6, [x_a]) : Nat × List D), ((7, [x_a]) : Nat × List D), ((8, [x_a]) : Nat × List D), ((9, [x_a]) : Nat × List D)] : List (Nat × List D))) ++ ([((10, [x_a]) : Nat × List D), ((11, [x_a]) : Nat × List D), ((12, [x_a]) : Nat × List D), ((13, [x_a]) : Nat × List D), ((14, [x_a]) : Nat × List D)] : List (Nat × List D))) ++ ([((15, [x_a]) : Nat × List D), ((16, [x_a]) : Nat × List D), ((17, [x_a]) : Nat × List D), ((18, [x_a]) : Nat × List D), ((19, [x_a]) : Nat × List D)] : List (Nat × List D))) ++ ([((20, [x_a]) : Nat × List D), ((21, [x_a]) : Nat × List D), ((22, [x_a]) : Nat × List D), ((23, [x_a]) : Nat × List D), ((24, [x_b, x_a]) : Nat × List D)] : List (Nat × List D)))) (ys := ([((25, [x_b, x_a]) : Nat × List D), ((26, [x_b, x_a]) : Nat × List D), ((27, [x_b, x_a]) : Nat × List D), ((28, []) : Nat × List D), ((29, []) : Nat × List D)] : List (Nat × List D))) hr187 hr188)
    replace h_a := rep_put (o := .lst (vs185 ++ us186)) mu24.im h_a
    replace h_b := rep_put (o := .lst (vs185 ++ us186)) mu24.im h_b
    replace h2 := rep_put (o := .lst (vs185 ++ us186)) mu24.im h2
    replace h6 := rep_put (o := .lst (vs185 ++ us186)) mu24.im h6
    replace h10 := rep_put (o := .lst (vs185 ++ us186)) mu24.im h10
    replace h14 := rep_put (o := .lst (vs185 ++ us186)) mu24.im h14
    replace h18 := rep_put (o := .lst (vs185 ++ us186)) mu24.im h18
    replace h27 := rep_put (o := .lst (vs185 ++ us186)) mu24.im h27
    replace h31 := rep_put (o := .lst (vs185 ++ us186)) mu24.im h31
    replace h35 := rep_put (o := .lst (vs185 ++ us186)) mu24.im h35
    replace h39 := rep_put (o := .lst (vs185 ++ us186)) mu24.im h39
    replace h43 := rep_put (o := .lst (vs185 ++ us186)) mu24.im h43
    replace h49 := rep_put (o := .lst (vs185 ++ us186)) mu24.im h49
    replace h60 := rep_put (o := .lst (vs185 ++ us186)) mu24.im h60
    replace h64 := rep_put (o := .lst (vs185 ++ us186)) mu24.im h64
    replace h68 := rep_put (o := .lst (vs185 ++ us186)) mu24.im h68
    replace h72 := rep_put (o := .lst (vs185 ++ us186)) mu24.im h72
    replace h76 := rep_put (o := .lst (vs185 ++ us186)) mu24.im h76
    replace h82 := rep_put (o := .lst (vs185 ++ us186)) mu24.im h82
    replace h93 := rep_put (o := .lst (vs185 ++ us186)) mu24.im h93
    replace h97 := rep_put (o := .lst (vs185 ++ us186)) mu24.im h97
    replace h101 := rep_put (o := .lst (vs185 ++ us186)) mu24.im h101
    replace h105 := rep_put (o := .lst (vs185 ++ us186)) mu24.im h105
    replace h109 := rep_put (o := .lst (vs185 ++ us186)) mu24.im h109
    replace h115 := rep_put (o := .lst (vs185 ++ us186)) mu24.im h115
    replace h126 := rep_put (o := .lst (vs185 ++ us186)) mu24.im h126
    replace h130 := rep_put (o := .lst (vs185 ++ us186)) mu24.im h130
    replace h134 := rep_put (o := .lst (vs185 ++ us186)) mu24.im h134
    replace h138 := rep_put (o := .lst (vs185 ++ us186)) mu24.im h138
    replace h142 := rep_put (o := .lst (vs185 ++ us186)) mu24.im h142
    replace h148 := rep_put (o := .lst (vs185 ++ us186)) mu24.im h148
    replace h159 := rep_put (o := .lst (vs185 ++ us186)) mu24.im h159
    replace h163 := rep_put (o := .lst (vs185 ++ us186)) mu24.im h163
    replace h167 := rep_put (o := .lst (vs185 ++ us186)) mu24.im h167
    replace h171 := rep_put (o := .lst (vs185 ++ us186)) mu24.im h171
    replace h175 := rep_put (o := .lst (vs185 ++ us186)) mu24.im h175
    replace h181 := rep_put (o := .lst (vs185 ++ us186)) mu24.im h181
    replace hW := wd_put (o := .lst (vs185 ++ us186)) hW mu24
    replace mu24 := mk189
    generalize upd H183 L21 (.lst (vs185 ++ us186)) = H190 at *
    replace mu24 : MutO (L21 :: ms) [] H_0 H190 L21 (D.lst ((((((([((0, [x_a]) : Nat × List D), ((1, [x_a]) : Nat × List D), ((2, [x_a]) : Nat × List D), ((3, [x_a]) : Nat × List D), ((4, [x_a]) : Nat × List D)] : List (Nat × List D)) ++ ([((5, [x_a]) : Nat × List D), ((6, [x_a]) : Nat × List D), ((7, [x_a]) : Nat × List D), ((8, [x_a]) : Nat × List D), ((9, [x_a]) : Nat × List D)] : List (Nat × List D))) ++ ([((10, [x_a]) : Nat × List D), ((11, [x_a]) : Nat × List D), ((12, [x_a]) : Nat × List D), ((13, [x_a]) : Nat × List D), ((14, [x_a]) : Nat × List D)] : List (Nat × List D))) ++ ([((15, [x_a]) : Nat × List D), ((16, [x_a]) : Nat × List D), ((17, [x_a]) : Nat × List D), ((18, [x_a]) : Nat × List D), ((19, [x_a]) : Nat × List D)] : List (Nat × List D))) ++ ([((20, [x_a]) : Nat × List D), ((21, [x_a]) : Nat × List D), ((22, [x_a]) : Nat × List D), ((23, [x_a]) : Nat × List D), ((24, [x_b, x_a]) : Nat × List D)] : List (Nat × List D))) ++ ([((25, [x_b, x_a]) : Nat × List D), ((26, [x_b, x_a]) : Nat × List D), ((27, [x_b, x_a]) : Nat × List D), ((28, []) : Nat × List D), ((29, []) : Nat × List D)] : List (Nat × List D))).map (fun y_ : (Nat × List D) => (eX A y_)))) := mu24
    clear mk189
    have h191 := mo_rep_dr dr_here nm23 mu24
    replace hW := wd_dr dr_here mu24.hp hW
    replace h_a := rep_dr dr_here h_a
    replace h_b := rep_dr dr_here h_b
    replace h2 := rep_dr dr_here h2
    replace h6 := rep_dr dr_here h6
    replace h10 := rep_dr dr_here h10
    replace h14 := rep_dr dr_here h14
    replace h18 := rep_dr dr_here h18
    replace h27 := rep_dr dr_here h27
    replace h31 := rep_dr dr_here h31
    replace h35 := rep_dr dr_here h35
    replace h39 := rep_dr dr_here h39
    replace h43 := rep_dr dr_here h43
    replace h49 := rep_dr dr_here h49
    replace h60 := rep_dr dr_here h60
    replace h64 := rep_dr dr_here h64
    replace h68 := rep_dr dr_here h68
    replace h72 := rep_dr dr_here h72
    replace h76 := rep_dr dr_here h76
    replace h82 := rep_dr dr_here h82
    replace h93 := rep_dr dr_here h93
    replace h97 := rep_dr dr_here h97
    replace h101 := rep_dr dr_here h101
    replace h105 := rep_dr dr_here h105
    replace h109 := rep_dr dr_here h109
    replace h115 := rep_dr dr_here h115
    replace h126 := rep_dr dr_here h126
    replace h130 := rep_dr dr_here h130
    replace h134 := rep_dr dr_here h134
    replace h138 := rep_dr dr_here h138
    replace h142 := rep_dr dr_here h142
    replace h148 := rep_dr dr_here h148
    replace h159 := rep_dr dr_here h159
    replace h163 := rep_dr dr_here h163
    replace h167 := rep_dr dr_here h167
    replace h171 := rep_dr dr_here h171
    replace h175 := rep_dr dr_here h175
    replace h181 := rep_dr dr_here h181
    clear mu24
    refine ⟨_, rfl, ?_⟩
    exact hQ (((((([((0, [x_a]) : Nat × List D), ((1, [x_a]) : Nat × List D), ((2, [x_a]) : Nat × List D), ((3, [x_a]) : Nat × List D), ((4, [x_a]) : Nat × List D)] : List (Nat × List D)) ++ ([((5, [x_a]) : Nat × List D), ((6, [x_a]) : Nat × List D), ((7, [x_a]) : Nat × List D), ((8, [x_a]) : Nat × List D), ((9, [x_a]) : Nat × List D)] : List (Nat × List D))) ++ ([((10, [x_a]) : Nat × List D), ((11, [x_a]) : Nat × List D), ((12, [x_a]) : Nat × List D), ((13, [x_a]) : Nat × List D), ((14, [x_a]) : Nat × List D)] : List (Nat × List D))) ++ ([((15, [x_a]) : Nat × List D), ((16, [x_a]) : Nat × List D), ((17, [x_a]) : Nat × List D), ((18, [x_a]) : Nat × List D), ((19, [x_a]) : Nat × List D)] : List (Nat × List D))) ++ ([((20, [x_a]) : Nat × List D), ((21, [x_a]) : Nat × List D), ((22, [x_a]) : Nat × List D), ((23, [x_a]) : Nat × List D), ((24, [x_b, x_a]) : Nat × List D)] : List (Nat × List D))) ++ ([((25, [x_b, x_a]) : Nat × List D), ((26, [x_b, x_a]) : Nat × List D), ((27, [x_b, x_a]) : Nat × List D), ((28, []) : Nat × List D), ((29, []) : Nat × List D)] : List (Nat × List D))) _ _ hM hW.out h191
def M_named (x_a : D) (x_b : D) (KM : (List (Nat × List D)) → Prop) : Prop :=
  (([((0, [x_a]) : Nat × List D), ((1, [x_a]) : Nat × List D), ((2, [x_a]) : Nat × List D), ((3, [x_a]) : Nat × List D)] : List (Nat × List D)).length + ([((4, [x_a]) : Nat × List D), ((5, [x_a]) : Nat × List D), ((6, [x_a]) : Nat × List D), ((7, [x_a]) : Nat × List D)] : List (Nat × List D)).length ≤ 16777216 ∧ ((([((0, [x_a]) : Nat × List D), ((1, [x_a]) : Nat × List D), ((2, [x_a]) : Nat × List D), ((3, [x_a]) : Nat × List D)] : List (Nat × List D)) ++ ([((4, [x_a]) : Nat × List D), ((5, [x_a]) : Nat × List D), ((6, [x_a]) : Nat × List D), ((7, [x_a]) : Nat × List D)] : List (Nat × List D))).length + ([((8, [x_a]) : Nat × List D), ((9, [x_a]) : Nat × List D), ((10, [x_a]) : Nat × List D), ((11, [x_a]) : Nat × List D)] : List (Nat × List D)).length ≤ 16777216 ∧ (((([((0, [x_a]) : Nat × List D), ((1, [x_a]) : Nat × List D), ((2, [x_a]) : Nat × List D), ((3, [x_a]) : Nat × List D)] : List (Nat × List D)) ++ ([((4, [x_a]) : Nat × List D), ((5, [x_a]) : Nat × List D), ((6, [x_a]) : Nat × List D), ((7, [x_a]) : Nat × List D)] : List (Nat × List D))) ++ ([((8, [x_a]) : Nat × List D), ((9, [x_a]) : Nat × List D), ((10, [x_a]) : Nat × List D), ((11, [x_a]) : Nat × List D)] : List (Nat × List D))).length + ([((12, [x_a]) : Nat × List D), ((13, [x_a]) : Nat × List D), ((14, [x_a]) : Nat × List D)] : List (Nat × List D)).length ≤ 16777216 ∧ ((((([((0, [x_a]) : Nat × List D), ((1, [x_a]) : Nat × List D), ((2, [x_a]) : Nat × List D), ((3, [x_a]) : Nat × List D)] : List (Nat × List D)) ++ ([((4, [x_a]) : Nat × List D), ((5, [x_a]) : Nat × List D), ((6, [x_a]) : Nat × List D), ((7, [x_a]) : Nat × List D)] : List (Nat × List D))) ++ ([((8, [x_a]) : Nat × List D), ((9, [x_a]) : Nat × List D), ((10, [x_a]) : Nat × List D), ((11, [x_a]) : Nat × List D)] : List (Nat × List D))) ++ ([((12, [x_a]) : Nat × List D), ((13, [x_a]) : Nat × List D), ((14, [x_a]) : Nat × List D)] : List (Nat × List D))).length + ([((15, [x_a]) : Nat × List D), ((16, [x_a]) : Nat × List D), ((17, [x_a]) : Nat × List D)] : List (Nat × List D)).length ≤ 16777216 ∧ (((((([((0, [x_a]) : Nat × List D), ((1, [x_a]) : Nat × List D), ((2, [x_a]) : Nat × List D), ((3, [x_a]) : Nat × List D)] : List (Nat × List D)) ++ ([((4, [x_a]) : Nat × List D), ((5, [x_a]) : Nat × List D), ((6, [x_a]) : Nat × List D), ((7, [x_a]) : Nat × List D)] : List (Nat × List D))) ++ ([((8, [x_a]) : Nat × List D), ((9, [x_a]) : Nat × List D), ((10, [x_a]) : Nat × List D), ((11, [x_a]) : Nat × List D)] : List (Nat × List D))) ++ ([((12, [x_a]) : Nat × List D), ((13, [x_a]) : Nat × List D), ((14, [x_a]) : Nat × List D)] : List (Nat × List D))) ++ ([((15, [x_a]) : Nat × List D), ((16, [x_a]) : Nat × List D), ((17, [x_a]) : Nat × List D)] : List (Nat × List D))).length + ([((18, [x_a]) : Nat × List D), ((19, [x_a]) : Nat × List D), ((20, [x_a]) : Nat × List D), ((21, [x_a]) : Nat × List D)] : List (Nat × List D)).length ≤ 16777216 ∧ ((((((([((0, [x_a]) : Nat × List D), ((1, [x_a]) : Nat × List D), ((2, [x_a]) : Nat × List D), ((3, [x_a]) : Nat × List D)] : List (Nat × List D)) ++ ([((4, [x_a]) : Nat × List D), ((5, [x_a]) : Nat × List D), ((6, [x_a]) : Nat × List D), ((7, [x_a]) : Nat × List D)] : List (Nat × List D))) ++ ([((8, [x_a]) : Nat × List D), ((9, [x_a]) : Nat × List D), ((10, [x_a]) : Nat × List D), ((11, [x_a]) : Nat × List D)] : List (Nat × List D))) ++ ([((12, [x_a]) : Nat × List D), ((13, [x_a]) : Nat × List D), ((14, [x_a]) : Nat × List D)] : List (Nat × List D))) ++ ([((15, [x_a]) : Nat × List D), ((16, [x_a]) : Nat × List D), ((17, [x_a]) : Nat × List D)] : List (Nat × List D))) ++ ([((18, [x_a]) : Nat × List D), ((19, [x_a]) : Nat × List D), ((20, [x_a]) : Nat × List D), ((21, [x_a]) : Nat × List D)] : List (Nat × List D))).length + ([((22, [x_a]) : Nat × List D), ((23, [x_a]) : Nat × List D), ((24, [x_b, x_a]) : Nat × List D)] : List (Nat × List D)).length ≤ 16777216 ∧ (((((((([((0, [x_a]) : Nat × List D), ((1, [x_a]) : Nat × List D), ((2, [x_a]) : Nat × List D), ((3, [x_a]) : Nat × List D)] : List (Nat × List D)) ++ ([((4, [x_a]) : Nat × List D), ((5, [x_a]) : Nat × List D), ((6, [x_a]) : Nat × List D), ((7, [x_a]) : Nat × List D)] : List (Nat × List D))) ++ ([((8, [x_a]) : Nat × List D), ((9, [x_a]) : Nat × List D), ((10, [x_a]) : Nat × List D), ((11, [x_a]) : Nat × List D)] : List (Nat × List D))) ++ ([((12, [x_a]) : Nat × List D), ((13, [x_a]) : Nat × List D), ((14, [x_a]) : Nat × List D)] : List (Nat × List D))) ++ ([((15, [x_a]) : Nat × List D), ((16, [x_a]) : Nat × List D), ((17, [x_a]) : Nat × List D)] : List (Nat × List D))) ++ ([((18, [x_a]) : Nat × List D), ((19, [x_a]) : Nat × List D), ((20, [x_a]) : Nat × List D), ((21, [x_a]) : Nat × List D)] : List (Nat × List D))) ++ ([((22, [x_a]) : Nat × List D), ((23, [x_a]) : Nat × List D), ((24, [x_b, x_a]) : Nat × List D)] : List (Nat × List D))).length + ([((25, [x_b, x_a]) : Nat × List D), ((26, [x_b, x_a]) : Nat × List D), ((27, [x_b, x_a]) : Nat × List D)] : List (Nat × List D)).length ≤ 16777216 ∧ ((((((((([((0, [x_a]) : Nat × List D), ((1, [x_a]) : Nat × List D), ((2, [x_a]) : Nat × List D), ((3, [x_a]) : Nat × List D)] : List (Nat × List D)) ++ ([((4, [x_a]) : Nat × List D), ((5, [x_a]) : Nat × List D), ((6, [x_a]) : Nat × List D), ((7, [x_a]) : Nat × List D)] : List (Nat × List D))) ++ ([((8, [x_a]) : Nat × List D), ((9, [x_a]) : Nat × List D), ((10, [x_a]) : Nat × List D), ((11, [x_a]) : Nat × List D)] : List (Nat × List D))) ++ ([((12, [x_a]) : Nat × List D), ((13, [x_a]) : Nat × List D), ((14, [x_a]) : Nat × List D)] : List (Nat × List D))) ++ ([((15, [x_a]) : Nat × List D), ((16, [x_a]) : Nat × List D), ((17, [x_a]) : Nat × List D)] : List (Nat × List D))) ++ ([((18, [x_a]) : Nat × List D), ((19, [x_a]) : Nat × List D), ((20, [x_a]) : Nat × List D), ((21, [x_a]) : Nat × List D)] : List (Nat × List D))) ++ ([((22, [x_a]) : Nat × List D), ((23, [x_a]) : Nat × List D), ((24, [x_b, x_a]) : Nat × List D)] : List (Nat × List D))) ++ ([((25, [x_b, x_a]) : Nat × List D), ((26, [x_b, x_a]) : Nat × List D), ((27, [x_b, x_a]) : Nat × List D)] : List (Nat × List D))).length + ([((28, []) : Nat × List D), ((29, []) : Nat × List D)] : List (Nat × List D)).length ≤ sizeLine ∧ (KM ((((((((([((0, [x_a]) : Nat × List D), ((1, [x_a]) : Nat × List D), ((2, [x_a]) : Nat × List D), ((3, [x_a]) : Nat × List D)] : List (Nat × List D)) ++ ([((4, [x_a]) : Nat × List D), ((5, [x_a]) : Nat × List D), ((6, [x_a]) : Nat × List D), ((7, [x_a]) : Nat × List D)] : List (Nat × List D))) ++ ([((8, [x_a]) : Nat × List D), ((9, [x_a]) : Nat × List D), ((10, [x_a]) : Nat × List D), ((11, [x_a]) : Nat × List D)] : List (Nat × List D))) ++ ([((12, [x_a]) : Nat × List D), ((13, [x_a]) : Nat × List D), ((14, [x_a]) : Nat × List D)] : List (Nat × List D))) ++ ([((15, [x_a]) : Nat × List D), ((16, [x_a]) : Nat × List D), ((17, [x_a]) : Nat × List D)] : List (Nat × List D))) ++ ([((18, [x_a]) : Nat × List D), ((19, [x_a]) : Nat × List D), ((20, [x_a]) : Nat × List D), ((21, [x_a]) : Nat × List D)] : List (Nat × List D))) ++ ([((22, [x_a]) : Nat × List D), ((23, [x_a]) : Nat × List D), ((24, [x_b, x_a]) : Nat × List D)] : List (Nat × List D))) ++ ([((25, [x_b, x_a]) : Nat × List D), ((26, [x_b, x_a]) : Nat × List D), ((27, [x_b, x_a]) : Nat × List D)] : List (Nat × List D))) ++ ([((28, []) : Nat × List D), ((29, []) : Nat × List D)] : List (Nat × List D))))))))))))
def sp_named (A : Ad) : Sp := fun vs H Q _ => ∃ (ms : List Addr) (v_a : V) (v_b : V) (x_a : D) (x_b : D) (KM : (List (Nat × List D)) → Prop), vs = [v_a, v_b] ∧ Wd ms [] [] H H ∧ rep ms H x_a v_a ∧ rep ms H x_b v_b ∧ M_named x_a x_b KM ∧ ∀ (r : (List (Nat × List D))) (u : V) (H1 : Hp), KM r → Ret [] H H1 → rep ms H1 (D.lst (r.map (fun y_ : (Nat × List D) => (eX A y_)))) u → Q u H1
set_option maxHeartbeats 16000000 in
theorem ok_named {P : Program} {w : World} {K : PySem.W.Frag} {mg : Str → Option Value} {base : Heap} {A : Ad} (T : Txt w K mg A) : FnOk P w K mg base CX0 3 A.a_named A.d_named ["_law_a", "_law_b"] (sp_named A) := by
  refine T.F_named.ok sc_named (fun vs H Q E h => ?_) (fun cdv A_ outer s_ H_0 vs Q E hr h => ?_)
  · obtain ⟨ms, v_a, v_b, x_a, x_b, KM, rfl, _⟩ := h
    rfl
  · obtain ⟨ms, v_a, v_b, x_a, x_b, KM, rfl, hW, h_a, h_b, hM, hQ⟩ := h
    unfold M_named at hM
    refine ⟨_, (pss_cons (ps_set (i := 2) sc_named.nd rfl (by first | exact Or.inl rfl | exact Or.inr rfl) (pe_lst (pa_cons (pe_mkXK T.ox_InvalidFirst T.ii_InvalidFirst T.ti_InvalidFirst (ok_InvalidFirst_init T) (hr.mono (by decide)) T.k_InvalidFirst_init_value pass0 (by rfl) T.g_InvalidFirst (pk_cons (pv 0) pk_nil)) (pa_cons (pe_mkXK T.ox_InvalidNumber T.ii_InvalidNumber T.ti_InvalidNumber (ok_InvalidNumber_init T) (hr.mono (by decide)) T.k_InvalidNumber_init_value pass0 (by rfl) T.g_InvalidNumber (pk_cons (pv 0) pk_nil)) (pa_cons (pe_mkXK T.ox_InvalidPlace T.ii_InvalidPlace T.ti_InvalidPlace (ok_InvalidPlace_init T) (hr.mono (by decide)) T.k_InvalidPlace_init_value pass0 (by rfl) T.g_InvalidPlace (pk_cons (pv 0) pk_nil)) (pa_cons (pe_mkXK T.ox_InvalidMarks T.ii_InvalidMarks T.ti_InvalidMarks (ok_InvalidMarks_init T) (hr.mono (by decide)) T.k_InvalidMarks_init_value pass0 (by rfl) T.g_InvalidMarks (pk_cons (pv 0) pk_nil)) pa_nil)))))) (pss_cons (ps_expr (pe_bmK (K := K) rfl PySem.F.plainAttrs_list PySem.F.slot_list_extend PySem.F.type_list_extend mt_extend (pv 2) (pa_cons (pe_lst (pa_cons (pe_mkXK T.ox_InvalidStep T.ii_InvalidStep T.ti_InvalidStep (ok_InvalidStep_init T) (hr.mono (by decide)) T.k_InvalidStep_init_value pass0 (by rfl) T.g_InvalidStep (pk_cons (pv 0) pk_nil)) (pa_cons (pe_mkXK T.ox_InvalidStander T.ii_InvalidStander T.ti_InvalidStander (ok_InvalidStander_init T) (hr.mono (by decide)) T.k_InvalidStander_init_value pass0 (by rfl) T.g_InvalidStander (pk_cons (pv 0) pk_nil)) (pa_cons (pe_mkXK T.ox_InvalidTurned T.ii_InvalidTurned T.ti_InvalidTurned (ok_InvalidTurned_init T) (hr.mono (by decide)) T.k_InvalidTurned_init_value pass0 (by rfl) T.g_InvalidTurned (pk_cons (pv 0) pk_nil)) (pa_cons (pe_mkXK T.ox_InvalidSize T.ii_InvalidSize T.ti_InvalidSize (ok_InvalidSize_init T) (hr.mono (by decide)) T.k_InvalidSize_init_value pass0 (by rfl) T.g_InvalidSize (pk_cons (pv 0) pk_nil)) pa_nil))))) pa_nil))) (pss_cons (ps_expr (pe_bmK (K := K) rfl PySem.F.plainAttrs_list PySem.F.slot_list_extend PySem.F.type_list_extend mt_extend (pv 2) (pa_cons (pe_lst (pa_cons (pe_mkXK T.ox_InvalidTeam T.ii_InvalidTeam T.ti_InvalidTeam (ok_InvalidTeam_init T) (hr.mono (by decide)) T.k_InvalidTeam_init_value pass0 (by rfl) T.g_InvalidTeam (pk_cons (pv 0) pk_nil)) (pa_cons (pe_mkXK T.ox_InvalidRound T.ii_InvalidRound T.ti_InvalidRound (ok_InvalidRound_init T) (hr.mono (by decide)) T.k_InvalidRound_init_value pass0 (by rfl) T.g_InvalidRound (pk_cons (pv 0) pk_nil)) (pa_cons (pe_mkXK T.ox_InvalidCount T.ii_InvalidCount T.ti_InvalidCount (ok_InvalidCount_init T) (hr.mono (by decide)) T.k_InvalidCount_init_value pass0 (by rfl) T.g_InvalidCount (pk_cons (pv 0) pk_nil)) (pa_cons (pe_mkXK T.ox_InvalidClaim T.ii_InvalidClaim T.ti_InvalidClaim (ok_InvalidClaim_init T) (hr.mono (by decide)) T.k_InvalidClaim_init_value pass0 (by rfl) T.g_InvalidClaim (pk_cons (pv 0) pk_nil)) pa_nil))))) pa_nil))) (pss_cons (ps_expr (pe_bmK (K := K) rfl PySem.F.plainAttrs_list PySem.F.slot_list_extend PySem.F.type_list_extend mt_extend (pv 2) (pa_cons (pe_lst (pa_cons (pe_mkXK T.ox_InvalidCommand T.ii_InvalidCommand T.ti_InvalidCommand (ok_InvalidCommand_init T) (hr.mono (by decide)) T.k_InvalidCommand_init_value pass0 (by rfl) T.g_InvalidCommand (pk_cons (pv 0) pk_nil)) (pa_cons (pe_mkXK T.ox_InvalidValues T.ii_InvalidValues T.ti_InvalidValues (ok_InvalidValues_init T) (hr.mono (by decide)) T.k_InvalidValues_init_position pass0 (by rfl) T.g_InvalidValues (pk_cons (pv 0) pk_nil)) (pa_cons (pe_mkXK T.ox_InvalidRows T.ii_InvalidRows T.ti_InvalidRows (ok_InvalidRows_init T) (hr.mono (by decide)) T.k_InvalidRows_init_position pass0 (by rfl) T.g_InvalidRows (pk_cons (pv 0) pk_nil)) pa_nil)))) pa_nil))) (pss_cons (ps_expr (pe_bmK (K := K) rfl PySem.F.plainAttrs_list PySem.F.slot_list_extend PySem.F.type_list_extend mt_extend (pv 2) (pa_cons (pe_lst (pa_cons (pe_mkXK T.ox_InvalidRounds T.ii_InvalidRounds T.ti_InvalidRounds (ok_InvalidRounds_init T) (hr.mono (by decide)) T.k_InvalidRounds_init_position pass0 (by rfl) T.g_InvalidRounds (pk_cons (pv 0) pk_nil)) (pa_cons (pe_mkXK T.ox_InvalidCells T.ii_InvalidCells T.ti_InvalidCells (ok_InvalidCells_init T) (hr.mono (by decide)) T.k_InvalidCells_init_position pass0 (by rfl) T.g_InvalidCells (pk_cons (pv 0) pk_nil)) (pa_cons (pe_mkXK T.ox_InvalidLegs T.ii_InvalidLegs T.ti_InvalidLegs (ok_InvalidLegs_init T) (hr.mono (by decide)) T.k_InvalidLegs_init_position pass0 (by rfl) T.g_InvalidLegs (pk_cons (pv 0) pk_nil)) pa_nil)))) pa_nil))) (pss_cons (ps_expr (pe_bmK (K := K) rfl PySem.F.plainAttrs_list PySem.F.slot_list_extend PySem.F.type_list_extend mt_extend (pv 2) (pa_cons (pe_lst (pa_cons (pe_mkXK T.ox_InvalidLot T.ii_InvalidLot T.ti_InvalidLot (ok_InvalidLot_init T) (hr.mono (by decide)) T.k_InvalidLot_init_position pass0 (by rfl) T.g_InvalidLot (pk_cons (pv 0) pk_nil)) (pa_cons (pe_mkXK T.ox_InvalidFixed T.ii_InvalidFixed T.ti_InvalidFixed (ok_InvalidFixed_init T) (hr.mono (by decide)) T.k_InvalidFixed_init_position pass0 (by rfl) T.g_InvalidFixed (pk_cons (pv 0) pk_nil)) (pa_cons (pe_mkXK T.ox_InvalidGauge T.ii_InvalidGauge T.ti_InvalidGauge (ok_InvalidGauge_init T) (hr.mono (by decide)) T.k_InvalidGauge_init_position pass0 (by rfl) T.g_InvalidGauge (pk_cons (pv 0) pk_nil)) (pa_cons (pe_mkXK T.ox_InvalidText T.ii_InvalidText T.ti_InvalidText (ok_InvalidText_init T) (hr.mono (by decide)) T.k_InvalidText_init_line pass0 (by rfl) T.g_InvalidText (pk_cons (pv 0) pk_nil)) pa_nil))))) pa_nil))) (pss_cons (ps_expr (pe_bmK (K := K) rfl PySem.F.plainAttrs_list PySem.F.slot_list_extend PySem.F.type_list_extend mt_extend (pv 2) (pa_cons (pe_lst (pa_cons (pe_mkXK T.ox_CommandFailed T.ii_CommandFailed T.ti_CommandFailed (ok_CommandFailed_init T) (hr.mono (by decide)) T.k_CommandFailed_init_position pass0 (by rfl) T.g_CommandFailed (pk_cons (pv 0) pk_nil)) (pa_cons (pe_mkXK T.ox_NotRight T.ii_NotRight T.ti_NotRight (ok_NotRight_init T) (hr.mono (by decide)) T.k_NotRight_init_size pass0 (by rfl) T.g_NotRight (pk_cons (pv 0) pk_nil)) (pa_cons (pe_mkXK T.ox_NotSingle T.ii_NotSingle T.ti_NotSingle (ok_NotSingle_init T) (hr.mono (by decide)) T.k_NotSingle_init_other_one pass0 (by rfl) T.g_NotSingle (pk_cons (pv 1) (pk_cons (pv 0) pk_nil))) pa_nil)))) pa_nil))) (pss_cons (ps_expr (pe_bmK (K := K) rfl PySem.F.plainAttrs_list PySem.F.slot_list_extend PySem.F.type_list_extend mt_extend (pv 2) (pa_cons (pe_lst (pa_cons (pe_mkXK T.ox_NotOpen T.ii_NotOpen T.ti_NotOpen (ok_NotOpen_init T) (hr.mono (by decide)) T.k_NotOpen_init_away_home pass0 (by rfl) T.g_NotOpen (pk_cons (pv 1) (pk_cons (pv 0) pk_nil))) (pa_cons (pe_mkXK T.ox_Unplayed T.ii_Unplayed T.ti_Unplayed (ok_Unplayed_init T) (hr.mono (by decide)) T.k_Unplayed_init_away_home pass0 (by rfl) T.g_Unplayed (pk_cons (pv 1) (pk_cons (pv 0) pk_nil))) (pa_cons (pe_mkXK T.ox_TooMany T.ii_TooMany T.ti_TooMany (ok_TooMany_init T) (hr.mono (by decide)) T.k_TooMany_init_limit_what pass0 (by rfl) T.g_TooMany (pk_cons (pv 1) (pk_cons (pv 0) pk_nil))) pa_nil)))) pa_nil))) (pss_one (ps_ret (pe_op op_cat (pv 2) (pe_lst (pa_cons (pe_mkXK T.ox_NoRound T.ii_NoRound T.ti_NoRound (ok_NoRound_init T) (hr.mono (by decide)) T.k_NoRound_init_ pass0 (by rfl) T.g_NoRound pk_nil) (pa_cons (pe_mkXK T.ox_NothingToUndo T.ii_NothingToUndo T.ti_NothingToUndo (ok_NothingToUndo_init T) (hr.mono (by decide)) T.k_NothingToUndo_init_ pass0 (by rfl) T.g_NothingToUndo pk_nil) pa_nil)))))))))))))), ?_⟩
    refine ⟨_, rfl, ?_⟩
    conv => whnf
    apply rep_mkXK1 (C := A.c_InvalidFirst) (n := "value") (by rfl) (by intro _; rfl) hW h_a
    intro p1 H4 e3 h2
    replace h_a := rep_ext e3 h_a
    replace h_b := rep_ext e3 h_b
    replace hW := hW.ret0 e3
    replace h2 : rep ms H4 (eX A ((0, [x_a]) : Nat × List D)) (.ref p1) := h2
    refine ⟨_, rfl, ?_⟩
    conv => whnf
    apply rep_mkXK1 (C := A.c_InvalidNumber) (n := "value") (by rfl) (by intro _; rfl) hW h_a
    intro p5 H8 e7 h6
    replace h_a := rep_ext e7 h_a
    replace h_b := rep_ext e7 h_b
    replace h2 := rep_ext e7 h2
    replace hW := hW.ret0 e7
    replace h6 : rep ms H8 (eX A ((1, [x_a]) : Nat × List D)) (.ref p5) := h6
    refine ⟨_, rfl, ?_⟩
    conv => whnf
    apply rep_mkXK1 (C := A.c_InvalidPlace) (n := "value") (by rfl) (by intro _; rfl) hW h_a
    intro p9 H12 e11 h10
    replace h_a := rep_ext e11 h_a
    replace h_b := rep_ext e11 h_b
    replace h2 := rep_ext e11 h2
    replace h6 := rep_ext e11 h6
    replace hW := hW.ret0 e11
    replace h10 : rep ms H12 (eX A ((2, [x_a]) : Nat × List D)) (.ref p9) := h10
    refine ⟨_, rfl, ?_⟩
    conv => whnf
    apply rep_mkXK1 (C := A.c_InvalidMarks) (n := "value") (by rfl) (by intro _; rfl) hW h_a
    intro p13 H16 e15 h14
    replace h_a := rep_ext e15 h_a
    replace h_b := rep_ext e15 h_b
    replace h2 := rep_ext e15 h2
    replace h6 := rep_ext e15 h6
    replace h10 := rep_ext e15 h10
    replace hW := hW.ret0 e15
    replace h14 : rep ms H16 (eX A ((3, [x_a]) : Nat × List D)) (.ref p13) := h14
    refine ⟨(by show 4 ≤ sizeLine; decide), ?_⟩
    intro L17 nl18
    have nm19 := nm_new hW nl18
    have mu20 := mo_newL (ds := ([((0, [x_a]) : Nat × List D), ((1, [x_a]) : Nat × List D), ((2, [x_a]) : Nat × List D), ((3, [x_a]) : Nat × List D)] : List (Nat × List D)).map (fun y_ : (Nat × List D) => (eX A y_))) (vs := [(V.ref p1), (V.ref p5), (V.ref p9), (V.ref p13)]) hW nl18 (repL_cons h2 (repL_cons h6 (repL_cons h10 (repL_cons h14 repL_nil))))
    replace h_a := rep_cell (o := .lst [(V.ref p1), (V.ref p5), (V.ref p9), (V.ref p13)]) nl18 h_a
    replace h_b := rep_cell (o := .lst [(V.ref p1), (V.ref p5), (V.ref p9), (V.ref p13)]) nl18 h_b
    replace h2 := rep_cell (o := .lst [(V.ref p1), (V.ref p5), (V.ref p9), (V.ref p13)]) nl18 h2
    replace h6 := rep_cell (o := .lst [(V.ref p1), (V.ref p5), (V.ref p9), (V.ref p13)]) nl18 h6
    replace h10 := rep_cell (o := .lst [(V.ref p1), (V.ref p5), (V.ref p9), (V.ref p13)]) nl18 h10
    replace h14 := rep_cell (o := .lst [(V.ref p1), (V.ref p5), (V.ref p9), (V.ref p13)]) nl18 h14
    replace hW := wd_cell (o := .lst [(V.ref p1), (V.ref p5), (V.ref p9), (V.ref p13)]) hW nl18
    generalize upd H16 L17 (.lst [(V.ref p1), (V.ref p5), (V.ref p9), (V.ref p13)]) = H21 at *
    replace mu20 : MutO (L17 :: ms) [] H_0 H21 L17 (D.lst (([((0, [x_a]) : Nat × List D), ((1, [x_a]) : Nat × List D), ((2, [x_a]) : Nat × List D), ((3, [x_a]) : Nat × List D)] : List (Nat × List D)).map (fun y_ : (Nat × List D) => (eX A y_)))) := mu20
    refine ⟨_, rfl, ?_⟩
    refine ⟨mo_tyL mu20, ?_⟩
    refine ⟨_, rfl, ?_⟩
    conv => whnf
    apply rep_mkXK1 (C := A.c_InvalidStep) (n := "value") (by rfl) (by intro _; rfl) hW h_a
    intro p22 H25 e24 h23
    replace h_a := rep_ext e24 h_a
    replace h_b := rep_ext e24 h_b
    replace h2 := rep_ext e24 h2
    replace h6 := rep_ext e24 h6
    replace h10 := rep_ext e24 h10
    replace h14 := rep_ext e24 h14
    replace mu20 := mo_ext e24 mu20
    replace hW := hW.ret0 e24
    replace h23 : rep (L17 :: ms) H25 (eX A ((4, [x_a]) : Nat × List D)) (.ref p22) := h23
    refine ⟨_, rfl, ?_⟩
    conv => whnf
    apply rep_mkXK1 (C := A.c_InvalidStander) (n := "value") (by rfl) (by intro _; rfl) hW h_a
    intro p26 H29 e28 h27
    replace h_a := rep_ext e28 h_a
    replace h_b := rep_ext e28 h_b
    replace h2 := rep_ext e28 h2
    replace h6 := rep_ext e28 h6
    replace h10 := rep_ext e28 h10
    replace h14 := rep_ext e28 h14
    replace h23 := rep_ext e28 h23
    replace mu20 := mo_ext e28 mu20
    replace hW := hW.ret0 e28
    replace h27 : rep (L17 :: ms) H29 (eX A ((5, [x_a]) : Nat × List D)) (.ref p26) := h27
    refine ⟨_, rfl, ?_⟩
    conv => whnf
    apply rep_mkXK1 (C := A.c_InvalidTurned) (n := "value") (by rfl) (by intro _; rfl) hW h_a
    intro p30 H33 e32 h31
    replace h_a := rep_ext e32 h_a
    replace h_b := rep_ext e32 h_b
    replace h2 := rep_ext e32 h2
    replace h6 := rep_ext e32 h6
    replace h10 := rep_ext e32 h10
    replace h14 := rep_ext e32 h14
    replace h23 := rep_ext e32 h23
    replace h27 := rep_ext e32 h27
    replace mu20 := mo_ext e32 mu20
    replace hW := hW.ret0 e32
    replace h31 : rep (L17 :: ms) H33 (eX A ((6, [x_a]) : Nat × List D)) (.ref p30) := h31
    refine ⟨_, rfl, ?_⟩
    conv => whnf
    apply rep_mkXK1 (C := A.c_InvalidSize) (n := "value") (by rfl) (by intro _; rfl) hW h_a
    intro p34 H37 e36 h35
    replace h_a := rep_ext e36 h_a
    replace h_b := rep_ext e36 h_b
    replace h2 := rep_ext e36 h2
    replace h6 := rep_ext e36 h6
    replace h10 := rep_ext e36 h10
    replace h14 := rep_ext e36 h14
    replace h23 := rep_ext e36 h23
    replace h27 := rep_ext e36 h27
    replace h31 := rep_ext e36 h31
    replace mu20 := mo_ext e36 mu20
    replace hW := hW.ret0 e36
    replace h35 : rep (L17 :: ms) H37 (eX A ((7, [x_a]) : Nat × List D)) (.ref p34) := h35
    refine ⟨(by show 4 ≤ sizeLine; decide), ?_⟩
    intro p38 n42
    have e39 := Rx.Ext.new (H := H37) (o := (HO.lst [(V.ref p22), (V.ref p26), (V.ref p30), (V.ref p34)])) n42
    have hp40 : upd H37 p38 (HO.lst [(V.ref p22), (V.ref p26), (V.ref p30), (V.ref p34)]) p38 = some (HO.lst [(V.ref p22), (V.ref p26), (V.ref p30), (V.ref p34)]) := upd_same
    generalize upd H37 p38 (HO.lst [(V.ref p22), (V.ref p26), (V.ref p30), (V.ref p34)]) = H43 at e39 hp40 ⊢
    have h41 : rep (L17 :: ms) H43 (D.lst (([((4, [x_a]) : Nat × List D), ((5, [x_a]) : Nat × List D), ((6, [x_a]) : Nat × List D), ((7, [x_a]) : Nat × List D)] : List (Nat × List D)).map (fun y_ : (Nat × List D) => (eX A y_)))) (.ref p38) := rep_lst_mk hW n42 e39 hp40 (repL_cons h23 (repL_cons h27 (repL_cons h31 (repL_cons h35 repL_nil))))
    replace h_a := rep_ext e39 h_a
    replace h_b := rep_ext e39 h_b
    replace h2 := rep_ext e39 h2
    replace h6 := rep_ext e39 h6
    replace h10 := rep_ext e39 h10
    replace h14 := rep_ext e39 h14
    replace h23 := rep_ext e39 h23
    replace h27 := rep_ext e39 h27
    replace h31 := rep_ext e39 h31
    replace h35 := rep_ext e39 h35
    replace mu20 := mo_ext e39 mu20
    replace hW := hW.ret0 e39
    obtain ⟨g44, hM⟩ := hM
    apply mo_extU (e := (fun y_ : (Nat × List D) => (eX A y_))) (ys := ([((4, [x_a]) : Nat × List D), ((5, [x_a]) : Nat × List D), ((6, [x_a]) : Nat × List D), ((7, [x_a]) : Nat × List D)] : List (Nat × List D))) mu20 h41 (by rw [List.length_map]; exact g44)
    intro vs45 us46 hr47 hr48
    have mk49 := mo_setL mu20 (repL_cat (e := (fun y_ : (Nat × List D) => (eX A y_))) (xs := ([((0, [x_a]) : Nat × List D), ((1, [x_a]) : Nat × List D), ((2, [x_a]) : Nat × List D), ((3, [x_a]) : Nat × List D)] : List (Nat × List D))) (ys := ([((4, [x_a]) : Nat × List D), ((5, [x_a]) : Nat × List D), ((6, [x_a]) : Nat × List D), ((7, [x_a]) : Nat × List D)] : List (Nat × List D))) hr47 hr48)
    replace h_a := rep_put (o := .lst (vs45 ++ us46)) mu20.im h_a
    replace h_b := rep_put (o := .lst (vs45 ++ us46)) mu20.im h_b
    replace h2 := rep_put (o := .lst (vs45 ++ us46)) mu20.im h2
    replace h6 := rep_put (o := .lst (vs45 ++ us46)) mu20.im h6
    replace h10 := rep_put (o := .lst (vs45 ++ us46)) mu20.im h10
    replace h14 := rep_put (o := .lst (vs45 ++ us46)) mu20.im h14
    replace h23 := rep_put (o := .lst (vs45 ++ us46)) mu20.im h23
    replace h27 := rep_put (o := .lst (vs45 ++ us46)) mu20.im h27
    replace h31 := rep_put (o := .lst (vs45 ++ us46)) mu20.im h31
    replace h35 := rep_put (o := .lst (vs45 ++ us46)) mu20.im h35
    replace h41 := rep_put (o := .lst (vs45 ++ us46)) mu20.im h41
    replace hW := wd_put (o := .lst (vs45 ++ us46)) hW mu20
    replace mu20 := mk49
    generalize upd H43 L17 (.lst (vs45 ++ us46)) = H50 at *
    replace mu20 : MutO (L17 :: ms) [] H_0 H50 L17 (D.lst ((([((0, [x_a]) : Nat × List D), ((1, [x_a]) : Nat × List D), ((2, [x_a]) : Nat × List D), ((3, [x_a]) : Nat × List D)] : List (Nat × List D)) ++ ([((4, [x_a]) : Nat × List D), ((5, [x_a]) : Nat × List D), ((6, [x_a]) : Nat × List D), ((7, [x_a]) : Nat × List D)] : List (Nat × List D))).map (fun y_ : (Nat × List D) => (eX A y_)))) := mu20
    clear mk49
    refine ⟨_, rfl, ?_⟩
    refine ⟨mo_tyL mu20, ?_⟩
    refine ⟨_, rfl, ?_⟩
    conv => whnf
    apply rep_mkXK1 (C := A.c_InvalidTeam) (n := "value") (by rfl) (by intro _; rfl) hW h_a
    intro p51 H54 e53 h52
    replace h_a := rep_ext e53 h_a
    replace h_b := rep_ext e53 h_b
    replace h2 := rep_ext e53 h2
    replace h6 := rep_ext e53 h6
    replace h10 := rep_ext e53 h10
    replace h14 := rep_ext e53 h14
    replace h23 := rep_ext e53 h23
    replace h27 := rep_ext e53 h27
    replace h31 := rep_ext e53 h31
    replace h35 := rep_ext e53 h35
    replace h41 := rep_ext e53 h41
    replace mu20 := mo_ext e53 mu20
    replace hW := hW.ret0 e53
    replace h52 : rep (L17 :: ms) H54 (eX A ((8, [x_a]) : Nat × List D)) (.ref p51) := h52
    refine ⟨_, rfl, ?_⟩
    conv => whnf
    apply rep_mkXK1 (C := A.c_InvalidRound) (n := "value") (by rfl) (by intro _; rfl) hW h_a
    intro p55 H58 e57 h56
    replace h_a := rep_ext e57 h_a
    replace h_b := rep_ext e57 h_b
    replace h2 := rep_ext e57 h2
    replace h6 := rep_ext e57 h6
    replace h10 := rep_ext e57 h10
    replace h14 := rep_ext e57 h14
    replace h23 := rep_ext e57 h23
    replace h27 := rep_ext e57 h27
    replace h31 := rep_ext e57 h31
    replace h35 := rep_ext e57 h35
    replace h41 := rep_ext e57 h41
    replace h52 := rep_ext e57 h52
    replace mu20 := mo_ext e57 mu20
    replace hW := hW.ret0 e57
    replace h56 : rep (L17 :: ms) H58 (eX A ((9, [x_a]) : Nat × List D)) (.ref p55) := h56
    refine ⟨_, rfl, ?_⟩
    conv => whnf
    apply rep_mkXK1 (C := A.c_InvalidCount) (n := "value") (by rfl) (by intro _; rfl) hW h_a
    intro p59 H62 e61 h60
    replace h_a := rep_ext e61 h_a
    replace h_b := rep_ext e61 h_b
    replace h2 := rep_ext e61 h2
    replace h6 := rep_ext e61 h6
    replace h10 := rep_ext e61 h10
    replace h14 := rep_ext e61 h14
    replace h23 := rep_ext e61 h23
    replace h27 := rep_ext e61 h27
    replace h31 := rep_ext e61 h31
    replace h35 := rep_ext e61 h35
    replace h41 := rep_ext e61 h41
    replace h52 := rep_ext e61 h52
    replace h56 := rep_ext e61 h56
    replace mu20 := mo_ext e61 mu20
    replace hW := hW.ret0 e61
    replace h60 : rep (L17 :: ms) H62 (eX A ((10, [x_a]) : Nat × List D)) (.ref p59) := h60
    refine ⟨_, rfl, ?_⟩
    conv => whnf
    apply rep_mkXK1 (C := A.c_InvalidClaim) (n := "value") (by rfl) (by intro _; rfl) hW h_a
    intro p63 H66 e65 h64
    replace h_a := rep_ext e65 h_a
    replace h_b := rep_ext e65 h_b
    replace h2 := rep_ext e65 h2
    replace h6 := rep_ext e65 h6
    replace h10 := rep_ext e65 h10
    replace h14 := rep_ext e65 h14
    replace h23 := rep_ext e65 h23
    replace h27 := rep_ext e65 h27
    replace h31 := rep_ext e65 h31
    replace h35 := rep_ext e65 h35
    replace h41 := rep_ext e65 h41
    replace h52 := rep_ext e65 h52
    replace h56 := rep_ext e65 h56
    replace h60 := rep_ext e65 h60
    replace mu20 := mo_ext e65 mu20
    replace hW := hW.ret0 e65
    replace h64 : rep (L17 :: ms) H66 (eX A ((11, [x_a]) : Nat × List D)) (.ref p63) := h64
    refine ⟨(by show 4 ≤ sizeLine; decide), ?_⟩
    intro p67 n71
    have e68 := Rx.Ext.new (H := H66) (o := (HO.lst [(V.ref p51), (V.ref p55), (V.ref p59), (V.ref p63)])) n71
    have hp69 : upd H66 p67 (HO.lst [(V.ref p51), (V.ref p55), (V.ref p59), (V.ref p63)]) p67 = some (HO.lst [(V.ref p51), (V.ref p55), (V.ref p59), (V.ref p63)]) := upd_same
    generalize upd H66 p67 (HO.lst [(V.ref p51), (V.ref p55), (V.ref p59), (V.ref p63)]) = H72 at e68 hp69 ⊢
    have h70 : rep (L17 :: ms) H72 (D.lst (([((8, [x_a]) : Nat × List D), ((9, [x_a]) : Nat × List D), ((10, [x_a]) : Nat × List D), ((11, [x_a]) : Nat × List D)] : List (Nat × List D)).map (fun y_ : (Nat × List D) => (eX A y_)))) (.ref p67) := rep_lst_mk hW n71 e68 hp69 (repL_cons h52 (repL_cons h56 (repL_cons h60 (repL_cons h64 repL_nil))))
    replace h_a := rep_ext e68 h_a
    replace h_b := rep_ext e68 h_b
    replace h2 := rep_ext e68 h2
    replace h6 := rep_ext e68 h6
    replace h10 := rep_ext e68 h10
    replace h14 := rep_ext e68 h14
    replace h23 := rep_ext e68 h23
    replace h27 := rep_ext e68 h27
    replace h31 := rep_ext e68 h31
    replace h35 := rep_ext e68 h35
    replace h41 := rep_ext e68 h41
    replace h52 := rep_ext e68 h52
    replace h56 := rep_ext e68 h56
    replace h60 := rep_ext e68 h60
    replace h64 := rep_ext e68 h64
    replace mu20 := mo_ext e68 mu20
    replace hW := hW.ret0 e68
    obtain ⟨g73, hM⟩ := hM
    apply mo_extU (e := (fun y_ : (Nat × List D) => (eX A y_))) (ys := ([((8, [x_a]) : Nat × List D), ((9, [x_a]) : Nat × List D), ((10, [x_a]) : Nat × List D), ((11, [x_a]) : Nat × List D)] : List (Nat × List D))) mu20 h70 (by rw [List.length_map]; exact g73)
    intro vs74 us75 hr76 hr77
    have mk78 := mo_setL mu20 (repL_cat (e := (fun y_ : (Nat × List D) => (eX A y_))) (xs := (([((0, [x_a]) : Nat × List D), ((1, [x_a]) : Nat × List D), ((2, [x_a]) : Nat × List D), ((3, [x_a]) : Nat × List D)] : List (Nat × List D)) ++ ([((4, [x_a]) : Nat × List D), ((5, [x_a]) : Nat × List D), ((6, [x_a]) : Nat × List D), ((7, [x_a]) : Nat × List D)] : List (Nat × List D)))) (ys := ([((8, [x_a]) : Nat × List D), ((9, [x_a]) : Nat × List D), ((10, [x_a]) : Nat × List D), ((11, [x_a]) : Nat × List D)] : List (Nat × List D))) hr76 hr77)
    replace h_a := rep_put (o := .lst (vs74 ++ us75)) mu20.im h_a
    replace h_b := rep_put (o := .lst (vs74 ++ us75)) mu20.im h_b
    replace h2 := rep_put (o := .lst (vs74 ++ us75)) mu20.im h2
    replace h6 := rep_put (o := .lst (vs74 ++ us75)) mu20.im h6
    replace h10 := rep_put (o := .lst (vs74 ++ us75)) mu20.im h10
    replace h14 := rep_put (o := .lst (vs74 ++ us75)) mu20.im h14
    replace h23 := rep_put (o := .lst (vs74 ++ us75)) mu20.im h23
    replace h27 := rep_put (o := .lst (vs74 ++ us75)) mu20.im h27
    replace h31 := rep_put (o := .lst (vs74 ++ us75)) mu20.im h31
    replace h35 := rep_put (o := .lst (vs74 ++ us75)) mu20.im h35
    replace h41 := rep_put (o := .lst (vs74 ++ us75)) mu20.im h41
    replace h52 := rep_put (o := .lst (vs74 ++ us75)) mu20.im h52
    replace h56 := rep_put (o := .lst (vs74 ++ us75)) mu20.im h56
    replace h60 := rep_put (o := .lst (vs74 ++ us75)) mu20.im h60
    replace h64 := rep_put (o := .lst (vs74 ++ us75)) mu20.im h64
    replace h70 := rep_put (o := .lst (vs74 ++ us75)) mu20.im h70
    replace hW := wd_put (o := .lst (vs74 ++ us75)) hW mu20
    replace mu20 := mk78
    generalize upd H72 L17 (.lst (vs74 ++ us75)) = H79 at *
    replace mu20 : MutO (L17 :: ms) [] H_0 H79 L17 (D.lst (((([((0, [x_a]) : Nat × List D), ((1, [x_a]) : Nat × List D), ((2, [x_a]) : Nat × List D), ((3, [x_a]) : Nat × List D)] : List (Nat × List D)) ++ ([((4, [x_a]) : Nat × List D), ((5, [x_a]) : Nat × List D), ((6, [x_a]) : Nat × List D), ((7, [x_a]) : Nat × List D)] : List (Nat × List D))) ++ ([((8, [x_a]) : Nat × List D), ((9, [x_a]) : Nat × List D), ((10, [x_a]) : Nat × List D), ((11, [x_a]) : Nat × List D)] : List (Nat × List D))).map (fun y_ : (Nat × List D) => (eX A y_)))) := mu20
    clear mk78
    refine ⟨_, rfl, ?_⟩
    refine ⟨mo_tyL mu20, ?_⟩
    refine ⟨_, rfl, ?_⟩
    conv => whnf
    apply rep_mkXK1 (C := A.c_InvalidCommand) (n := "value") (by rfl) (by intro _; rfl) hW h_a
    intro p80 H83 e82 h81
    replace h_a := rep_ext e82 h_a
    replace h_b := rep_ext e82 h_b
    replace h2 := rep_ext e82 h2
    replace h6 := rep_ext e82 h6
    replace h10 := rep_ext e82 h10
    replace h14 := rep_ext e82 h14
    replace h23 := rep_ext e82 h23
    replace h27 := rep_ext e82 h27
    replace h31 := rep_ext e82 h31
    replace h35 := rep_ext e82 h35
    replace h41 := rep_ext e82 h41
    replace h52 := rep_ext e82 h52
    replace h56 := rep_ext e82 h56
    replace h60 := rep_ext e82 h60
    replace h64 := rep_ext e82 h64
    replace h70 := rep_ext e82 h70
    replace mu20 := mo_ext e82 mu20
    replace hW := hW.ret0 e82
    replace h81 : rep (L17 :: ms) H83 (eX A ((12, [x_a]) : Nat × List D)) (.ref p80) := h81
    refine ⟨_, rfl, ?_⟩
    conv => whnf
    apply rep_mkXK1 (C := A.c_InvalidValues) (n := "position") (by rfl) (by intro _; rfl) hW h_a
    intro p84 H87 e86 h85
    replace h_a := rep_ext e86 h_a
    replace h_b := rep_ext e86 h_b
    replace h2 := rep_ext e86 h2
    replace h6 := rep_ext e86 h6
    replace h10 := rep_ext e86 h10
    replace h14 := rep_ext e86 h14
    replace h23 := rep_ext e86 h23
    replace h27 := rep_ext e86 h27
    replace h31 := rep_ext e86 h31
    replace h35 := rep_ext e86 h35
    replace h41 := rep_ext e86 h41
    replace h52 := rep_ext e86 h52
    replace h56 := rep_ext e86 h56
    replace h60 := rep_ext e86 h60
    replace h64 := rep_ext e86 h64
    replace h70 := rep_ext e86 h70
    replace h81 := rep_ext e86 h81
    replace mu20 := mo_ext e86 mu20
    replace hW := hW.ret0 e86
    replace h85 : rep (L17 :: ms) H87 (eX A ((13, [x_a]) : Nat × List D)) (.ref p84) := h85
    refine ⟨_, rfl, ?_⟩
    conv => whnf
    apply rep_mkXK1 (C := A.c_InvalidRows) (n := "position") (by rfl) (by intro _; rfl) hW h_a
    intro p88 H91 e90 h89
    replace h_a := rep_ext e90 h_a
    replace h_b := rep_ext e90 h_b
    replace h2 := rep_ext e90 h2
    replace h6 := rep_ext e90 h6
    replace h10 := rep_ext e90 h10
    replace h14 := rep_ext e90 h14
    replace h23 := rep_ext e90 h23
    replace h27 := rep_ext e90 h27
    replace h31 := rep_ext e90 h31
    replace h35 := rep_ext e90 h35
    replace h41 := rep_ext e90 h41
    replace h52 := rep_ext e90 h52
    replace h56 := rep_ext e90 h56
    replace h60 := rep_ext e90 h60
    replace h64 := rep_ext e90 h64
    replace h70 := rep_ext e90 h70
    replace h81 := rep_ext e90 h81
    replace h85 := rep_ext e90 h85
    replace mu20 := mo_ext e90 mu20
    replace hW := hW.ret0 e90
    replace h89 : rep (L17 :: ms) H91 (eX A ((14, [x_a]) : Nat × List D)) (.ref p88) := h89
    refine ⟨(by show 3 ≤ sizeLine; decide), ?_⟩
    intro p92 n96
    have e93 := Rx.Ext.new (H := H91) (o := (HO.lst [(V.ref p80), (V.ref p84), (V.ref p88)])) n96
    have hp94 : upd H91 p92 (HO.lst [(V.ref p80), (V.ref p84), (V.ref p88)]) p92 = some (HO.lst [(V.ref p80), (V.ref p84), (V.ref p88)]) := upd_same
    generalize upd H91 p92 (HO.lst [(V.ref p80), (V.ref p84), (V.ref p88)]) = H97 at e93 hp94 ⊢
    have h95 : rep (L17 :: ms) H97 (D.lst (([((12, [x_a]) : Nat × List D), ((13, [x_a]) : Nat × List D), ((14, [x_a]) : Nat × List D)] : List (Nat × List D)).map (fun y_ : (Nat × List D) => (eX A y_)))) (.ref p92) := rep_lst_mk hW n96 e93 hp94 (repL_cons h81 (repL_cons h85 (repL_cons h89 repL_nil)))
    replace h_a := rep_ext e93 h_a
    replace h_b := rep_ext e93 h_b
    replace h2 := rep_ext e93 h2
    replace h6 := rep_ext e93 h6
    replace h10 := rep_ext e93 h10
    replace h14 := rep_ext e93 h14
    replace h23 := rep_ext e93 h23
    replace h27 := rep_ext e93 h27
    replace h31 := rep_ext e93 h31
    replace h35 := rep_ext e93 h35
    replace h41 := rep_ext e93 h41
    replace h52 := rep_ext e93 h52
    replace h56 := rep_ext e93 h56
    replace h60 := rep_ext e93 h60
    replace h64 := rep_ext e93 h64
    replace h70 := rep_ext e93 h70
    replace h81 := rep_ext e93 h81
    replace h85 := rep_ext e93 h85
    replace h89 := rep_ext e93 h89
    replace mu20 := mo_ext e93 mu20
    replace hW := hW.ret0 e93
    obtain ⟨g98, hM⟩ := hM
    apply mo_extU (e := (fun y_ : (Nat × List D) => (eX A y_))) (ys := ([((12, [x_a]) : Nat × List D), ((13, [x_a]) : Nat × List D), ((14, [x_a]) : Nat × List D)] : List (Nat × List D))) mu20 h95 (by rw [List.length_map]; exact g98)
    intro vs99 us100 hr101 hr102
    have mk103 := mo_setL mu20 (repL_cat (e := (fun y_ : (Nat × List D) => (eX A y_))) (xs := ((([((0, [x_a]) : Nat × List D), ((1, [x_a]) : Nat × List D), ((2, [x_a]) : Nat × List D), ((3, [x_a]) : Nat × List D)] : List (Nat × List D)) ++ ([((4, [x_a]) : Nat × List D), ((5, [x_a]) : Nat × List D), ((6, [x_a]) : Nat × List D), ((7, [x_a]) : Nat × List D)] : List (Nat × List D))) ++ ([((8, [x_a]) : Nat × List D), ((9, [x_a]) : Nat × List D), ((10, [x_a]) : Nat × List D), ((11, [x_a]) : Nat × List D)] : List (Nat × List D)))) (ys := ([((12, [x_a]) : Nat × List D), ((13, [x_a]) : Nat × List D), ((14, [x_a]) : Nat × List D)] : List (Nat × List D))) hr101 hr102)
    replace h_a := rep_put (o := .lst (vs99 ++ us100)) mu20.im h_a
    replace h_b := rep_put (o := .lst (vs99 ++ us100)) mu20.im h_b
    replace h2 := rep_put (o := .lst (vs99 ++ us100)) mu20.im h2
    replace h6 := rep_put (o := .lst (vs99 ++ us100)) mu20.im h6
    replace h10 := rep_put (o := .lst (vs99 ++ us100)) mu20.im h10
    replace h14 := rep_put (o := .lst (vs99 ++ us100)) mu20.im h14
    replace h23 := rep_put (o := .lst (vs99 ++ us100)) mu20.im h23
    replace h27 := rep_put (o := .lst (vs99 ++ us100)) mu20.im h27
    replace h31 := rep_put (o := .lst (vs99 ++ us100)) mu20.im h31
    replace h35 := rep_put (o := .lst (vs99 ++ us100)) mu20.im h35
    replace h41 := rep_put (o := .lst (vs99 ++ us100)) mu20.im h41
    replace h52 := rep_put (o := .lst (vs99 ++ us100)) mu20.im h52
    replace h56 := rep_put (o := .lst (vs99 ++ us100)) mu20.im h56
    replace h60 := rep_put (o := .lst (vs99 ++ us100)) mu20.im h60
    replace h64 := rep_put (o := .lst (vs99 ++ us100)) mu20.im h64
    replace h70 := rep_put (o := .lst (vs99 ++ us100)) mu20.im h70
    replace h81 := rep_put (o := .lst (vs99 ++ us100)) mu20.im h81
    replace h85 := rep_put (o := .lst (vs99 ++ us100)) mu20.im h85
    replace h89 := rep_put (o := .lst (vs99 ++ us100)) mu20.im h89
    replace h95 := rep_put (o := .lst (vs99 ++ us100)) mu20.im h95
    replace hW := wd_put (o := .lst (vs99 ++ us100)) hW mu20
    replace mu20 := mk103
    generalize upd H97 L17 (.lst (vs99 ++ us100)) = H104 at *
    replace mu20 : MutO (L17 :: ms) [] H_0 H104 L17 (D.lst ((((([((0, [x_a]) : Nat × List D), ((1, [x_a]) : Nat × List D), ((2, [x_a]) : Nat × List D), ((3, [x_a]) : Nat × List D)] : List (Nat × List D)) ++ ([((4, [x_a]) : Nat × List D), ((5, [x_a]) : Nat × List D), ((6, [x_a]) : Nat × List D), ((7, [x_a]) : Nat × List D)] : List (Nat × List D))) ++ ([((8, [x_a]) : Nat × List D), ((9, [x_a]) : Nat × List D), ((10, [x_a]) : Nat × List D), ((11, [x_a]) : Nat × List D)] : List (Nat × List D))) ++ ([((12, [x_a]) : Nat × List D), ((13, [x_a]) : Nat × List D), ((14, [x_a]) : Nat × List D)] : List (Nat × List D))).map (fun y_ : (Nat × List D) => (eX A y_)))) := mu20
    clear mk103
    refine ⟨_, rfl, ?_⟩
    refine ⟨mo_tyL mu20, ?_⟩
    refine ⟨_, rfl, ?_⟩
    conv => whnf
    apply rep_mkXK1 (C := A.c_InvalidRounds) (n := "position") (by rfl) (by intro _; rfl) hW h_a
    intro p105 H108 e107 h106
    replace h_a := rep_ext e107 h_a
    replace h_b := rep_ext e107 h_b
    replace h2 := rep_ext e107 h2
    replace h6 := rep_ext e107 h6
    replace h10 := rep_ext e107 h10
    replace h14 := rep_ext e107 h14
    replace h23 := rep_ext e107 h23
    replace h27 := rep_ext e107 h27
    replace h31 := rep_ext e107 h31
    replace h35 := rep_ext e107 h35
    replace h41 := rep_ext e107 h41
    replace h52 := rep_ext e107 h52
    replace h56 := rep_ext e107 h56
    replace h60 := rep_ext e107 h60
    replace h64 := rep_ext e107 h64
    replace h70 := rep_ext e107 h70
    replace h81 := rep_ext e107 h81
    replace h85 := rep_ext e107 h85
    replace h89 := rep_ext e107 h89
    replace h95 := rep_ext e107 h95
    replace mu20 := mo_ext e107 mu20
    replace hW := hW.ret0 e107
    replace h106 : rep (L17 :: ms) H108 (eX A ((15, [x_a]) : Nat × List D)) (.ref p105) := h106
    refine ⟨_, rfl, ?_⟩
    conv => whnf
    apply rep_mkXK1 (C := A.c_InvalidCells) (n := "position") (by rfl) (by intro _; rfl) hW h_a
    intro p109 H112 e111 h110
    replace h_a := rep_ext e111 h_a
    replace h_b := rep_ext e111 h_b
    replace h2 := rep_ext e111 h2
    replace h6 := rep_ext e111 h6
    replace h10 := rep_ext e111 h10
    replace h14 := rep_ext e111 h14
    replace h23 := rep_ext e111 h23
    replace h27 := rep_ext e111 h27
    replace h31 := rep_ext e111 h31
    replace h35 := rep_ext e111 h35
    replace h41 := rep_ext e111 h41
    replace h52 := rep_ext e111 h52
    replace h56 := rep_ext e111 h56
    replace h60 := rep_ext e111 h60
    replace h64 := rep_ext e111 h64
    replace h70 := rep_ext e111 h70
    replace h81 := rep_ext e111 h81
    replace h85 := rep_ext e111 h85
    replace h89 := rep_ext e111 h89
    replace h95 := rep_ext e111 h95
    replace h106 := rep_ext e111 h106
    replace mu20 := mo_ext e111 mu20
    replace hW := hW.ret0 e111
    replace h110 : rep (L17 :: ms) H112 (eX A ((16, [x_a]) : Nat × List D)) (.ref p109) := h110
    refine ⟨_, rfl, ?_⟩
    conv => whnf
    apply rep_mkXK1 (C := A.c_InvalidLegs) (n := "position") (by rfl) (by intro _; rfl) hW h_a
    intro p113 H116 e115 h114
    replace h_a := rep_ext e115 h_a
    replace h_b := rep_ext e115 h_b
    replace h2 := rep_ext e115 h2
    replace h6 := rep_ext e115 h6
    replace h10 := rep_ext e115 h10
    replace h14 := rep_ext e115 h14
    replace h23 := rep_ext e115 h23
    replace h27 := rep_ext e115 h27
    replace h31 := rep_ext e115 h31
    replace h35 := rep_ext e115 h35
    replace h41 := rep_ext e115 h41
    replace h52 := rep_ext e115 h52
    replace h56 := rep_ext e115 h56
    replace h60 := rep_ext e115 h60
    replace h64 := rep_ext e115 h64
    replace h70 := rep_ext e115 h70
    replace h81 := rep_ext e115 h81
    replace h85 := rep_ext e115 h85
    replace h89 := rep_ext e115 h89
    replace h95 := rep_ext e115 h95
    replace h106 := rep_ext e115 h106
    replace h110 := rep_ext e115 h110
    replace mu20 := mo_ext e115 mu20
    replace hW := hW.ret0 e115
    replace h114 : rep (L17 :: ms) H116 (eX A ((17, [x_a]) : Nat × List D)) (.ref p113) := h114
    refine ⟨(by show 3 ≤ sizeLine; decide), ?_⟩
    intro p117 n121
    have e118 := Rx.Ext.new (H := H116) (o := (HO.lst [(V.ref p105), (V.ref p109), (V.ref p113)])) n121
    have hp119 : upd H116 p117 (HO.lst [(V.ref p105), (V.ref p109), (V.ref p113)]) p117 = some (HO.lst [(V.ref p105), (V.ref p109), (V.ref p113)]) := upd_same
    generalize upd H116 p117 (HO.lst [(V.ref p105), (V.ref p109), (V.ref p113)]) = H122 at e118 hp119 ⊢
    have h120 : rep (L17 :: ms) H122 (D.lst (([((15, [x_a]) : Nat × List D), ((16, [x_a]) : Nat × List D), ((17, [x_a]) : Nat × List D)] : List (Nat × List D)).map (fun y_ : (Nat × List D) => (eX A y_)))) (.ref p117) := rep_lst_mk hW n121 e118 hp119 (repL_cons h106 (repL_cons h110 (repL_cons h114 repL_nil)))
    replace h_a := rep_ext e118 h_a
    replace h_b := rep_ext e118 h_b
    replace h2 := rep_ext e118 h2
    replace h6 := rep_ext e118 h6
    replace h10 := rep_ext e118 h10
    replace h14 := rep_ext e118 h14
    replace h23 := rep_ext e118 h23
    replace h27 := rep_ext e118 h27
    replace h31 := rep_ext e118 h31
    replace h35 := rep_ext e118 h35
    replace h41 := rep_ext e118 h41
    replace h52 := rep_ext e118 h52
    replace h56 := rep_ext e118 h56
    replace h60 := rep_ext e118 h60
    replace h64 := rep_ext e118 h64
    replace h70 := rep_ext e118 h70
    replace h81 := rep_ext e118 h81
    replace h85 := rep_ext e118 h85
    replace h89 := rep_ext e118 h89
    replace h95 := rep_ext e118 h95
    replace h106 := rep_ext e118 h106
    replace h110 := rep_ext e118 h110
    replace h114 := rep_ext e118 h114
    replace mu20 := mo_ext e118 mu20
    replace hW := hW.ret0 e118
    obtain ⟨g123, hM⟩ := hM
    apply mo_extU (e := (fun y_ : (Nat × List D) => (eX A y_))) (ys := ([((15, [x_a]) : Nat × List D), ((16, [x_a]) : Nat × List D), ((17, [x_a]) : Nat × List D)] : List (Nat × List D))) mu20 h120 (by rw [List.length_map]; exact g123)
    intro vs124 us125 hr126 hr127
    have mk128 := mo_setL mu20 (repL_cat (e := (fun y_ : (Nat × List D) => (eX A y_))) (xs := (((([((0, [x_a]) : Nat × List D), ((1, [x_a]) : Nat × List D), ((2, [x_a]) : Nat × List D), ((3, [x_a]) : Nat × List D)] : List (Nat × List D)) ++ ([((4, [x_a]) : Nat × List D), ((5, [x_a]) : Nat × List D), ((6, [x_a]) : Nat × List D), ((7, [x_a]) : Nat × List D)] : List (Nat × List D))) ++ ([((8, [x_a]) : Nat × List D), ((9, [x_a]) : Nat × List D), ((10, [x_a]) : Nat × List D), ((11, [x_a]) : Nat × List D)] : List (Nat × List D))) ++ ([((12, [x_a]) : Nat × List D), ((13, [x_a]) : Nat × List D), ((14, [x_a]) : Nat × List D)] : List (Nat × List D)))) (ys := ([((15, [x_a]) : Nat × List D), ((16, [x_a]) : Nat × List D), ((17, [x_a]) : Nat × List D)] : List (Nat × List D))) hr126 hr127)
    replace h_a := rep_put (o := .lst (vs124 ++ us125)) mu20.im h_a
    replace h_b := rep_put (o := .lst (vs124 ++ us125)) mu20.im h_b
    replace h2 := rep_put (o := .lst (vs124 ++ us125)) mu20.im h2
    replace h6 := rep_put (o := .lst (vs124 ++ us125)) mu20.im h6
    replace h10 := rep_put (o := .lst (vs124 ++ us125)) mu20.im h10
    replace h14 := rep_put (o := .lst (vs124 ++ us125)) mu20.im h14
    replace h23 := rep_put (o := .lst (vs124 ++ us125)) mu20.im h23
    replace h27 := rep_put (o := .lst (vs124 ++ us125)) mu20.im h27
    replace h31 := rep_put (o := .lst (vs124 ++ us125)) mu20.im h31
    replace h35 := rep_put (o := .lst (vs124 ++ us125)) mu20.im h35
    replace h41 := rep_put (o := .lst (vs124 ++ us125)) mu20.im h41
    replace h52 := rep_put (o := .lst (vs124 ++ us125)) mu20.im h52
    replace h56 := rep_put (o := .lst (vs124 ++ us125)) mu20.im h56
    replace h60 := rep_put (o := .lst (vs124 ++ us125)) mu20.im h60
    replace h64 := rep_put (o := .lst (vs124 ++ us125)) mu20.im h64
    replace h70 := rep_put (o := .lst (vs124 ++ us125)) mu20.im h70
    replace h81 := rep_put (o := .lst (vs124 ++ us125)) mu20.im h81
    replace h85 := rep_put (o := .lst (vs124 ++ us125)) mu20.im h85
    replace h89 := rep_put (o := .lst (vs124 ++ us125)) mu20.im h89
    replace h95 := rep_put (o := .lst (vs124 ++ us125)) mu20.im h95
    replace h106 := rep_put (o := .lst (vs124 ++ us125)) mu20.im h106
    replace h110 := rep_put (o := .lst (vs124 ++ us125)) mu20.im h110
    replace h114 := rep_put (o := .lst (vs124 ++ us125)) mu20.im h114
    replace h120 := rep_put (o := .lst (vs124 ++ us125)) mu20.im h120
    replace hW := wd_put (o := .lst (vs124 ++ us125)) hW mu20
    replace mu20 := mk128
    generalize upd H122 L17 (.lst (vs124 ++ us125)) = H129 at *
    replace mu20 : MutO (L17 :: ms) [] H_0 H129 L17 (D.lst (((((([((0, [x_a]) : Nat × List D), ((1, [x_a]) : Nat × List D), ((2, [x_a]) : Nat × List D), ((3, [x_a]) : Nat × List D)] : List (Nat × List D)) ++ ([((4, [x_a]) : Nat × List D), ((5, [x_a]) : Nat × List D), ((6, [x_a]) : Nat × List D), ((7, [x_a]) : Nat × List D)] : List (Nat × List D))) ++ ([((8, [x_a]) : Nat × List D), ((9, [x_a]) : Nat × List D), ((10, [x_a]) : Nat × List D), ((11, [x_a]) : Nat × List D)] : List (Nat × List D))) ++ ([((12, [x_a]) : Nat × List D), ((13, [x_a]) : Nat × List D), ((14, [x_a]) : Nat × List D)] : List (Nat × List D))) ++ ([((15, [x_a]) : Nat × List D), ((16, [x_a]) : Nat × List D), ((17, [x_a]) : Nat × List D)] : List (Nat × List D))).map (fun y_ : (Nat × List D) => (eX A y_)))) := mu20
    clear mk128
    refine ⟨_, rfl, ?_⟩
    refine ⟨mo_tyL mu20, ?_⟩
    refine ⟨_, rfl, ?_⟩
    conv => whnf
    apply rep_mkXK1 (C := A.c_InvalidLot) (n := "position") (by rfl) (by intro _; rfl) hW h_a
    intro p130 H133 e132 h131
    replace h_a := rep_ext e132 h_a
    replace h_b := rep_ext e132 h_b
    replace h2 := rep_ext e132 h2
    replace h6 := rep_ext e132 h6
    replace h10 := rep_ext e132 h10
    replace h14 := rep_ext e132 h14
    replace h23 := rep_ext e132 h23
    replace h27 := rep_ext e132 h27
    replace h31 := rep_ext e132 h31
    replace h35 := rep_ext e132 h35
    replace h41 := rep_ext e132 h41
    replace h52 := rep_ext e132 h52
    replace h56 := rep_ext e132 h56
    replace h60 := rep_ext e132 h60
    replace h64 := rep_ext e132 h64
    replace h70 := rep_ext e132 h70
    replace h81 := rep_ext e132 h81
    replace h85 := rep_ext e132 h85
    replace h89 := rep_ext e132 h89
    replace h95 := rep_ext e132 h95
    replace h106 := rep_ext e132 h106
    replace h110 := rep_ext e132 h110
    replace h114 := rep_ext e132 h114
    replace h120 := rep_ext e132 h120
    replace mu20 := mo_ext e132 mu20
    replace hW := hW.ret0 e132
    replace h131 : rep (L17 :: ms) H133 (eX A ((18, [x_a]) : Nat × List D)) (.ref p130) := h131
    refine ⟨_, rfl, ?_⟩
    conv => whnf
    apply rep_mkXK1 (C := A.c_InvalidFixed) (n := "position") (by rfl) (by intro _; rfl) hW h_a
    intro p134 H137 e136 h135
    replace h_a := rep_ext e136 h_a
    replace h_b := rep_ext e136 h_b
    replace h2 := rep_ext e136 h2
    replace h6 := rep_ext e136 h6
    replace h10 := rep_ext e136 h10
    replace h14 := rep_ext e136 h14
    replace h23 := rep_ext e136 h23
    replace h27 := rep_ext e136 h27
    replace h31 := rep_ext e136 h31
    replace h35 := rep_ext e136 h35
    replace h41 := rep_ext e136 h41
    replace h52 := rep_ext e136 h52
    replace h56 := rep_ext e136 h56
    replace h60 := rep_ext e136 h60
    replace h64 := rep_ext e136 h64
    replace h70 := rep_ext e136 h70
    replace h81 := rep_ext e136 h81
    replace h85 := rep_ext e136 h85
    replace h89 := rep_ext e136 h89
    replace h95 := rep_ext e136 h95
    replace h106 := rep_ext e136 h106
    replace h110 := rep_ext e136 h110
    replace h114 := rep_ext e136 h114
    replace h120 := rep_ext e136 h120
    replace h131 := rep_ext e136 h131
    replace mu20 := mo_ext e136 mu20
    replace hW := hW.ret0 e136
    replace h135 : rep (L17 :: ms) H137 (eX A ((19, [x_a]) : Nat × List D)) (.ref p134) := h135
    refine ⟨_, rfl, ?_⟩
    conv => whnf
    apply rep_mkXK1 (C := A.c_InvalidGauge) (n := "position") (by rfl) (by intro _; rfl) hW h_a
    intro p138 H141 e140 h139
    replace h_a := rep_ext e140 h_a
    replace h_b := rep_ext e140 h_b
    replace h2 := rep_ext e140 h2
    replace h6 := rep_ext e140 h6
    replace h10 := rep_ext e140 h10
    replace h14 := rep_ext e140 h14
    replace h23 := rep_ext e140 h23
    replace h27 := rep_ext e140 h27
    replace h31 := rep_ext e140 h31
    replace h35 := rep_ext e140 h35
    replace h41 := rep_ext e140 h41
    replace h52 := rep_ext e140 h52
    replace h56 := rep_ext e140 h56
    replace h60 := rep_ext e140 h60
    replace h64 := rep_ext e140 h64
    replace h70 := rep_ext e140 h70
    replace h81 := rep_ext e140 h81
    replace h85 := rep_ext e140 h85
    replace h89 := rep_ext e140 h89
    replace h95 := rep_ext e140 h95
    replace h106 := rep_ext e140 h106
    replace h110 := rep_ext e140 h110
    replace h114 := rep_ext e140 h114
    replace h120 := rep_ext e140 h120
    replace h131 := rep_ext e140 h131
    replace h135 := rep_ext e140 h135
    replace mu20 := mo_ext e140 mu20
    replace hW := hW.ret0 e140
    replace h139 : rep (L17 :: ms) H141 (eX A ((20, [x_a]) : Nat × List D)) (.ref p138) := h139
    refine ⟨_, rfl, ?_⟩
    conv => whnf
    apply rep_mkXK1 (C := A.c_InvalidText) (n := "line") (by rfl) (by intro _; rfl) hW h_a
    intro p142 H145 e144 h143
    replace h_a := rep_ext e144 h_a
    replace h_b := rep_ext e144 h_b
    replace h2 := rep_ext e144 h2
    replace h6 := rep_ext e144 h6
    replace h10 := rep_ext e144 h10
    replace h14 := rep_ext e144 h14
    replace h23 := rep_ext e144 h23
    replace h27 := rep_ext e144 h27
    replace h31 := rep_ext e144 h31
    replace h35 := rep_ext e144 h35
    replace h41 := rep_ext e144 h41
    replace h52 := rep_ext e144 h52
    replace h56 := rep_ext e144 h56
    replace h60 := rep_ext e144 h60
    replace h64 := rep_ext e144 h64
    replace h70 := rep_ext e144 h70
    replace h81 := rep_ext e144 h81
    replace h85 := rep_ext e144 h85
    replace h89 := rep_ext e144 h89
    replace h95 := rep_ext e144 h95
    replace h106 := rep_ext e144 h106
    replace h110 := rep_ext e144 h110
    replace h114 := rep_ext e144 h114
    replace h120 := rep_ext e144 h120
    replace h131 := rep_ext e144 h131
    replace h135 := rep_ext e144 h135
    replace h139 := rep_ext e144 h139
    replace mu20 := mo_ext e144 mu20
    replace hW := hW.ret0 e144
    replace h143 : rep (L17 :: ms) H145 (eX A ((21, [x_a]) : Nat × List D)) (.ref p142) := h143
    refine ⟨(by show 4 ≤ sizeLine; decide), ?_⟩
    intro p146 n150
    have e147 := Rx.Ext.new (H := H145) (o := (HO.lst [(V.ref p130), (V.ref p134), (V.ref p138), (V.ref p142)])) n150
    have hp148 : upd H145 p146 (HO.lst [(V.ref p130), (V.ref p134), (V.ref p138), (V.ref p142)]) p146 = some (HO.lst [(V.ref p130), (V.ref p134), (V.ref p138), (V.ref p142)]) := upd_same
    generalize upd H145 p146 (HO.lst [(V.ref p130), (V.ref p134), (V.ref p138), (V.ref p142)]) = H151 at e147 hp148 ⊢
    have h149 : rep (L17 :: ms) H151 (D.lst (([((18, [x_a]) : Nat × List D), ((19, [x_a]) : Nat × List D), ((20, [x_a]) : Nat × List D), ((21, [x_a]) : Nat × List D)] : List (Nat × List D)).map (fun y_ : (Nat × List D) => (eX A y_)))) (.ref p146) := rep_lst_mk hW n150 e147 hp148 (repL_cons h131 (repL_cons h135 (repL_cons h139 (repL_cons h143 repL_nil))))
    replace h_a := rep_ext e147 h_a
    replace h_b := rep_ext e147 h_b
    replace h2 := rep_ext e147 h2
    replace h6 := rep_ext e147 h6
    replace h10 := rep_ext e147 h10
    replace h14 := rep_ext e147 h14
    replace h23 := rep_ext e147 h23
    replace h27 := rep_ext e147 h27
    replace h31 := rep_ext e147 h31
    replace h35 := rep_ext e147 h35
    replace h41 := rep_ext e147 h41
    replace h52 := rep_ext e147 h52
    replace h56 := rep_ext e147 h56
    replace h60 := rep_ext e147 h60
    replace h64 := rep_ext e147 h64
    replace h70 := rep_ext e147 h70
    replace h81 := rep_ext e147 h81
    replace h85 := rep_ext e147 h85
    replace h89 := rep_ext e147 h89
    replace h95 := rep_ext e147 h95
    replace h106 := rep_ext e147 h106
    replace h110 := rep_ext e147 h110
    replace h114 := rep_ext e147 h114
    replace h120 := rep_ext e147 h120
    replace h131 := rep_ext e147 h131
    replace h135 := rep_ext e147 h135
    replace h139 := rep_ext e147 h139
    replace h143 := rep_ext e147 h143
    replace mu20 := mo_ext e147 mu20
    replace hW := hW.ret0 e147
    obtain ⟨g152, hM⟩ := hM
    apply mo_extU (e := (fun y_ : (Nat × List D) => (eX A y_))) (ys := ([((18, [x_a]) : Nat × List D), ((19, [x_a]) : Nat × List D), ((20, [x_a]) : Nat × List D), ((21, [x_a]) : Nat × List D)] : List (Nat × List D))) mu20 h149 (by rw [List.length_map]; exact g152)
    intro vs153 us154 hr155 hr156
    have mk157 := mo_setL mu20 (repL_cat (e := (fun y_ : (Nat × List D) => (eX A y_))) (xs := ((((([((0, [x_a]) : Nat × List D), ((1, [x_a]) : Nat × List D), ((2, [x_a]) : Nat × List D), ((3, [x_a]) : Nat × List D)] : List (Nat × List D)) ++ ([((4, [x_a]) : Nat × List D), ((5, [x_a]) : Nat × List D), ((6, [x_a]) : Nat × List D), ((7, [x_a]) : Nat × List D)] : List (Nat × List D))) ++ ([((8, [x_a]) : Nat × List D), ((9, [x_a]) : Nat × List D), ((10, [x_a]) : Nat × List D), ((11, [x_a]) : Nat × List D)] : List (Nat × List D))) ++ ([((12, [x_a]) : Nat × List D), ((13, [x_a]) : Nat × List D), ((14, [x_a]) : Nat × List D)] : List (Nat × List D))) ++ ([((15, [x_a]) : Nat × List D), ((16, [x_a]) : Nat × List D), ((17, [x_a]) : Nat × List D)] : List (Nat × List D)))) (ys := ([((18, [x_a]) : Nat × List D), ((19, [x_a]) : Nat × List D), ((20, [x_a]) : Nat × List D), ((21, [x_a]) : Nat × List D)] : List (Nat × List D))) hr155 hr156)
    replace h_a := rep_put (o := .lst (vs153 ++ us154)) mu20.im h_a
    replace h_b := rep_put (o := .lst (vs153 ++ us154)) mu20.im h_b
    replace h2 := rep_put (o := .lst (vs153 ++ us154)) mu20.im h2
    replace h6 := rep_put (o := .lst (vs153 ++ us154)) mu20.im h6
    replace h10 := rep_put (o := .lst (vs153 ++ us154)) mu20.im h10
    replace h14 := rep_put (o := .lst (vs153 ++ us154)) mu20.im h14
    replace h23 := rep_put (o := .lst (vs153 ++ us154)) mu20.im h23
    replace h27 := rep_put (o := .lst (vs153 ++ us154)) mu20.im h27
    replace h31 := rep_put (o := .lst (vs153 ++ us154)) mu20.im h31
    replace h35 := rep_put (o := .lst (vs153 ++ us154)) mu20.im h35
    replace h41 := rep_put (o := .lst (vs153 ++ us154)) mu20.im h41
    replace h52 := rep_put (o := .lst (vs153 ++ us154)) mu20.im h52
    replace h56 := rep_put (o := .lst (vs153 ++ us154)) mu20.im h56
    replace h60 := rep_put (o := .lst (vs153 ++ us154)) mu20.im h60
    replace h64 := rep_put (o := .lst (vs153 ++ us154)) mu20.im h64
    replace h70 := rep_put (o := .lst (vs153 ++ us154)) mu20.im h70
    replace h81 := rep_put (o := .lst (vs153 ++ us154)) mu20.im h81
    replace h85 := rep_put (o := .lst (vs153 ++ us154)) mu20.im h85
    replace h89 := rep_put (o := .lst (vs153 ++ us154)) mu20.im h89
    replace h95 := rep_put (o := .lst (vs153 ++ us154)) mu20.im h95
    replace h106 := rep_put (o := .lst (vs153 ++ us154)) mu20.im h106
    replace h110 := rep_put (o := .lst (vs153 ++ us154)) mu20.im h110
    replace h114 := rep_put (o := .lst (vs153 ++ us154)) mu20.im h114
    replace h120 := rep_put (o := .lst (vs153 ++ us154)) mu20.im h120
    replace h131 := rep_put (o := .lst (vs153 ++ us154)) mu20.im h131
    replace h135 := rep_put (o := .lst (vs153 ++ us154)) mu20.im h135
    replace h139 := rep_put (o := .lst (vs153 ++ us154)) mu20.im h139
    replace h143 := rep_put (o := .lst (vs153 ++ us154)) mu20.im h143
    replace h149 := rep_put (o := .lst (vs153 ++ us154)) mu20.im h149
    replace hW := wd_put (o := .lst (vs153 ++ us154)) hW mu20
    replace mu20 := mk157
    generalize upd H151 L17 (.lst (vs153 ++ us154)) = H158 at *
    replace mu20 : MutO (L17 :: ms) [] H_0 H158 L17 (D.lst ((((((([((0, [x_a]) : Nat × List D), ((1, [x_a]) : Nat × List D), ((2, [x_a]) : Nat × List D), ((3, [x_a]) : Nat × List D)] : List (Nat × List D)) ++ ([((4, [x_a]) : Nat × List D), ((5, [x_a]) : Nat × List D), ((6, [x_a]) : Nat × List D), ((7, [x_a]) : Nat × List D)] : List (Nat × List D))) ++ ([((8, [x_a]) : Nat × List D), ((9, [x_a]) : Nat × List D), ((10, [x_a]) : Nat × List D), ((11, [x_a]) : Nat × List D)] : List (Nat × List D))) ++ ([((12, [x_a]) : Nat × List D), ((13, [x_a]) : Nat × List D), ((14, [x_a]) : Nat × List D)] : List (Nat × List D))) ++ ([((15, [x_a]) : Nat × List D), ((16, [x_a]) : Nat × List D), ((17, [x_a]) : Nat × List D)] : List (Nat × List D))) ++ ([((18, [x_a]) : Nat × List D), ((19, [x_a]) : Nat × List D), ((20, [x_a]) : Nat × List D), ((21, [x_a]) : Nat × List D)] : List (Nat × List D))).map (fun y_ : (Nat × List D) => (eX A y_)))) := mu20
    clear mk157
    refine ⟨_, rfl, ?_⟩
    refine ⟨mo_tyL mu20, ?_⟩
    refine ⟨_, rfl, ?_⟩
    conv => whnf
    apply rep_mkXK1 (C := A.c_CommandFailed) (n := "position") (by rfl) (by intro _; rfl) hW h_a
    intro p159 H162 e161 h160
    replace h_a := rep_ext e161 h_a
    replace h_b := rep_ext e161 h_b
    replace h2 := rep_ext e161 h2
    replace h6 := rep_ext e161 h6
    replace h10 := rep_ext e161 h10
    replace h14 := rep_ext e161 h14
    replace h23 := rep_ext e161 h23
    replace h27 := rep_ext e161 h27
    replace h31 := rep_ext e161 h31
    replace h35 := rep_ext e161 h35
    replace h41 := rep_ext e161 h41
    replace h52 := rep_ext e161 h52
    replace h56 := rep_ext e161 h56
    replace h60 := rep_ext e161 h60
    replace h64 := rep_ext e161 h64
    replace h70 := rep_ext e161 h70
    replace h81 := rep_ext e161 h81
    replace h85 := rep_ext e161 h85
    replace h89 := rep_ext e161 h89
    replace h95 := rep_ext e161 h95
    replace h106 := rep_ext e161 h106
    replace h110 := rep_ext e161 h110
    replace h114 := rep_ext e161 h114
    replace h120 := rep_ext e161 h120
    replace h131 := rep_ext e161 h131
    replace h135 := rep_ext e161 h135
    replace h139 := rep_ext e161 h139
    replace h143 := rep_ext e161 h143
    replace h149 := rep_ext e161 h149
    replace mu20 := mo_ext e161 mu20
    replace hW := hW.ret0 e161
    replace h160 : rep (L17 :: ms) H162 (eX A ((22, [x_a]) : Nat × List D)) (.ref p159) := h160
    refine ⟨_, rfl, ?_⟩
    conv => whnf
    apply rep_mkXK1 (C := A.c_NotRight) (n := "size") (by rfl) (by intro _; rfl) hW h_a
    intro p163 H166 e165 h164
    replace h_a := rep_ext e165 h_a
    replace h_b := rep_ext e165 h_b
    replace h2 := rep_ext e165 h2
    replace h6 := rep_ext e165 h6
    replace h10 := rep_ext e165 h10
    replace h14 := rep_ext e165 h14
    replace h23 := rep_ext e165 h23
    replace h27 := rep_ext e165 h27
    replace h31 := rep_ext e165 h31
    replace h35 := rep_ext e165 h35
    replace h41 := rep_ext e165 h41
    replace h52 := rep_ext e165 h52
    replace h56 := rep_ext e165 h56
    replace h60 := rep_ext e165 h60
    replace h64 := rep_ext e165 h64
    replace h70 := rep_ext e165 h70
    replace h81 := rep_ext e165 h81
    replace h85 := rep_ext e165 h85
    replace h89 := rep_ext e165 h89
    replace h95 := rep_ext e165 h95
    replace h106 := rep_ext e165 h106
    replace h110 := rep_ext e165 h110
    replace h114 := rep_ext e165 h114
    replace h120 := rep_ext e165 h120
    replace h131 := rep_ext e165 h131
    replace h135 := rep_ext e165 h135
    replace h139 := rep_ext e165 h139
    replace h143 := rep_ext e165 h143
    replace h149 := rep_ext e165 h149
    replace h160 := rep_ext e165 h160
    replace mu20 := mo_ext e165 mu20
    replace hW := hW.ret0 e165
    replace h164 : rep (L17 :: ms) H166 (eX A ((23, [x_a]) : Nat × List D)) (.ref p163) := h164
    refine ⟨_, rfl, ?_⟩
    refine ⟨_, rfl, ?_⟩
    conv => whnf
    apply rep_mkXK2 (C := A.c_NotSingle) (n := "one") (m := "other") (by rfl) (by intro _; rfl) hW h_a h_b
    intro p167 H170 e169 h168
    replace h_a := rep_ext e169 h_a
    replace h_b := rep_ext e169 h_b
    replace h2 := rep_ext e169 h2
    replace h6 := rep_ext e169 h6
    replace h10 := rep_ext e169 h10
    replace h14 := rep_ext e169 h14
    replace h23 := rep_ext e169 h23
    replace h27 := rep_ext e169 h27
    replace h31 := rep_ext e169 h31
    replace h35 := rep_ext e169 h35
    replace h41 := rep_ext e169 h41
    replace h52 := rep_ext e169 h52
    replace h56 := rep_ext e169 h56
    replace h60 := rep_ext e169 h60
    replace h64 := rep_ext e169 h64
    replace h70 := rep_ext e169 h70
    replace h81 := rep_ext e169 h81
    replace h85 := rep_ext e169 h85
    replace h89 := rep_ext e169 h89
    replace h95 := rep_ext e169 h95
    replace h106 := rep_ext e169 h106
    replace h110 := rep_ext e169 h110
    replace h114 := rep_ext e169 h114
    replace h120 := rep_ext e169 h120
    replace h131 := rep_ext e169 h131
    replace h135 := rep_ext e169 h135
    replace h139 := rep_ext e169 h139
    replace h143 := rep_ext e169 h143
    replace h149 := rep_ext e169 h149
    replace h160 := rep_ext e169 h160
    replace h164 := rep_ext e169 h164
    replace mu20 := mo_ext e169 mu20
    replace hW := hW.ret0 e169
    replace h168 : rep (L17 :: ms) H170 (eX A ((24, [x_b, x_a]) : Nat × List D)) (.ref p167) := h168
    refine ⟨(by show 3 ≤ sizeLine; decide), ?_⟩
    intro p171 n175
    have e172 := Rx.Ext.new (H := H170) (o := (HO.lst [(V.ref p159), (V.ref p163), (V.ref p167)])) n175
    have hp173 : upd H170 p171 (HO.lst [(V.ref p159), (V.ref p163), (V.ref p167)]) p171 = some (HO.lst [(V.ref p159), (V.ref p163), (V.ref p167)]) := upd_same
    generalize upd H170 p171 (HO.lst [(V.ref p159), (V.ref p163), (V.ref p167)]) = H176 at e172 hp173 ⊢
    have h174 : rep (L17 :: ms) H176 (D.lst (([((22, [x_a]) : Nat × List D), ((23, [x_a]) : Nat × List D), ((24, [x_b, x_a]) : Nat × List D)] : List (Nat × List D)).map (fun y_ : (Nat × List D) => (eX A y_)))) (.ref p171) := rep_lst_mk hW n175 e172 hp173 (repL_cons h160 (repL_cons h164 (repL_cons h168 repL_nil)))
    replace h_a := rep_ext e172 h_a
    replace h_b := rep_ext e172 h_b
    replace h2 := rep_ext e172 h2
    replace h6 := rep_ext e172 h6
    replace h10 := rep_ext e172 h10
    replace h14 := rep_ext e172 h14
    replace h23 := rep_ext e172 h23
    replace h27 := rep_ext e172 h27
    replace h31 := rep_ext e172 h31
    replace h35 := rep_ext e172 h35
    replace h41 := rep_ext e172 h41
    replace h52 := rep_ext e172 h52
    replace h56 := rep_ext e172 h56
    replace h60 := rep_ext e172 h60
    replace h64 := rep_ext e172 h64
    replace h70 := rep_ext e172 h70
    replace h81 := rep_ext e172 h81
    replace h85 := rep_ext e172 h85
    replace h89 := rep_ext e172 h89
    replace h95 := rep_ext e172 h95
    replace h106 := rep_ext e172 h106
    replace h110 := rep_ext e172 h110
    replace h114 := rep_ext e172 h114
    replace h120 := rep_ext e172 h120
    replace h131 := rep_ext e172 h131
    replace h135 := rep_ext e172 h135
    replace h139 := rep_ext e172 h139
    replace h143 := rep_ext e172 h143
    replace h149 := rep_ext e172 h149
    replace h160 := rep_ext e172 h160
    replace h164 := rep_ext e172 h164
    replace h168 := rep_ext e172 h168
    replace mu20 := mo_ext e172 mu20
    replace hW := hW.ret0 e172
    obtain ⟨g177, hM⟩ := hM
    apply mo_extU (e := (fun y_ : (Nat × List D) => (eX A y_))) (ys := ([((22, [x_a]) : Nat × List D), ((23, [x_a]) : Nat × List D), ((24, [x_b, x_a]) : Nat × List D)] : List (Nat × List D))) mu20 h174 (by rw [List.length_map]; exact g177)
    intro vs178 us179 hr180 hr181
    have mk182 := mo_setL mu20 (repL_cat (e := (fun y_ : (Nat × List D) => (eX A y_))) (xs := (((((([((0, [x_a]) : Nat × List D), ((1, [x_a]) : Nat × List D), ((2, [x_a]) : Nat × List D), ((3, [x_a]) : Nat × List D)] : List (Nat × List D)) ++ ([((4, [x_a]) : Nat × List D), ((5, [x_a]) : Nat × List D), ((6, [x_a]) : Nat × List D), ((7, [x_a]) : Nat × List D)] : List (Nat × List D))) ++ ([((8, [x_a]) : Nat × List D), ((9, [x_a]) : Nat × List D), ((10, [x_a]) : Nat × List D), ((11, [x_a]) : Nat × List D)] : List (Nat × List D))) ++ ([((12, [x_a]) : Nat × List D), ((13, [x_a]) : Nat × List D), ((14, [x_a]) : Nat × List D)] : List (Nat × List D))) ++ ([((15, [x_a]) : Nat × List D), ((16, [x_a]) : Nat × List D), ((17, [x_a]) : Nat × List D)] : List (Nat × List D))) ++ ([((18, [x_a]) : Nat × List D), ((19, [x_a]) : Nat × List D), ((20, [x_a]) : Nat × List D), ((21, [x_a]) : Nat × List D)] : List (Nat × List D)))) (ys := ([((22, [x_a]) : Nat × List D), ((23, [x_a]) : Nat × List D), ((24, [x_b, x_a]) : Nat × List D)] : List (Nat × List D))) hr180 hr181)
    replace h_a := rep_put (o := .lst (vs178 ++ us179)) mu20.im h_a
    replace h_b := rep_put (o := .lst (vs178 ++ us179)) mu20.im h_b
    replace h2 := rep_put (o := .lst (vs178 ++ us179)) mu20.im h2
    replace h6 := rep_put (o := .lst (vs178 ++ us179)) mu20.im h6
    replace h10 := rep_put (o := .lst (vs178 ++ us179)) mu20.im h10
    replace h14 := rep_put (o := .lst (vs178 ++ us179)) mu20.im h14
    replace h23 := rep_put (o := .lst (vs178 ++ us179)) mu20.im h23
    replace h27 := rep_put (o := .lst (vs178 ++ us179)) mu20.im h27
    replace h31 := rep_put (o := .lst (vs178 ++ us179)) mu20.im h31
    replace h35 := rep_put (o := .lst (vs178 ++ us179)) mu20.im h35
    replace h41 := rep_put (o := .lst (vs178 ++ us179)) mu20.im h41
    replace h52 := rep_put (o := .lst (vs178 ++ us179)) mu20.im h52
    replace h56 := rep_put (o := .lst (vs178 ++ us179)) mu20.im h56
    replace h60 := rep_put (o := .lst (vs178 ++ us179)) mu20.im h60
    replace h64 := rep_put (o := .lst (vs178 ++ us179)) mu20.im h64
    replace h70 := rep_put (o := .lst (vs178 ++ us179)) mu20.im h70
    replace h81 := rep_put (o := .lst (vs178 ++ us179)) mu20.im h81
    replace h85 := rep_put (o := .lst (vs178 ++ us179)) mu20.im h85
    replace h89 := rep_put (o := .lst (vs178 ++ us179)) mu20.im h89
    replace h95 := rep_put (o := .lst (vs178 ++ us179)) mu20.im h95
    replace h106 := rep_put (o := .lst (vs178 ++ us179)) mu20.im h106
    replace h110 := rep_put (o := .lst (vs178 ++ us179)) mu20.im h110
    replace h114 := rep_put (o := .lst (vs178 ++ us179)) mu20.im h114
    replace h120 := rep_put (o := .lst (vs178 ++ us179)) mu20.im h120
    replace h131 := rep_put (o := .lst (vs178 ++ us179)) mu20.im h131
    replace h135 := rep_put (o := .lst (vs178 ++ us179)) mu20.im h135
    replace h139 := rep_put (o := .lst (vs178 ++ us179)) mu20.im h139
    replace h143 := rep_put (o := .lst (vs178 ++ us179)) mu20.im h143
    replace h149 := rep_put (o := .lst (vs178 ++ us179)) mu20.im h149
    replace h160 := rep_put (o := .lst (vs178 ++ us179)) mu20.im h160
    replace h164 := rep_put (o := .lst (vs178 ++ us179)) mu20.im h164
    replace h168 := rep_put (o := .lst (vs178 ++ us179)) mu20.im h168
    replace h174 := rep_put (o := .lst (vs178 ++ us179)) mu20.im h174
    replace hW := wd_put (o := .lst (vs178 ++ us179)) hW mu20
    replace mu20 := mk182
    generalize upd H176 L17 (.lst (vs178 ++ us179)) = H183 at *
    replace mu20 : MutO (L17 :: ms) [] H_0 H183 L17 (D.lst (((((((([((0, [x_a]) : Nat × List D), ((1, [x_a]) : Nat × List D), ((2, [x_a]) : Nat × List D), ((3, [x_a]) : Nat × List D)] : List (Nat × List D)) ++ ([((4, [x_a]) : Nat × List D), ((5, [x_a]) : Nat × List D), ((6, [x_a]) : Nat × List D), ((7, [x_a]) : Nat × List D)] : List (Nat × List D))) ++ ([((8, [x_a]) : Nat × List D), ((9, [x_a]) : Nat × List D), ((10, [x_a]) : Nat × List D), ((11, [x_a]) : Nat × List D)] : List (Nat × List D))) ++ ([((12, [x_a]) : Nat × List D), ((13, [x_a]) : Nat × List D), ((14, [x_a]) : Nat × List D)] : List (Nat × List D))) ++ ([((15, [x_a]) : Nat × List D), ((16, [x_a]) : Nat × List D), ((17, [x_a]) : Nat × List D)] : List (Nat × List D))) ++ ([((18, [x_a]) : Nat × List D), ((19, [x_a]) : Nat × List D), ((20, [x_a]) : Nat × List D), ((21, [x_a]) : Nat × List D)] : List (Nat × List D))) ++ ([((22, [x_a]) : Nat × List D), ((23, [x_a]) : Nat × List D), ((24, [x_b, x_a]) : Nat × List D)] : List (Nat × List D))).map (fun y_ : (Nat × List D) => (eX A y_)))) := mu20
    clear mk182
    refine ⟨_, rfl, ?_⟩
    refine ⟨mo_tyL mu20, ?_⟩
    refine ⟨_, rfl, ?_⟩
    refine ⟨_, rfl, ?_⟩
    conv => whnf
    apply rep_mkXK2 (C := A.c_NotOpen) (n := "home") (m := "away") (by rfl) (by intro _; rfl) hW h_a h_b
    intro p184 H187 e186 h185
    replace h_a := rep_ext e186 h_a
    replace h_b := rep_ext e186 h_b
    replace h2 := rep_ext e186 h2
    replace h6 := rep_ext e186 h6
    replace h10 := rep_ext e186 h10
    replace h14 := rep_ext e186 h14
    replace h23 := rep_ext e186 h23
    replace h27 := rep_ext e186 h27
    replace h31 := rep_ext e186 h31
    replace h35 := rep_ext e186 h35
    replace h41 := rep_ext e186 h41
    replace h52 := rep_ext e186 h52
    replace h56 := rep_ext e186 h56
    replace h60 := rep_ext e186 h60
    replace h64 := rep_ext e186 h64
    replace h70 := rep_ext e186 h70
    replace h81 := rep_ext e186 h81
    replace h85 := rep_ext e186 h85
    replace h89 := rep_ext e186 h89
    replace h95 := rep_ext e186 h95
    replace h106 := rep_ext e186 h106
    replace h110 := rep_ext e186 h110
    replace h114 := rep_ext e186 h114
    replace h120 := rep_ext e186 h120
    replace h131 := rep_ext e186 h131
    replace h135 := rep_ext e186 h135
    replace h139 := rep_ext e186 h139
    replace h143 := rep_ext e186 h143
    replace h149 := rep_ext e186 h149
    replace h160 := rep_ext e186 h160
    replace h164 := rep_ext e186 h164
    replace h168 := rep_ext e186 h168
    replace h174 := rep_ext e186 h174
    replace mu20 := mo_ext e186 mu20
    replace hW := hW.ret0 e186
    replace h185 : rep (L17 :: ms) H187 (eX A ((25, [x_b, x_a]) : Nat × List D)) (.ref p184) := h185
    refine ⟨_, rfl, ?_⟩
    refine ⟨_, rfl, ?_⟩
    conv => whnf
    apply rep_mkXK2 (C := A.c_Unplayed) (n := "home") (m := "away") (by rfl) (by intro _; rfl) hW h_a h_b
    intro p188 H191 e190 h189
    replace h_a := rep_ext e190 h_a
    replace h_b := rep_ext e190 h_b
    replace h2 := rep_ext e190 h2
    replace h6 := rep_ext e190 h6
    replace h10 := rep_ext e190 h10
    replace h14 := rep_ext e190 h14
    replace h23 := rep_ext e190 h23
    replace h27 := rep_ext e190 h27
    replace h31 := rep_ext e190 h31
    replace h35 := rep_ext e190 h35
    replace h41 := rep_ext e190 h41
    replace h52 := rep_ext e190 h52
    replace h56 := rep_ext e190 h56
    replace h60 := rep_ext e190 h60
    replace h64 := rep_ext e190 h64
    replace h70 := rep_ext e190 h70
    replace h81 := rep_ext e190 h81
    replace h85 := rep_ext e190 h85
    replace h89 := rep_ext e190 h89
    replace h95 := rep_ext e190 h95
    replace h106 := rep_ext e190 h106
    replace h110 := rep_ext e190 h110
    replace h114 := rep_ext e190 h114
    replace h120 := rep_ext e190 h120
    replace h131 := rep_ext e190 h131
    replace h135 := rep_ext e190 h135
    replace h139 := rep_ext e190 h139
    replace h143 := rep_ext e190 h143
    replace h149 := rep_ext e190 h149
    replace h160 := rep_ext e190 h160
    replace h164 := rep_ext e190 h164
    replace h168 := rep_ext e190 h168
    replace h174 := rep_ext e190 h174
    replace h185 := rep_ext e190 h185
    replace mu20 := mo_ext e190 mu20
    replace hW := hW.ret0 e190
    replace h189 : rep (L17 :: ms) H191 (eX A ((26, [x_b, x_a]) : Nat × List D)) (.ref p188) := h189
    refine ⟨_, rfl, ?_⟩
    refine ⟨_, rfl, ?_⟩
    conv => whnf
    apply rep_mkXK2 (C := A.c_TooMany) (n := "what") (m := "limit") (by rfl) (by intro _; rfl) hW h_a h_b
    intro p192 H195 e194 h193
    replace h_a := rep_ext e194 h_a
    replace h_b := rep_ext e194 h_b
    replace h2 := rep_ext e194 h2
    replace h6 := rep_ext e194 h6
    replace h10 := rep_ext e194 h10
    replace h14 := rep_ext e194 h14
    replace h23 := rep_ext e194 h23
    replace h27 := rep_ext e194 h27
    replace h31 := rep_ext e194 h31
    replace h35 := rep_ext e194 h35
    replace h41 := rep_ext e194 h41
    replace h52 := rep_ext e194 h52
    replace h56 := rep_ext e194 h56
    replace h60 := rep_ext e194 h60
    replace h64 := rep_ext e194 h64
    replace h70 := rep_ext e194 h70
    replace h81 := rep_ext e194 h81
    replace h85 := rep_ext e194 h85
    replace h89 := rep_ext e194 h89
    replace h95 := rep_ext e194 h95
    replace h106 := rep_ext e194 h106
    replace h110 := rep_ext e194 h110
    replace h114 := rep_ext e194 h114
    replace h120 := rep_ext e194 h120
    replace h131 := rep_ext e194 h131
    replace h135 := rep_ext e194 h135
    replace h139 := rep_ext e194 h139
    replace h143 := rep_ext e194 h143
    replace h149 := rep_ext e194 h149
    replace h160 := rep_ext e194 h160
    replace h164 := rep_ext e194 h164
    replace h168 := rep_ext e194 h168
    replace h174 := rep_ext e194 h174
    replace h185 := rep_ext e194 h185
    replace h189 := rep_ext e194 h189
    replace mu20 := mo_ext e194 mu20
    replace hW := hW.ret0 e194
    replace h193 : rep (L17 :: ms) H195 (eX A ((27, [x_b, x_a]) : Nat × List D)) (.ref p192) := h193
    refine ⟨(by show 3 ≤ sizeLine; decide), ?_⟩
    intro p196 n200
    have e197 := Rx.Ext.new (H := H195) (o := (HO.lst [(V.ref p184), (V.ref p188), (V.ref p192)])) n200
    have hp198 : upd H195 p196 (HO.lst [(V.ref p184), (V.ref p188), (V.ref p192)]) p196 = some (HO.lst [(V.ref p184), (V.ref p188), (V.ref p192)]) := upd_same
    generalize upd H195 p196 (HO.lst [(V.ref p184), (V.ref p188), (V.ref p192)]) = H201 at e197 hp198 ⊢
    have h199 : rep (L17 :: ms) H201 (D.lst (([((25, [x_b, x_a]) : Nat × List D), ((26, [x_b, x_a]) : Nat × List D), ((27, [x_b, x_a]) : Nat × List D)] : List (Nat × List D)).map (fun y_ : (Nat × List D) => (eX A y_)))) (.ref p196) := rep_lst_mk hW n200 e197 hp198 (repL_cons h185 (repL_cons h189 (repL_cons h193 repL_nil)))
    replace h_a := rep_ext e197 h_a
    replace h_b := rep_ext e197 h_b
    replace h2 := rep_ext e197 h2
    replace h6 := rep_ext e197 h6
    replace h10 := rep_ext e197 h10
    replace h14 := rep_ext e197 h14
    replace h23 := rep_ext e197 h23
    replace h27 := rep_ext e197 h27
    replace h31 := rep_ext e197 h31
    replace h35 := rep_ext e197 h35
    replace h41 := rep_ext e197 h41
    replace h52 := rep_ext e197 h52
    replace h56 := rep_ext e197 h56
    replace h60 := rep_ext e197 h60
    replace h64 := rep_ext e197 h64
    replace h70 := rep_ext e197 h70
    replace h81 := rep_ext e197 h81
    replace h85 := rep_ext e197 h85
    replace h89 := rep_ext e197 h89
    replace h95 := rep_ext e197 h95
    replace h106 := rep_ext e197 h106
    replace h110 := rep_ext e197 h110
    replace h114 := rep_ext e197 h114
    replace h120 := rep_ext e197 h120
    replace h131 := rep_ext e197 h131
    replace h135 := rep_ext e197 h135
    replace h139 := rep_ext e197 h139
    replace h143 := rep_ext e197 h143
    replace h149 := rep_ext e197 h149
    replace h160 := rep_ext e197 h160
    replace h164 := rep_ext e197 h164
    replace h168 := rep_ext e197 h168
    replace h174 := rep_ext e197 h174
    replace h185 := rep_ext e197 h185
    replace h189 := rep_ext e197 h189
    replace h193 := rep_ext e197 h193
    replace mu20 := mo_ext e197 mu20
    replace hW := hW.ret0 e197
    obtain ⟨g202, hM⟩ := hM
    apply mo_extU (e := (fun y_ : (Nat × List D) => (eX A y_))) (ys := ([((25, [x_b, x_a]) : Nat × List D), ((26, [x_b, x_a]) : Nat × List D), ((27, [x_b, x_a]) : Nat × List D)] : List (Nat × List D))) mu20 h199 (by rw [List.length_map]; exact g202)
    intro vs203 us204 hr205 hr206
    have mk207 := mo_setL mu20 (repL_cat (e := (fun y_ : (Nat × List D) => (eX A y_))) (xs := ((((((([((0, [x_a]) : Nat × List D), ((1, [x_a]) : Nat × List D), ((2, [x_a]) : Nat × List D), ((3, [x_a]) : Nat × List D)] : List (Nat × List D)) ++ ([((4, [x_a]) : Nat × List D), ((5, [x_a]) : Nat × List D), ((6, [x_a]) : Nat × List D), ((7, [x_a]) : Nat × List D)] : List (Nat × List D))) ++ ([((8, [x_a]) : Nat × List D), ((9, [x_a]) : Nat × List D), ((10, [x_a]) : Nat × List D), ((11, [x_a]) : Nat × List D)] : List (Nat × List D))) ++ ([((12, [x_a]) : Nat × List D), ((13, [x_a]) : Nat × List D), ((14, [x_a]) : Nat × List D)] : List (Nat × List D))) ++ ([((15, [x_a]) : Nat × List D), ((16, [x_a]) : Nat × List D), ((17, [x_a]) : Nat × List D)] : List (Nat × List D))) ++ ([((18, [x_a]) : Nat × List D), ((19, [x_a]) : Nat × List D), ((20, [x_a]) : Nat × List D), ((21, [x_a]) : Nat × List D)] : List (Nat × List D))) ++ ([((22, [x_a]) : Nat × List D), ((23, [x_a]) : Nat × List D), ((24, [x_b, x_a]) : Nat × List D)] : List (Nat × List D)))) (ys := ([((25, [x_b, x_a]) : Nat × List D), ((26, [x_b, x_a]) : Nat × List D), ((27, [x_b, x_a]) : Nat × List D)] : List (Nat × List D))) hr205 hr206)
    replace h_a := rep_put (o := .lst (vs203 ++ us204)) mu20.im h_a
    replace h_b := rep_put (o := .lst (vs203 ++ us204)) mu20.im h_b
    replace h2 := rep_put (o := .lst (vs203 ++ us204)) mu20.im h2
    replace h6 := rep_put (o := .lst (vs203 ++ us204)) mu20.im h6
    replace h10 := rep_put (o := .lst (vs203 ++ us204)) mu20.im h10
    replace h14 := rep_put (o := .lst (vs203 ++ us204)) mu20.im h14
    replace h23 := rep_put (o := .lst (vs203 ++ us204)) mu20.im h23
    replace h27 := rep_put (o := .lst (vs203 ++ us204)) mu20.im h27
    replace h31 := rep_put (o := .lst (vs203 ++ us204)) mu20.im h31
    replace h35 := rep_put (o := .lst (vs203 ++ us204)) mu20.im h35
    replace h41 := rep_put (o := .lst (vs203 ++ us204)) mu20.im h41
    replace h52 := rep_put (o := .lst (vs203 ++ us204)) mu20.im h52
    replace h56 := rep_put (o := .lst (vs203 ++ us204)) mu20.im h56
    replace h60 := rep_put (o := .lst (vs203 ++ us204)) mu20.im h60
    replace h64 := rep_put (o := .lst (vs203 ++ us204)) mu20.im h64
    replace h70 := rep_put (o := .lst (vs203 ++ us204)) mu20.im h70
    replace h81 := rep_put (o := .lst (vs203 ++ us204)) mu20.im h81
    replace h85 := rep_put (o := .lst (vs203 ++ us204)) mu20.im h85
    replace h89 := rep_put (o := .lst (vs203 ++ us204)) mu20.im h89
    replace h95 := rep_put (o := .lst (vs203 ++ us204)) mu20.im h95
    replace h106 := rep_put (o := .lst (vs203 ++ us204)) mu20.im h106
    replace h110 := rep_put (o := .lst (vs203 ++ us204)) mu20.im h110
    replace h114 := rep_put (o := .lst (vs203 ++ us204)) mu20.im h114
    replace h120 := rep_put (o := .lst (vs203 ++ us204)) mu20.im h120
    replace h131 := rep_put (o := .lst (vs203 ++ us204)) mu20.im h131
    replace h135 := rep_put (o := .lst (vs203 ++ us204)) mu20.im h135
    replace h139 := rep_put (o := .lst (vs203 ++ us204)) mu20.im h139
    replace h143 := rep_put (o := .lst (vs203 ++ us204)) mu20.im h143
    replace h149 := rep_put (o := .lst (vs203 ++ us204)) mu20.im h149
    replace h160 := rep_put (o := .lst (vs203 ++ us204)) mu20.im h160
    replace h164 := rep_put (o := .lst (vs203 ++ us204)) mu20.im h164
    replace h168 := rep_put (o := .lst (vs203 ++ us204)) mu20.im h168
    replace h174 := rep_put (o := .lst (vs203 ++ us204)) mu20.im h174
    replace h185 := rep_put (o := .lst (vs203 ++ us204)) mu20.im h185
    replace h189 := rep_put (o := .lst (vs203 ++ us204)) mu20.im h189
    replace h193 := rep_put (o := .lst (vs203 ++ us204)) mu20.im h193
    replace h199 := rep_put (o := .lst (vs203 ++ us204)) mu20.im h199
    replace hW := wd_put (o := .lst (vs203 ++ us204)) hW mu20
    replace mu20 := mk207
    generalize upd H201 L17 (.lst (vs203 ++ us204)) = H208 at *
    replace mu20 : MutO (L17 :: ms) [] H_0 H208 L17 (D.lst ((((((((([((0, [x_a]) : Nat × List D), ((1, [x_a]) : Nat × List D), ((2, [x_a]) : Nat × List D), ((3, [x_a]) : Nat × List D)] : List (Nat × List D)) ++ ([((4, [x_a]) : Nat × List D), ((5, [x_a]) : Nat × List D), ((6, [x_a]) : Nat × List D), ((7, [x_a]) : Nat × List D)] : List (Nat × List D))) ++ ([((8, [x_a]) : Nat × List D), ((9, [x_a]) : Nat × List D), ((10, [x_a]) : Nat × List D), ((11, [x_a]) : Nat × List D)] : List (Nat × List D))) ++ ([((12, [x_a]) : Nat × List D), ((13, [x_a]) : Nat × List D), ((14, [x_a]) : Nat × List D)] : List (Nat × List D))) ++ ([((15, [x_a]) : Nat × List D), ((16, [x_a]) : Nat × List D), ((17, [x_a]) : Nat × List D)] : List (Nat × List D))) ++ ([((18, [x_a]) : Nat × List D), ((19, [x_a]) : Nat × List D), ((20, [x_a]) : Nat × List D), ((21, [x_a]) : Nat × List D)] : List (Nat × List D))) ++ ([((22, [x_a]) : Nat × List D), ((23, [x_a]) : Nat × List D), ((24, [x_b, x_a]) : Nat × List D)] : List (Nat × List D))) ++ ([((25, [x_b, x_a]) : Nat × List D), ((26, [x_b, x_a]) : Nat × List D), ((27, [x_b, x_a]) : Nat × List D)] : List (Nat × List D))).map (fun y_ : (Nat × List D) => (eX A y_)))) := mu20
    clear mk207
    have h209 := mo_rep_dr dr_here nm19 mu20
    replace hW := wd_dr dr_here mu20.hp hW
    replace h_a := rep_dr dr_here h_a
    replace h_b := rep_dr dr_here h_b
    replace h2 := rep_dr dr_here h2
    replace h6 := rep_dr dr_here h6
    replace h10 := rep_dr dr_here h10
    replace h14 := rep_dr dr_here h14
    replace h23 := rep_dr dr_here h23
    replace h27 := rep_dr dr_here h27
    replace h31 := rep_dr dr_here h31
    replace h35 := rep_dr dr_here h35
    replace h41 := rep_dr dr_here h41
    replace h52 := rep_dr dr_here h52
    replace h56 := rep_dr dr_here h56
    replace h60 := rep_dr dr_here h60
    replace h64 := rep_dr dr_here h64
    replace h70 := rep_dr dr_here h70
    replace h81 := rep_dr dr_here h81
    replace h85 := rep_dr dr_here h85
    replace h89 := rep_dr dr_here h89
    replace h95 := rep_dr dr_here h95
    replace h106 := rep_dr dr_here h106
    replace h110 := rep_dr dr_here h110
    replace h114 := rep_dr dr_here h114
    replace h120 := rep_dr dr_here h120
    replace h131 := rep_dr dr_here h131
    replace h135 := rep_dr dr_here h135
    replace h139 := rep_dr dr_here h139
    replace h143 := rep_dr dr_here h143
    replace h149 := rep_dr dr_here h149
    replace h160 := rep_dr dr_here h160
    replace h164 := rep_dr dr_here h164
    replace h168 := rep_dr dr_here h168
    replace h174 := rep_dr dr_here h174
    replace h185 := rep_dr dr_here h185
    replace h189 := rep_dr dr_here h189
    replace h193 := rep_dr dr_here h193
    replace h199 := rep_dr dr_here h199
    clear mu20
    refine ⟨_, rfl, ?_⟩
    conv => whnf
    apply rep_mkXK0 (C := A.c_NoRound)  hW 
    intro p210 H213 e212 h211
    replace h_a := rep_ext e212 h_a
    replace h_b := rep_ext e212 h_b
    replace h2 := rep_ext e212 h2
    replace h6 := rep_ext e212 h6
    replace h10 := rep_ext e212 h10
    replace h14 := rep_ext e212 h14
    replace h23 := rep_ext e212 h23
    replace h27 := rep_ext e212 h27
    replace h31 := rep_ext e212 h31
    replace h35 := rep_ext e212 h35
    replace h41 := rep_ext e212 h41
    replace h52 := rep_ext e212 h52
    replace h56 := rep_ext e212 h56
    replace h60 := rep_ext e212 h60
    replace h64 := rep_ext e212 h64
    replace h70 := rep_ext e212 h70
    replace h81 := rep_ext e212 h81
    replace h85 := rep_ext e212 h85
    replace h89 := rep_ext e212 h89
    replace h95 := rep_ext e212 h95
    replace h106 := rep_ext e212 h106
    replace h110 := rep_ext e212 h110
    replace h114 := rep_ext e212 h114
    replace h120 := rep_ext e212 h120
    replace h131 := rep_ext e212 h131
    replace h135 := rep_ext e212 h135
    replace h139 := rep_ext e212 h139
    replace h143 := rep_ext e212 h143
    replace h149 := rep_ext e212 h149
    replace h160 := rep_ext e212 h160
    replace h164 := rep_ext e212 h164
    replace h168 := rep_ext e212 h168
    replace h174 := rep_ext e212 h174
    replace h185 := rep_ext e212 h185
    replace h189 := rep_ext e212 h189
    replace h193 := rep_ext e212 h193
    replace h199 := rep_ext e212 h199
    replace h209 := rep_ext e212 h209
    replace hW := hW.ret0 e212
    replace h211 : rep ms H213 (eX A ((28, []) : Nat × List D)) (.ref p210) := h211
    conv => whnf
    apply rep_mkXK0 (C := A.c_NothingToUndo)  hW 
    intro p214 H217 e216 h215
    replace h_a := rep_ext e216 h_a
    replace h_b := rep_ext e216 h_b
    replace h2 := rep_ext e216 h2
    replace h6 := rep_ext e216 h6
    replace h10 := rep_ext e216 h10
    replace h14 := rep_ext e216 h14
    replace h23 := rep_ext e216 h23
    replace h27 := rep_ext e216 h27
    replace h31 := rep_ext e216 h31
    replace h35 := rep_ext e216 h35
    replace h41 := rep_ext e216 h41
    replace h52 := rep_ext e216 h52
    replace h56 := rep_ext e216 h56
    replace h60 := rep_ext e216 h60
    replace h64 := rep_ext e216 h64
    replace h70 := rep_ext e216 h70
    replace h81 := rep_ext e216 h81
    replace h85 := rep_ext e216 h85
    replace h89 := rep_ext e216 h89
    replace h95 := rep_ext e216 h95
    replace h106 := rep_ext e216 h106
    replace h110 := rep_ext e216 h110
    replace h114 := rep_ext e216 h114
    replace h120 := rep_ext e216 h120
    replace h131 := rep_ext e216 h131
    replace h135 := rep_ext e216 h135
    replace h139 := rep_ext e216 h139
    replace h143 := rep_ext e216 h143
    replace h149 := rep_ext e216 h149
    replace h160 := rep_ext e216 h160
    replace h164 := rep_ext e216 h164
    replace h168 := rep_ext e216 h168
    replace h174 := rep_ext e216 h174
    replace h185 := rep_ext e216 h185
    replace h189 := rep_ext e216 h189
    replace h193 := rep_ext e216 h193
    replace h199 := rep_ext e216 h199
    replace h209 := rep_ext e216 h209
    replace h211 := rep_ext e216 h211
    replace hW := hW.ret0 e216
    replace h215 : rep ms H217 (eX A ((29, []) : Nat × List D)) (.ref p214) := h215
    refine ⟨(by show 2 ≤ sizeLine; decide), ?_⟩
    intro p218 n222
    have e219 := Rx.Ext.new (H := H217) (o := (HO.lst [(V.ref p210), (V.ref p214)])) n222
    have hp220 : upd H217 p218 (HO.lst [(V.ref p210), (V.ref p214)]) p218 = some (HO.lst [(V.ref p210), (V.ref p214)]) := upd_same
    generalize upd H217 p218 (HO.lst [(V.ref p210), (V.ref p214)]) = H223 at e219 hp220 ⊢
    have h221 : rep ms H223 (D.lst (([((28, []) : Nat × List D), ((29, []) : Nat × List D)] : List (Nat × List D)).map (fun y_ : (Nat × List D) => (eX A y_)))) (.ref p218) := rep_lst_mk hW n222 e219 hp220 (repL_cons h211 (repL_cons h215 repL_nil))
    replace h_a := rep_ext e219 h_a
    replace h_b := rep_ext e219 h_b
    replace h2 := rep_ext e219 h2
    replace h6 := rep_ext e219 h6
    replace h10 := rep_ext e219 h10
    replace h14 := rep_ext e219 h14
    replace h23 := rep_ext e219 h23
    replace h27 := rep_ext e219 h27
    replace h31 := rep_ext e219 h31
    replace h35 := rep_ext e219 h35
    replace h41 := rep_ext e219 h41
    replace h52 := rep_ext e219 h52
    replace h56 := rep_ext e219 h56
    replace h60 := rep_ext e219 h60
    replace h64 := rep_ext e219 h64
    replace h70 := rep_ext e219 h70
    replace h81 := rep_ext e219 h81
    replace h85 := rep_ext e219 h85
    replace h89 := rep_ext e219 h89
    replace h95 := rep_ext e219 h95
    replace h106 := rep_ext e219 h106
    replace h110 := rep_ext e219 h110
    replace h114 := rep_ext e219 h114
    replace h120 := rep_ext e219 h120
    replace h131 := rep_ext e219 h131
    replace h135 := rep_ext e219 h135
    replace h139 := rep_ext e219 h139
    replace h143 := rep_ext e219 h143
    replace h149 := rep_ext e219 h149
    replace h160 := rep_ext e219 h160
    replace h164 := rep_ext e219 h164
    replace h168 := rep_ext e219 h168
    replace h174 := rep_ext e219 h174
    replace h185 := rep_ext e219 h185
    replace h189 := rep_ext e219 h189
    replace h193 := rep_ext e219 h193
    replace h199 := rep_ext e219 h199
    replace h209 := rep_ext e219 h209
    replace h211 := rep_ext e219 h211
    replace h215 := rep_ext e219 h215
    replace hW := hW.ret0 e219
    obtain ⟨g224, hM⟩ := hM
    apply rep_cat (xs := (((((((([((0, [x_a]) : Nat × List D), ((1, [x_a]) : Nat × List D), ((2, [x_a]) : Nat × List D), ((3, [x_a]) : Nat × List D)] : List (Nat × List D)) ++ ([((4, [x_a]) : Nat × List D), ((5, [x_a]) : Nat × List D), ((6, [x_a]) : Nat × List D), ((7, [x_a]) : Nat × List D)] : List (Nat × List D))) ++ ([((8, [x_a]) : Nat × List D), ((9, [x_a]) : Nat × List D), ((10, [x_a]) : Nat × List D), ((11, [x_a]) : Nat × List D)] : List (Nat × List D))) ++ ([((12, [x_a]) : Nat × List D), ((13, [x_a]) : Nat × List D), ((14, [x_a]) : Nat × List D)] : List (Nat × List D))) ++ ([((15, [x_a]) : Nat × List D), ((16, [x_a]) : Nat × List D), ((17, [x_a]) : Nat × List D)] : List (Nat × List D))) ++ ([((18, [x_a]) : Nat × List D), ((19, [x_a]) : Nat × List D), ((20, [x_a]) : Nat × List D), ((21, [x_a]) : Nat × List D)] : List (Nat × List D))) ++ ([((22, [x_a]) : Nat × List D), ((23, [x_a]) : Nat × List D), ((24, [x_b, x_a]) : Nat × List D)] : List (Nat × List D))) ++ ([((25, [x_b, x_a]) : Nat × List D), ((26, [x_b, x_a]) : Nat × List D), ((27, [x_b, x_a]) : Nat × List D)] : List (Nat × List D)))) (ys := ([((28, []) : Nat × List D), ((29, []) : Nat × List D)] : List (Nat × List D))) (e := (fun y_ : (Nat × List D) => (eX A y_))) hW h209 h221 g224
    intro p225 H228 e227 h226
    replace h_a := rep_ext e227 h_a
    replace h_b := rep_ext e227 h_b
    replace h2 := rep_ext e227 h2
    replace h6 := rep_ext e227 h6
    replace h10 := rep_ext e227 h10
    replace h14 := rep_ext e227 h14
    replace h23 := rep_ext e227 h23
    replace h27 := rep_ext e227 h27
    replace h31 := rep_ext e227 h31
    replace h35 := rep_ext e227 h35
    replace h41 := rep_ext e227 h41
    replace h52 := rep_ext e227 h52
    replace h56 := rep_ext e227 h56
    replace h60 := rep_ext e227 h60
    replace h64 := rep_ext e227 h64
    replace h70 := rep_ext e227 h70
    replace h81 := rep_ext e227 h81
    replace h85 := rep_ext e227 h85
    replace h89 := rep_ext e227 h89
    replace h95 := rep_ext e227 h95
    replace h106 := rep_ext e227 h106
    replace h110 := rep_ext e227 h110
    replace h114 := rep_ext e227 h114
    replace h120 := rep_ext e227 h120
    replace h131 := rep_ext e227 h131
    replace h135 := rep_ext e227 h135
    replace h139 := rep_ext e227 h139
    replace h143 := rep_ext e227 h143
    replace h149 := rep_ext e227 h149
    replace h160 := rep_ext e227 h160
    replace h164 := rep_ext e227 h164
    replace h168 := rep_ext e227 h168
    replace h174 := rep_ext e227 h174
    replace h185 := rep_ext e227 h185
    replace h189 := rep_ext e227 h189
    replace h193 := rep_ext e227 h193
    replace h199 := rep_ext e227 h199
    replace h209 := rep_ext e227 h209
    replace h211 := rep_ext e227 h211
    replace h215 := rep_ext e227 h215
    replace h221 := rep_ext e227 h221
    replace hW := hW.ret0 e227
    exact hQ ((((((((([((0, [x_a]) : Nat × List D), ((1, [x_a]) : Nat × List D), ((2, [x_a]) : Nat × List D), ((3, [x_a]) : Nat × List D)] : List (Nat × List D)) ++ ([((4, [x_a]) : Nat × List D), ((5, [x_a]) : Nat × List D), ((6, [x_a]) : Nat × List D), ((7, [x_a]) : Nat × List D)] : List (Nat × List D))) ++ ([((8, [x_a]) : Nat × List D), ((9, [x_a]) : Nat × List D), ((10, [x_a]) : Nat × List D), ((11, [x_a]) : Nat × List D)] : List (Nat × List D))) ++ ([((12, [x_a]) : Nat × List D), ((13, [x_a]) : Nat × List D), ((14, [x_a]) : Nat × List D)] : List (Nat × List D))) ++ ([((15, [x_a]) : Nat × List D), ((16, [x_a]) : Nat × List D), ((17, [x_a]) : Nat × List D)] : List (Nat × List D))) ++ ([((18, [x_a]) : Nat × List D), ((19, [x_a]) : Nat × List D), ((20, [x_a]) : Nat × List D), ((21, [x_a]) : Nat × List D)] : List (Nat × List D))) ++ ([((22, [x_a]) : Nat × List D), ((23, [x_a]) : Nat × List D), ((24, [x_b, x_a]) : Nat × List D)] : List (Nat × List D))) ++ ([((25, [x_b, x_a]) : Nat × List D), ((26, [x_b, x_a]) : Nat × List D), ((27, [x_b, x_a]) : Nat × List D)] : List (Nat × List D))) ++ ([((28, []) : Nat × List D), ((29, []) : Nat × List D)] : List (Nat × List D))) _ _ hM hW.out h226
def M_kept (x_k : Int) (x_e : (Nat × List D)) (KM : (List D) → Prop) : Prop :=
  (if (decide (x_k < (13 : Int))) = true then (∃ y1 : D, xAt x_e "value" = some y1 ∧ (KM ([y1] : List D))) else (if (decide (x_k < (21 : Int))) = true then (∃ y11 : D, xAt x_e "position" = some y11 ∧ (KM ([y11] : List D))) else (if (decide (V.int x_k = V.int (22 : Int))) = true then (∃ y21 : D, xAt x_e "position" = some y21 ∧ (KM ([y21] : List D))) else (if (decide (V.int x_k = V.int (21 : Int))) = true then (∃ y31 : D, xAt x_e "line" = some y31 ∧ (KM ([y31] : List D))) else (if (decide (V.int x_k = V.int (23 : Int))) = true then (∃ y41 : D, xAt x_e "size" = some y41 ∧ (KM ([y41] : List D))) else (if (decide (V.int x_k = V.int (24 : Int))) = true then (∃ y51 : D, xAt x_e "one" = some y51 ∧ (∃ y55 : D, xAt x_e "other" = some y55 ∧ (KM ([y51, y55] : List D)))) else (if (decide (x_k < (27 : Int))) = true then (∃ y65 : D, xAt x_e "home" = some y65 ∧ (∃ y69 : D, xAt x_e "away" = some y69 ∧ (KM ([y65, y69] : List D)))) else (∃ KB79 : (List D) → Prop, (if (decide (V.int x_k = V.int (27 : Int))) = true then (∃ y82 : D, xAt x_e "what" = some y82 ∧ (∃ y86 : D, xAt x_e "limit" = some y86 ∧ (KB79 ([y82, y86] : List D)))) else (KB79 (([] : List Int).map (fun y_ : Int => (D.v (V.int y_)))))) ∧ ∀ r102 : (List D), KB79 r102 → (KM r102)))))))))
def sp_kept (A : Ad) : Sp := fun vs H Q _ => ∃ (ms : List Addr) (v_e : V) (x_k : Int) (x_e : (Nat × List D)) (KM : (List D) → Prop), vs = [V.int x_k, v_e] ∧ Wd ms [] [] H H ∧ rep ms H (eX A x_e) v_e ∧ M_kept x_k x_e KM ∧ ∀ (r : (List D)) (u : V) (H1 : Hp), KM r → Ret [] H H1 → rep ms H1 (D.lst (r.map (fun y_ : D => y_))) u → Q u H1
set_option maxHeartbeats 16000000 in
theorem ok_kept {P : Program} {w : World} {K : PySem.W.Frag} {mg : Str → Option Value} {base : Heap} {A : Ad} (T : Txt w K mg A) : FnOk P w K mg base CX0 1 A.a_kept A.d_kept ["_law_k", "_law_e"] (sp_kept A) := by
  refine T.F_kept.ok sc_kept (fun vs H Q E h => ?_) (fun cdv A_ outer s_ H_0 vs Q E hr h => ?_)
  · obtain ⟨ms, v_e, x_k, x_e, KM, rfl, _⟩ := h
    rfl
  · obtain ⟨ms, v_e, x_k, x_e, KM, rfl, hW, h_e, hM, hQ⟩ := h
    unfold M_kept at hM
    refine ⟨_, (pss_cons (ps_if (pt_cmpR op_lt (pv 0) pe_int (nomark _)) (pss_one (ps_ret (pe_lst (pa_cons (pe_xv (K := K) rfl (pv 1)) pa_nil)))) pss_nil) (pss_cons (ps_if (PW.pt (pw_or (pt_cmpR op_lt (pv 0) pe_int (nomark _)) (pw_or1 (pt_cmpR op_eq (pv 0) pe_int (nomark _))))) (pss_one (ps_ret (pe_lst (pa_cons (pe_xv (K := K) rfl (pv 1)) pa_nil)))) pss_nil) (pss_cons (ps_if (pt_cmpR op_eq (pv 0) pe_int (nomark _)) (pss_one (ps_ret (pe_lst (pa_cons (pe_xv (K := K) rfl (pv 1)) pa_nil)))) pss_nil) (pss_cons (ps_if (pt_cmpR op_eq (pv 0) pe_int (nomark _)) (pss_one (ps_ret (pe_lst (pa_cons (pe_xv (K := K) rfl (pv 1)) pa_nil)))) pss_nil) (pss_cons (ps_if (pt_cmpR op_eq (pv 0) pe_int (nomark _)) (pss_one (ps_ret (pe_lst (pa_cons (pe_xv (K := K) rfl (pv 1)) (pa_cons (pe_xv (K := K) rfl (pv 1)) pa_nil))))) pss_nil) (pss_cons (ps_if (pt_cmpR op_lt (pv 0) pe_int (nomark _)) (pss_one (ps_ret (pe_lst (pa_cons (pe_xv (K := K) rfl (pv 1)) (pa_cons (pe_xv (K := K) rfl (pv 1)) pa_nil))))) pss_nil) (pss_one (ps_ret (pe_up (pe_ifExp (pt_cmpR op_eq (pv 0) pe_int (nomark _)) (pe_lst (pa_cons (pe_xv (K := K) rfl (pv 1)) (pa_cons (pe_xv (K := K) rfl (pv 1)) pa_nil))) (pe_lst pa_nil))))))))))), ?_⟩
    refine ⟨_, rfl, ?_⟩
    refine ⟨_, _, rfl, rfl, ?_⟩
    refine ⟨_, rfl, ?_⟩
    refine ite3 hM (fun hM => ?_) (fun hM => ?_)
    · skip
      refine ⟨_, rfl, ?_⟩
      obtain ⟨y1, hy2, hM⟩ := hM
      apply rep_xv (f := "value") h_e (T.xva.xf xL_mem _) (T.xva.no xL_mem _ (by decide)) hy2
      intro u3 h4
      refine ⟨(by show 1 ≤ sizeLine; decide), ?_⟩
      intro p5 n9
      have e6 := Rx.Ext.new (H := H_0) (o := (HO.lst [u3])) n9
      have hp7 : upd H_0 p5 (HO.lst [u3]) p5 = some (HO.lst [u3]) := upd_same
      generalize upd H_0 p5 (HO.lst [u3]) = H10 at e6 hp7 ⊢
      have h8 : rep ms H10 (D.lst (([y1] : List D).map (fun y_ : D => y_))) (.ref p5) := rep_lst_mk hW n9 e6 hp7 (repL_cons h4 repL_nil)
      replace h_e := rep_ext e6 h_e
      replace h4 := rep_ext e6 h4
      replace hW := hW.ret0 e6
      exact hQ ([y1] : List D) _ _ hM hW.out h8
    · skip
      refine ⟨_, rfl, ?_⟩
      refine ⟨_, _, rfl, rfl, ?_⟩
      refine ⟨_, rfl, ?_⟩
      refine ite3 hM (fun hM => ?_) (fun hM => ?_)
      · skip
        refine iteT ?_
        refine ⟨_, rfl, ?_⟩
        obtain ⟨y11, hy12, hM⟩ := hM
        apply rep_xv (f := "position") h_e (T.xva.xf xL_mem _) (T.xva.no xL_mem _ (by decide)) hy12
        intro u13 h14
        refine ⟨(by show 1 ≤ sizeLine; decide), ?_⟩
        intro p15 n19
        have e16 := Rx.Ext.new (H := H_0) (o := (HO.lst [u13])) n19
        have hp17 : upd H_0 p15 (HO.lst [u13]) p15 = some (HO.lst [u13]) := upd_same
        generalize upd H_0 p15 (HO.lst [u13]) = H20 at e16 hp17 ⊢
        have h18 : rep ms H20 (D.lst (([y11] : List D).map (fun y_ : D => y_))) (.ref p15) := rep_lst_mk hW n19 e16 hp17 (repL_cons h14 repL_nil)
        replace h_e := rep_ext e16 h_e
        replace h14 := rep_ext e16 h14
        replace hW := hW.ret0 e16
        exact hQ ([y11] : List D) _ _ hM hW.out h18
      · skip
        refine ⟨_, rfl, ?_⟩
        refine ⟨rfl, ?_⟩
        refine ⟨_, rfl, ?_⟩
        refine ite3 hM (fun hM => ?_) (fun hM => ?_)
        · skip
          refine ⟨_, rfl, ?_⟩
          obtain ⟨y21, hy22, hM⟩ := hM
          apply rep_xv (f := "position") h_e (T.xva.xf xL_mem _) (T.xva.no xL_mem _ (by decide)) hy22
          intro u23 h24
          refine ⟨(by show 1 ≤ sizeLine; decide), ?_⟩
          intro p25 n29
          have e26 := Rx.Ext.new (H := H_0) (o := (HO.lst [u23])) n29
          have hp27 : upd H_0 p25 (HO.lst [u23]) p25 = some (HO.lst [u23]) := upd_same
          generalize upd H_0 p25 (HO.lst [u23]) = H30 at e26 hp27 ⊢
          have h28 : rep ms H30 (D.lst (([y21] : List D).map (fun y_ : D => y_))) (.ref p25) := rep_lst_mk hW n29 e26 hp27 (repL_cons h24 repL_nil)
          replace h_e := rep_ext e26 h_e
          replace h24 := rep_ext e26 h24
          replace hW := hW.ret0 e26
          exact hQ ([y21] : List D) _ _ hM hW.out h28
        · skip
          refine ⟨_, rfl, ?_⟩
          refine ⟨rfl, ?_⟩
          refine ⟨_, rfl, ?_⟩
          refine ite3 hM (fun hM => ?_) (fun hM => ?_)
          · skip
            refine ⟨_, rfl, ?_⟩
            obtain ⟨y31, hy32, hM⟩ := hM
            apply rep_xv (f := "line") h_e (T.xva.xf xL_mem _) (T.xva.no xL_mem _ (by decide)) hy32
            intro u33 h34
            refine ⟨(by show 1 ≤ sizeLine; decide), ?_⟩
            intro p35 n39
            have e36 := Rx.Ext.new (H := H_0) (o := (HO.lst [u33])) n39
            have hp37 : upd H_0 p35 (HO.lst [u33]) p35 = some (HO.lst [u33]) := upd_same
            generalize upd H_0 p35 (HO.lst [u33]) = H40 at e36 hp37 ⊢
            have h38 : rep ms H40 (D.lst (([y31] : List D).map (fun y_ : D => y_))) (.ref p35) := rep_lst_mk hW n39 e36 hp37 (repL_cons h34 repL_nil)
            replace h_e := rep_ext e36 h_e
            replace h34 := rep_ext e36 h34
            replace hW := hW.ret0 e36
            exact hQ ([y31] : List D) _ _ hM hW.out h38
          · skip
            refine ⟨_, rfl, ?_⟩
            refine ⟨rfl, ?_⟩
            refine ⟨_, rfl, ?_⟩
            refine ite3 hM (fun hM => ?_) (fun hM => ?_)
            · skip
              refine ⟨_, rfl, ?_⟩
              obtain ⟨y41, hy42, hM⟩ := hM
              apply rep_xv (f := "size") h_e (T.xva.xf xL_mem _) (T.xva.no xL_mem _ (by decide)) hy42
              intro u43 h44
              refine ⟨(by show 1 ≤ sizeLine; decide), ?_⟩
              intro p45 n49
              have e46 := Rx.Ext.new (H := H_0) (o := (HO.lst [u43])) n49
              have hp47 : upd H_0 p45 (HO.lst [u43]) p45 = some (HO.lst [u43]) := upd_same
              generalize upd H_0 p45 (HO.lst [u43]) = H50 at e46 hp47 ⊢
              have h48 : rep ms H50 (D.lst (([y41] : List D).map (fun y_ : D => y_))) (.ref p45) := rep_lst_mk hW n49 e46 hp47 (repL_cons h44 repL_nil)
              replace h_e := rep_ext e46 h_e
              replace h44 := rep_ext e46 h44
              replace hW := hW.ret0 e46
              exact hQ ([y41] : List D) _ _ hM hW.out h48
            · skip
              refine ⟨_, rfl, ?_⟩
              refine ⟨rfl, ?_⟩
              refine ⟨_, rfl, ?_⟩
              refine ite3 hM (fun hM => ?_) (fun hM => ?_)
              · skip
                refine ⟨_, rfl, ?_⟩
                obtain ⟨y51, hy52, hM⟩ := hM
                apply rep_xv (f := "one") h_e (T.xva.xf xL_mem _) (T.xva.no xL_mem _ (by decide)) hy52
                intro u53 h54
                refine ⟨_, rfl, ?_⟩
                obtain ⟨y55, hy56, hM⟩ := hM
                apply rep_xv (f := "other") h_e (T.xva.xf xL_mem _) (T.xva.no xL_mem _ (by decide)) hy56
                intro u57 h58
                refine ⟨(by show 2 ≤ sizeLine; decide), ?_⟩
                intro p59 n63
                have e60 := Rx.Ext.new (H := H_0) (o := (HO.lst [u53, u57])) n63
                have hp61 : upd H_0 p59 (HO.lst [u53, u57]) p59 = some (HO.lst [u53, u57]) := upd_same
                generalize upd H_0 p59 (HO.lst [u53, u57]) = H64 at e60 hp61 ⊢
                have h62 : rep ms H64 (D.lst (([y51, y55] : List D).map (fun y_ : D => y_))) (.ref p59) := rep_lst_mk hW n63 e60 hp61 (repL_cons h54 (repL_cons h58 repL_nil))
                replace h_e := rep_ext e60 h_e
                replace h54 := rep_ext e60 h54
                replace h58 := rep_ext e60 h58
                replace hW := hW.ret0 e60
                exact hQ ([y51, y55] : List D) _ _ hM hW.out h62
              · skip
                refine ⟨_, rfl, ?_⟩
                refine ⟨_, _, rfl, rfl, ?_⟩
                refine ⟨_, rfl, ?_⟩
                refine ite3 hM (fun hM => ?_) (fun hM => ?_)
                · skip
                  refine ⟨_, rfl, ?_⟩
                  obtain ⟨y65, hy66, hM⟩ := hM
                  apply rep_xv (f := "home") h_e (T.xva.xf xL_mem _) (T.xva.no xL_mem _ (by decide)) hy66
                  intro u67 h68
                  refine ⟨_, rfl, ?_⟩
                  obtain ⟨y69, hy70, hM⟩ := hM
                  apply rep_xv (f := "away") h_e (T.xva.xf xL_mem _) (T.xva.no xL_mem _ (by decide)) hy70
                  intro u71 h72
                  refine ⟨(by show 2 ≤ sizeLine; decide), ?_⟩
                  intro p73 n77
                  have e74 := Rx.Ext.new (H := H_0) (o := (HO.lst [u67, u71])) n77
                  have hp75 : upd H_0 p73 (HO.lst [u67, u71]) p73 = some (HO.lst [u67, u71]) := upd_same
                  generalize upd H_0 p73 (HO.lst [u67, u71]) = H78 at e74 hp75 ⊢
                  have h76 : rep ms H78 (D.lst (([y65, y69] : List D).map (fun y_ : D => y_))) (.ref p73) := rep_lst_mk hW n77 e74 hp75 (repL_cons h68 (repL_cons h72 repL_nil))
                  replace h_e := rep_ext e74 h_e
                  replace h68 := rep_ext e74 h68
                  replace h72 := rep_ext e74 h72
                  replace hW := hW.ret0 e74
                  exact hQ ([y65, y69] : List D) _ _ hM hW.out h76
                · skip
                  obtain ⟨KB79, hM, hKKB79⟩ := hM
                  refine ⟨fun v H1 => ∃ r : (List D), KB79 r ∧ Wd ms [] [] H_0 H1 ∧ Keep ms H_0 H1 ∧ rep ms H1 (D.lst (r.map (fun y_ : D => y_))) v, ?_, ?_⟩
                  · skip
                    have hj81 := Keep.refl (ms := ms) (H := H_0)
                    refine ⟨_, rfl, ?_⟩
                    refine ⟨rfl, ?_⟩
                    refine ⟨_, rfl, ?_⟩
                    refine ite3 hM (fun hM => ?_) (fun hM => ?_)
                    · skip
                      refine ⟨_, rfl, ?_⟩
                      obtain ⟨y82, hy83, hM⟩ := hM
                      apply rep_xv (f := "what") h_e (T.xva.xf xL_mem _) (T.xva.no xL_mem _ (by decide)) hy83
                      intro u84 h85
                      refine ⟨_, rfl, ?_⟩
                      obtain ⟨y86, hy87, hM⟩ := hM
                      apply rep_xv (f := "limit") h_e (T.xva.xf xL_mem _) (T.xva.no xL_mem _ (by decide)) hy87
                      intro u88 h89
                      refine ⟨(by show 2 ≤ sizeLine; decide), ?_⟩
                      intro p90 n94
                      have e91 := Rx.Ext.new (H := H_0) (o := (HO.lst [u84, u88])) n94
                      have hp92 : upd H_0 p90 (HO.lst [u84, u88]) p90 = some (HO.lst [u84, u88]) := upd_same
                      generalize upd H_0 p90 (HO.lst [u84, u88]) = H95 at e91 hp92 ⊢
                      have h93 : rep ms H95 (D.lst (([y82, y86] : List D).map (fun y_ : D => y_))) (.ref p90) := rep_lst_mk hW n94 e91 hp92 (repL_cons h85 (repL_cons h89 repL_nil))
                      replace h_e := rep_ext e91 h_e
                      replace hj81 := keep_ext e91 hj81
                      replace h85 := rep_ext e91 h85
                      replace h89 := rep_ext e91 h89
                      replace hW := hW.ret0 e91
                      exact ⟨([y82, y86] : List D), hM, hW, hj81, h93⟩
                    · skip
                      refine ⟨(by show 0 ≤ sizeLine; decide), ?_⟩
                      intro p96 n100
                      have e97 := Rx.Ext.new (H := H_0) (o := (HO.lst [])) n100
                      have hp98 : upd H_0 p96 (HO.lst []) p96 = some (HO.lst []) := upd_same
                      generalize upd H_0 p96 (HO.lst []) = H101 at e97 hp98 ⊢
                      have h99 : rep ms H101 (D.lst (([] : List Int).map (fun y_ : Int => (D.v (V.int y_))))) (.ref p96) := rep_lst_mk hW n100 e97 hp98 repL_nil
                      replace h_e := rep_ext e97 h_e
                      replace hj81 := keep_ext e97 hj81
                      replace hW := hW.ret0 e97
                      exact ⟨(([] : List Int).map (fun y_ : Int => (D.v (V.int y_)))), hM, hW, hj81, (rep_dynL h99)⟩
                  · skip
                    rintro u104 Hj80 ⟨r102, hr, hW, hj81, h103⟩
                    replace hM := hKKB79 r102 hr
                    replace h_e := rep_keep hj81 h_e
                    exact hQ r102 _ _ hM hW.out h103
def M_width (x_k : Int) (KM : Int → Prop) : Prop :=
  (if (decide ((27 : Int) < x_k)) = true then (KM (0 : Int)) else (∃ KB1 : Int → Prop, (if (decide ((23 : Int) < x_k)) = true then (KB1 (2 : Int)) else (KB1 (1 : Int))) ∧ ∀ r4 : Int, KB1 r4 → (KM r4)))
def sp_width (A : Ad) : Sp := fun vs H Q _ => ∃ (ms : List Addr) (x_k : Int) (KM : Int → Prop), vs = [V.int x_k] ∧ Wd ms [] [] H H ∧ M_width x_k KM ∧ ∀ (r : Int) (u : V) (H1 : Hp), KM r → Ret [] H H1 → rep ms H1 (D.v (V.int r)) u → Q u H1
set_option maxHeartbeats 16000000 in
theorem ok_width {P : Program} {w : World} {K : PySem.W.Frag} {mg : Str → Option Value} {base : Heap} {A : Ad} (T : Txt w K mg A) : FnOk P w K mg base CX0 1 A.a_width A.d_width ["_law_k"] (sp_width A) := by
  refine T.F_width.ok sc_width (fun vs H Q E h => ?_) (fun cdv A_ outer s_ H_0 vs Q E hr h => ?_)
  · obtain ⟨ms, x_k, KM, rfl, _⟩ := h
    rfl
  · obtain ⟨ms, x_k, KM, rfl, hW, hM, hQ⟩ := h
    unfold M_width at hM
    refine ⟨_, (pss_cons (ps_if (pt_cmpR op_gt (pv 0) pe_int (nomark _)) (pss_one (ps_ret pe_int)) pss_nil) (pss_one (ps_ret (pe_up (pe_ifExp (pt_cmpR op_gt (pv 0) pe_int (nomark _)) pe_int pe_int))))), ?_⟩
    refine ⟨_, rfl, ?_⟩
    refine ⟨_, _, rfl, rfl, ?_⟩
    refine ⟨_, rfl, ?_⟩
    refine ite3 hM (fun hM => ?_) (fun hM => ?_)
    · skip
      exact hQ (0 : Int) _ _ hM hW.out rep_v
    · skip
      obtain ⟨KB1, hM, hKKB1⟩ := hM
      refine ⟨fun v H1 => ∃ r : Int, KB1 r ∧ Wd ms [] [] H_0 H1 ∧ Keep ms H_0 H1 ∧ rep ms H1 (D.v (V.int r)) v, ?_, ?_⟩
      · skip
        have hj3 := Keep.refl (ms := ms) (H := H_0)
        refine ⟨_, rfl, ?_⟩
        refine ⟨_, _, rfl, rfl, ?_⟩
        refine ⟨_, rfl, ?_⟩
        refine ite3 hM (fun hM => ?_) (fun hM => ?_)
        · skip
          exact ⟨(2 : Int), hM, hW, hj3, rep_v⟩
        · skip
          exact ⟨(1 : Int), hM, hW, hj3, rep_v⟩
      · skip
        rintro u6 Hj2 ⟨r4, hr, hW, hj3, h5⟩
        replace hM := hKKB1 r4 hr
        obtain rfl := of_v h5
        exact hQ r4 _ _ hM hW.out rep_v
def M_flags (x_e : (Nat × List D)) (KM : (List Bool) → Prop) : Prop :=
  (([(xtb_InvalidFirst.getD x_e.1 true), (xtb_InvalidNumber.getD x_e.1 false), (xtb_InvalidPlace.getD x_e.1 false)] : List Bool).length + ([(xtb_InvalidMarks.getD x_e.1 false), (xtb_InvalidStep.getD x_e.1 false), (xtb_InvalidStander.getD x_e.1 false)] : List Bool).length ≤ 16777216 ∧ ((([(xtb_InvalidFirst.getD x_e.1 true), (xtb_InvalidNumber.getD x_e.1 false), (xtb_InvalidPlace.getD x_e.1 false)] : List Bool) ++ ([(xtb_InvalidMarks.getD x_e.1 false), (xtb_InvalidStep.getD x_e.1 false), (xtb_InvalidStander.getD x_e.1 false)] : List Bool)).length + ([(xtb_InvalidTurned.getD x_e.1 false), (xtb_InvalidSize.getD x_e.1 false), (xtb_InvalidTeam.getD x_e.1 false)] : List Bool).length ≤ 16777216 ∧ (((([(xtb_InvalidFirst.getD x_e.1 true), (xtb_InvalidNumber.getD x_e.1 false), (xtb_InvalidPlace.getD x_e.1 false)] : List Bool) ++ ([(xtb_InvalidMarks.getD x_e.1 false), (xtb_InvalidStep.getD x_e.1 false), (xtb_InvalidStander.getD x_e.1 false)] : List Bool)) ++ ([(xtb_InvalidTurned.getD x_e.1 false), (xtb_InvalidSize.getD x_e.1 false), (xtb_InvalidTeam.getD x_e.1 false)] : List Bool)).length + ([(xtb_InvalidRound.getD x_e.1 false), (xtb_InvalidCount.getD x_e.1 false), (xtb_InvalidClaim.getD x_e.1 false)] : List Bool).length ≤ 16777216 ∧ ((((([(xtb_InvalidFirst.getD x_e.1 true), (xtb_InvalidNumber.getD x_e.1 false), (xtb_InvalidPlace.getD x_e.1 false)] : List Bool) ++ ([(xtb_InvalidMarks.getD x_e.1 false), (xtb_InvalidStep.getD x_e.1 false), (xtb_InvalidStander.getD x_e.1 false)] : List Bool)) ++ ([(xtb_InvalidTurned.getD x_e.1 false), (xtb_InvalidSize.getD x_e.1 false), (xtb_InvalidTeam.getD x_e.1 false)] : List Bool)) ++ ([(xtb_InvalidRound.getD x_e.1 false), (xtb_InvalidCount.getD x_e.1 false), (xtb_InvalidClaim.getD x_e.1 false)] : List Bool)).length + ([(xtb_InvalidCommand.getD x_e.1 false), (xtb_InvalidValues.getD x_e.1 false), (xtb_InvalidRows.getD x_e.1 false)] : List Bool).length ≤ 16777216 ∧ (((((([(xtb_InvalidFirst.getD x_e.1 true), (xtb_InvalidNumber.getD x_e.1 false), (xtb_InvalidPlace.getD x_e.1 false)] : List Bool) ++ ([(xtb_InvalidMarks.getD x_e.1 false), (xtb_InvalidStep.getD x_e.1 false), (xtb_InvalidStander.getD x_e.1 false)] : List Bool)) ++ ([(xtb_InvalidTurned.getD x_e.1 false), (xtb_InvalidSize.getD x_e.1 false), (xtb_InvalidTeam.getD x_e.1 false)] : List Bool)) ++ ([(xtb_InvalidRound.getD x_e.1 false), (xtb_InvalidCount.getD x_e.1 false), (xtb_InvalidClaim.getD x_e.1 false)] : List Bool)) ++ ([(xtb_InvalidCommand.getD x_e.1 false), (xtb_InvalidValues.getD x_e.1 false), (xtb_InvalidRows.getD x_e.1 false)] : List Bool)).length + ([(xtb_InvalidRounds.getD x_e.1 false), (xtb_InvalidCells.getD x_e.1 false), (xtb_InvalidLegs.getD x_e.1 false)] : List Bool).length ≤ 16777216 ∧ ((((((([(xtb_InvalidFirst.getD x_e.1 true), (xtb_InvalidNumber.getD x_e.1 false), (xtb_InvalidPlace.getD x_e.1 false)] : List Bool) ++ ([(xtb_InvalidMarks.getD x_e.1 false), (xtb_InvalidStep.getD x_e.1 false), (xtb_InvalidStander.getD x_e.1 false)] : List Bool)) ++ ([(xtb_InvalidTurned.getD x_e.1 false), (xtb_InvalidSize.getD x_e.1 false), (xtb_InvalidTeam.getD x_e.1 false)] : List Bool)) ++ ([(xtb_InvalidRound.getD x_e.1 false), (xtb_InvalidCount.getD x_e.1 false), (xtb_InvalidClaim.getD x_e.1 false)] : List Bool)) ++ ([(xtb_InvalidCommand.getD x_e.1 false), (xtb_InvalidValues.getD x_e.1 false), (xtb_InvalidRows.getD x_e.1 false)] : List Bool)) ++ ([(xtb_InvalidRounds.getD x_e.1 false), (xtb_InvalidCells.getD x_e.1 false), (xtb_InvalidLegs.getD x_e.1 false)] : List Bool)).length + ([(xtb_InvalidLot.getD x_e.1 false), (xtb_InvalidFixed.getD x_e.1 false), (xtb_InvalidGauge.getD x_e.1 false)] : List Bool).length ≤ 16777216 ∧ (((((((([(xtb_InvalidFirst.getD x_e.1 true), (xtb_InvalidNumber.getD x_e.1 false), (xtb_InvalidPlace.getD x_e.1 false)] : List Bool) ++ ([(xtb_InvalidMarks.getD x_e.1 false), (xtb_InvalidStep.getD x_e.1 false), (xtb_InvalidStander.getD x_e.1 false)] : List Bool)) ++ ([(xtb_InvalidTurned.getD x_e.1 false), (xtb_InvalidSize.getD x_e.1 false), (xtb_InvalidTeam.getD x_e.1 false)] : List Bool)) ++ ([(xtb_InvalidRound.getD x_e.1 false), (xtb_InvalidCount.getD x_e.1 false), (xtb_InvalidClaim.getD x_e.1 false)] : List Bool)) ++ ([(xtb_InvalidCommand.getD x_e.1 false), (xtb_InvalidValues.getD x_e.1 false), (xtb_InvalidRows.getD x_e.1 false)] : List Bool)) ++ ([(xtb_InvalidRounds.getD x_e.1 false), (xtb_InvalidCells.getD x_e.1 false), (xtb_InvalidLegs.getD x_e.1 false)] : List Bool)) ++ ([(xtb_InvalidLot.getD x_e.1 false), (xtb_InvalidFixed.getD x_e.1 false), (xtb_InvalidGauge.getD x_e.1 false)] : List Bool)).length + ([(xtb_InvalidText.getD x_e.1 false), (xtb_CommandFailed.getD x_e.1 false), (xtb_NotRight.getD x_e.1 false)] : List Bool).length ≤ 16777216 ∧ ((((((((([(xtb_InvalidFirst.getD x_e.1 true), (xtb_InvalidNumber.getD x_e.1 false), (xtb_InvalidPlace.getD x_e.1 false)] : List Bool) ++ ([(xtb_InvalidMarks.getD x_e.1 false), (xtb_InvalidStep.getD x_e.1 false), (xtb_InvalidStander.getD x_e.1 false)] : List Bool)) ++ ([(xtb_InvalidTurned.getD x_e.1 false), (xtb_InvalidSize.getD x_e.1 false), (xtb_InvalidTeam.getD x_e.1 false)] : List Bool)) ++ ([(xtb_InvalidRound.getD x_e.1 false), (xtb_InvalidCount.getD x_e.1 false), (xtb_InvalidClaim.getD x_e.1 false)] : List Bool)) ++ ([(xtb_InvalidCommand.getD x_e.1 false), (xtb_InvalidValues.getD x_e.1 false), (xtb_InvalidRows.getD x_e.1 false)] : List Bool)) ++ ([(xtb_InvalidRounds.getD x_e.1 false), (xtb_InvalidCells.getD x_e.1 false), (xtb_InvalidLegs.getD x_e.1 false)] : List Bool)) ++ ([(xtb_InvalidLot.getD x_e.1 false), (xtb_InvalidFixed.getD x_e.1 false), (xtb_InvalidGauge.getD x_e.1 false)] : List Bool)) ++ ([(xtb_InvalidText.getD x_e.1 false), (xtb_CommandFailed.getD x_e.1 false), (xtb_NotRight.getD x_e.1 false)] : List Bool)).length + ([(xtb_NotSingle.getD x_e.1 false), (xtb_NotOpen.getD x_e.1 false), (xtb_Unplayed.getD x_e.1 false)] : List Bool).length ≤ 16777216 ∧ (((((((((([(xtb_InvalidFirst.getD x_e.1 true), (xtb_InvalidNumber.getD x_e.1 false), (xtb_InvalidPlace.getD x_e.1 false)] : List Bool) ++ ([(xtb_InvalidMarks.getD x_e.1 false), (xtb_InvalidStep.getD x_e.1 false), (xtb_InvalidStander.getD x_e.1 false)] : List Bool)) ++ ([(xtb_InvalidTurned.getD x_e.1 false), (xtb_InvalidSize.getD x_e.1 false), (xtb_InvalidTeam.getD x_e.1 false)] : List Bool)) ++ ([(xtb_InvalidRound.getD x_e.1 false), (xtb_InvalidCount.getD x_e.1 false), (xtb_InvalidClaim.getD x_e.1 false)] : List Bool)) ++ ([(xtb_InvalidCommand.getD x_e.1 false), (xtb_InvalidValues.getD x_e.1 false), (xtb_InvalidRows.getD x_e.1 false)] : List Bool)) ++ ([(xtb_InvalidRounds.getD x_e.1 false), (xtb_InvalidCells.getD x_e.1 false), (xtb_InvalidLegs.getD x_e.1 false)] : List Bool)) ++ ([(xtb_InvalidLot.getD x_e.1 false), (xtb_InvalidFixed.getD x_e.1 false), (xtb_InvalidGauge.getD x_e.1 false)] : List Bool)) ++ ([(xtb_InvalidText.getD x_e.1 false), (xtb_CommandFailed.getD x_e.1 false), (xtb_NotRight.getD x_e.1 false)] : List Bool)) ++ ([(xtb_NotSingle.getD x_e.1 false), (xtb_NotOpen.getD x_e.1 false), (xtb_Unplayed.getD x_e.1 false)] : List Bool)).length + ([(xtb_TooMany.getD x_e.1 false), (xtb_NoRound.getD x_e.1 false), (xtb_NothingToUndo.getD x_e.1 false)] : List Bool).length ≤ 16777216 ∧ (KM (((((((((([(xtb_InvalidFirst.getD x_e.1 true), (xtb_InvalidNumber.getD x_e.1 false), (xtb_InvalidPlace.getD x_e.1 false)] : List Bool) ++ ([(xtb_InvalidMarks.getD x_e.1 false), (xtb_InvalidStep.getD x_e.1 false), (xtb_InvalidStander.getD x_e.1 false)] : List Bool)) ++ ([(xtb_InvalidTurned.getD x_e.1 false), (xtb_InvalidSize.getD x_e.1 false), (xtb_InvalidTeam.getD x_e.1 false)] : List Bool)) ++ ([(xtb_InvalidRound.getD x_e.1 false), (xtb_InvalidCount.getD x_e.1 false), (xtb_InvalidClaim.getD x_e.1 false)] : List Bool)) ++ ([(xtb_InvalidCommand.getD x_e.1 false), (xtb_InvalidValues.getD x_e.1 false), (xtb_InvalidRows.getD x_e.1 false)] : List Bool)) ++ ([(xtb_InvalidRounds.getD x_e.1 false), (xtb_InvalidCells.getD x_e.1 false), (xtb_InvalidLegs.getD x_e.1 false)] : List Bool)) ++ ([(xtb_InvalidLot.getD x_e.1 false), (xtb_InvalidFixed.getD x_e.1 false), (xtb_InvalidGauge.getD x_e.1 false)] : List Bool)) ++ ([(xtb_InvalidText.getD x_e.1 false), (xtb_CommandFailed.getD x_e.1 false), (xtb_NotRight.getD x_e.1 false)] : List Bool)) ++ ([(xtb_NotSingle.getD x_e.1 false), (xtb_NotOpen.getD x_e.1 false), (xtb_Unplayed.getD x_e.1 false)] : List Bool)) ++ ([(xtb_TooMany.getD x_e.1 false), (xtb_NoRound.getD x_e.1 false), (xtb_NothingToUndo.getD x_e.1 false)] : List Bool))))))))))))
def sp_flags (A : Ad) : Sp := fun vs H Q _ => ∃ (ms : List Addr) (v_e : V) (x_e : (Nat × List D)) (KM : (List Bool) → Prop), vs = [v_e] ∧ Wd ms [] [] H H ∧ rep ms H (eX A x_e) v_e ∧ M_flags x_e KM ∧ ∀ (r : (List Bool)) (u : V) (H1 : Hp), KM r → Ret [] H H1 → rep ms H1 (D.lst (r.map (fun y_ : Bool => (D.v (V.bl y_))))) u → Q u H1
set_option maxHeartbeats 16000000 in
theorem ok_flags {P : Program} {w : World} {K : PySem.W.Frag} {mg : Str → Option Value} {base : Heap} {A : Ad} (T : Txt w K mg A) : FnOk P w K mg base CX0 1 A.a_flags A.d_flags ["_law_e"] (sp_flags A) := by
  refine T.F_flags.ok sc_flags (fun vs H Q E h => ?_) (fun cdv A_ outer s_ H_0 vs Q E hr h => ?_)
  · obtain ⟨ms, v_e, x_e, KM, rfl, _⟩ := h
    rfl
  · obtain ⟨ms, v_e, x_e, KM, rfl, hW, h_e, hM, hQ⟩ := h
    unfold M_flags at hM
    refine ⟨_, (pss_cons (ps_set (i := 1) sc_flags.nd rfl (by first | exact Or.inl rfl | exact Or.inr rfl) (pe_lst (pa_cons (pe_callB (call_isV (K := K) rfl) (by rfl) T.z_isinstance (by decide +kernel) (pa_cons (pv 0) (pa_cons (pe_glob (v := .ref A.c_InvalidFirst) (by rfl) T.g_InvalidFirst rfl) pa_nil))) (pa_cons (pe_callB (call_isV (K := K) rfl) (by rfl) T.z_isinstance (by decide +kernel) (pa_cons (pv 0) (pa_cons (pe_glob (v := .ref A.c_InvalidNumber) (by rfl) T.g_InvalidNumber rfl) pa_nil))) (pa_cons (pe_callB (call_isV (K := K) rfl) (by rfl) T.z_isinstance (by decide +kernel) (pa_cons (pv 0) (pa_cons (pe_glob (v := .ref A.c_InvalidPlace) (by rfl) T.g_InvalidPlace rfl) pa_nil))) pa_nil))))) (pss_cons (ps_expr (pe_bmK (K := K) rfl PySem.F.plainAttrs_list PySem.F.slot_list_extend PySem.F.type_list_extend mt_extend (pv 1) (pa_cons (pe_lst (pa_cons (pe_callB (call_isV (K := K) rfl) (by rfl) T.z_isinstance (by decide +kernel) (pa_cons (pv 0) (pa_cons (pe_glob (v := .ref A.c_InvalidMarks) (by rfl) T.g_InvalidMarks rfl) pa_nil))) (pa_cons (pe_callB (call_isV (K := K) rfl) (by rfl) T.z_isinstance (by decide +kernel) (pa_cons (pv 0) (pa_cons (pe_glob (v := .ref A.c_InvalidStep) (by rfl) T.g_InvalidStep rfl) pa_nil))) (pa_cons (pe_callB (call_isV (K := K) rfl) (by rfl) T.z_isinstance (by decide +kernel) (pa_cons (pv 0) (pa_cons (pe_glob (v := .ref A.c_InvalidStander) (by rfl) T.g_InvalidStander rfl) pa_nil))) pa_nil)))) pa_nil))) (pss_cons (ps_expr (pe_bmK (K := K) rfl PySem.F.plainAttrs_list PySem.F.slot_list_extend PySem.F.type_list_extend mt_extend (pv 1) (pa_cons (pe_lst (pa_cons (pe_callB (call_isV (K := K) rfl) (by rfl) T.z_isinstance (by decide +kernel) (pa_cons (pv 0) (pa_cons (pe_glob (v := .ref A.c_InvalidTurned) (by rfl) T.g_InvalidTurned rfl) pa_nil))) (pa_cons (pe_callB (call_isV (K := K) rfl) (by rfl) T.z_isinstance (by decide +kernel) (pa_cons (pv 0) (pa_cons (pe_glob (v := .ref A.c_InvalidSize) (by rfl) T.g_InvalidSize rfl) pa_nil))) (pa_cons (pe_callB (call_isV (K := K) rfl) (by rfl) T.z_isinstance (by decide +kernel) (pa_cons (pv 0) (pa_cons (pe_glob (v := .ref A.c_InvalidTeam) (by rfl) T.g_InvalidTeam rfl) pa_nil))) pa_nil)))) pa_nil))) (pss_cons (ps_expr (pe_bmK (K := K) rfl PySem.F.plainAttrs_list PySem.F.slot_list_extend PySem.F.type_list_extend mt_extend (pv 1) (pa_cons (pe_lst (pa_cons (pe_callB (call_isV (K := K) rfl) (by rfl) T.z_isinstance (by decide +kernel) (pa_cons (pv 0) (pa_cons (pe_glob (v := .ref A.c_InvalidRound) (by rfl) T.g_InvalidRound rfl) pa_nil))) (pa_cons (pe_callB (call_isV (K := K) rfl) (by rfl) T.z_isinstance (by decide +kernel) (pa_cons (pv 0) (pa_cons (pe_glob (v := .ref A.c_InvalidCount) (by rfl) T.g_InvalidCount rfl) pa_nil))) (pa_cons (pe_callB (call_isV (K := K) rfl) (by rfl) T.z_isinstance (by decide +kernel) (pa_cons (pv 0) (pa_cons (pe_glob (v := .ref A.c_InvalidClaim) (by rfl) T.g_InvalidClaim rfl) pa_nil))) pa_nil)))) pa_nil))) (pss_cons (ps_expr (pe_bmK (K := K) rfl PySem.F.plainAttrs_list PySem.F.slot_list_extend PySem.F.type_list_extend mt_extend (pv 1) (pa_cons (pe_lst (pa_cons (pe_callB (call_isV (K := K) rfl) (by rfl) T.z_isinstance (by decide +kernel) (pa_cons (pv 0) (pa_cons (pe_glob (v := .ref A.c_InvalidCommand) (by rfl) T.g_InvalidCommand rfl) pa_nil))) (pa_cons (pe_callB (call_isV (K := K) rfl) (by rfl) T.z_isinstance (by decide +kernel) (pa_cons (pv 0) (pa_cons (pe_glob (v := .ref A.c_InvalidValues) (by rfl) T.g_InvalidValues rfl) pa_nil))) (pa_cons (pe_callB (call_isV (K := K) rfl) (by rfl) T.z_isinstance (by decide +kernel) (pa_cons (pv 0) (pa_cons (pe_glob (v := .ref A.c_InvalidRows) (by rfl) T.g_InvalidRows rfl) pa_nil))) pa_nil)))) pa_nil))) (pss_cons (ps_expr (pe_bmK (K := K) rfl PySem.F.plainAttrs_list PySem.F.slot_list_extend PySem.F.type_list_extend mt_extend (pv 1) (pa_cons (pe_lst (pa_cons (pe_callB (call_isV (K := K) rfl) (by rfl) T.z_isinstance (by decide +kernel) (pa_cons (pv 0) (pa_cons (pe_glob (v := .ref A.c_InvalidRounds) (by rfl) T.g_InvalidRounds rfl) pa_nil))) (pa_cons (pe_callB (call_isV (K := K) rfl) (by rfl) T.z_isinstance (by decide +kernel) (pa_cons (pv 0) (pa_cons (pe_glob (v := .ref A.c_InvalidCells) (by rfl) T.g_InvalidCells rfl) pa_nil))) (pa_cons (pe_callB (call_isV (K := K) rfl) (by rfl) T.z_isinstance (by decide +kernel) (pa_cons (pv 0) (pa_cons (pe_glob (v := .ref A.c_InvalidLegs) (by rfl) T.g_InvalidLegs rfl) pa_nil))) pa_nil)))) pa_nil))) (pss_cons (ps_expr (pe_bmK (K := K) rfl PySem.F.plainAttrs_list PySem.F.slot_list_extend PySem.F.type_list_extend mt_extend (pv 1) (pa_cons (pe_lst (pa_cons (pe_callB (call_isV (K := K) rfl) (by rfl) T.z_isinstance (by decide +kernel) (pa_cons (pv 0) (pa_cons (pe_glob (v := .ref A.c_InvalidLot) (by rfl) T.g_InvalidLot rfl) pa_nil))) (pa_cons (pe_callB (call_isV (K := K) rfl) (by rfl) T.z_isinstance (by decide +kernel) (pa_cons (pv 0) (pa_cons (pe_glob (v := .ref A.c_InvalidFixed) (by rfl) T.g_InvalidFixed rfl) pa_nil))) (pa_cons (pe_callB (call_isV (K := K) rfl) (by rfl) T.z_isinstance (by decide +kernel) (pa_cons (pv 0) (pa_cons (pe_glob (v := .ref A.c_InvalidGauge) (by rfl) T.g_InvalidGauge rfl) pa_nil))) pa_nil)))) pa_nil))) (pss_cons (ps_expr (pe_bmK (K := K) rfl PySem.F.plainAttrs_list PySem.F.slot_list_extend PySem.F.type_list_extend mt_extend (pv 1) (pa_cons (pe_lst (pa_cons (pe_callB (call_isV (K := K) rfl) (by rfl) T.z_isinstance (by decide +kernel) (pa_cons (pv 0) (pa_cons (pe_glob (v := .ref A.c_InvalidText) (by rfl) T.g_InvalidText rfl) pa_nil))) (pa_cons (pe_callB (call_isV (K := K) rfl) (by rfl) T.z_isinstance (by decide +kernel) (pa_cons (pv 0) (pa_cons (pe_glob (v := .ref A.c_CommandFailed) (by rfl) T.g_CommandFailed rfl) pa_nil))) (pa_cons (pe_callB (call_isV (K := K) rfl) (by rfl) T.z_isinstance (by decide +kernel) (pa_cons (pv 0) (pa_cons (pe_glob (v := .ref A.c_NotRight) (by rfl) T.g_NotRight rfl) pa_nil))) pa_nil)))) pa_nil))) (pss_cons (ps_expr (pe_bmK (K := K) rfl PySem.F.plainAttrs_list PySem.F.slot_list_extend PySem.F.type_list_extend mt_extend (pv 1) (pa_cons (pe_lst (pa_cons (pe_callB (call_isV (K := K) rfl) (by rfl) T.z_isinstance (by decide +kernel) (pa_cons (pv 0) (pa_cons (pe_glob (v := .ref A.c_NotSingle) (by rfl) T.g_NotSingle rfl) pa_nil))) (pa_cons (pe_callB (call_isV (K := K) rfl) (by rfl) T.z_isinstance (by decide +kernel) (pa_cons (pv 0) (pa_cons (pe_glob (v := .ref A.c_NotOpen) (by rfl) T.g_NotOpen rfl) pa_nil))) (pa_cons (pe_callB (call_isV (K := K) rfl) (by rfl) T.z_isinstance (by decide +kernel) (pa_cons (pv 0) (pa_cons (pe_glob (v := .ref A.c_Unplayed) (by rfl) T.g_Unplayed rfl) pa_nil))) pa_nil)))) pa_nil))) (pss_cons (ps_expr (pe_bmK (K := K) rfl PySem.F.plainAttrs_list PySem.F.slot_list_extend PySem.F.type_list_extend mt_extend (pv 1) (pa_cons (pe_lst (pa_cons (pe_callB (call_isV (K := K) rfl) (by rfl) T.z_isinstance (by decide +kernel) (pa_cons (pv 0) (pa_cons (pe_glob (v := .ref A.c_TooMany) (by rfl) T.g_TooMany rfl) pa_nil))) (pa_cons (pe_callB (call_isV (K := K) rfl) (by rfl) T.z_isinstance (by decide +kernel) (pa_cons (pv 0) (pa_cons (pe_glob (v := .ref A.c_NoRound) (by rfl) T.g_NoRound rfl) pa_nil))) (pa_cons (pe_callB (call_isV (K := K) rfl) (by rfl) T.z_isinstance (by decide +kernel) (pa_cons (pv 0) (pa_cons (pe_glob (v := .ref A.c_NothingToUndo) (by rfl) T.g_NothingToUndo rfl) pa_nil))) pa_nil)))) pa_nil))) (pss_one (ps_ret (pv 1))))))))))))), ?_⟩
    refine ⟨_, rfl, ?_⟩
    apply rep_isV (c := V.ref A.c_InvalidFirst) (cv := Value.ref A.c_InvalidFirst) h_e (T.xva.ex xL_mem _) (fun _ r_ => r_) (kitA_at rfl T.xd_InvalidFirst T.xk_InvalidFirst _)
    refine ⟨_, rfl, ?_⟩
    apply rep_isV (c := V.ref A.c_InvalidNumber) (cv := Value.ref A.c_InvalidNumber) h_e (T.xva.ex xL_mem _) (fun _ r_ => r_) (kitA_at rfl T.xd_InvalidNumber T.xk_InvalidNumber _)
    refine ⟨_, rfl, ?_⟩
    apply rep_isV (c := V.ref A.c_InvalidPlace) (cv := Value.ref A.c_InvalidPlace) h_e (T.xva.ex xL_mem _) (fun _ r_ => r_) (kitA_at rfl T.xd_InvalidPlace T.xk_InvalidPlace _)
    refine ⟨(by show 3 ≤ sizeLine; decide), ?_⟩
    intro L1 nl2
    have nm3 := nm_new hW nl2
    have mu4 := mo_newL (ds := ([(xtb_InvalidFirst.getD x_e.1 true), (xtb_InvalidNumber.getD x_e.1 false), (xtb_InvalidPlace.getD x_e.1 false)] : List Bool).map (fun y_ : Bool => (D.v (V.bl y_)))) (vs := [V.bl (xtb_InvalidFirst.getD x_e.1 true), V.bl (xtb_InvalidNumber.getD x_e.1 false), V.bl (xtb_InvalidPlace.getD x_e.1 false)]) hW nl2 (repL_cons rep_v (repL_cons rep_v (repL_cons rep_v repL_nil)))
    replace h_e := rep_cell (o := .lst [V.bl (xtb_InvalidFirst.getD x_e.1 true), V.bl (xtb_InvalidNumber.getD x_e.1 false), V.bl (xtb_InvalidPlace.getD x_e.1 false)]) nl2 h_e
    replace hW := wd_cell (o := .lst [V.bl (xtb_InvalidFirst.getD x_e.1 true), V.bl (xtb_InvalidNumber.getD x_e.1 false), V.bl (xtb_InvalidPlace.getD x_e.1 false)]) hW nl2
    generalize upd H_0 L1 (.lst [V.bl (xtb_InvalidFirst.getD x_e.1 true), V.bl (xtb_InvalidNumber.getD x_e.1 false), V.bl (xtb_InvalidPlace.getD x_e.1 false)]) = H5 at *
    replace mu4 : MutO (L1 :: ms) [] H_0 H5 L1 (D.lst (([(xtb_InvalidFirst.getD x_e.1 true), (xtb_InvalidNumber.getD x_e.1 false), (xtb_InvalidPlace.getD x_e.1 false)] : List Bool).map (fun y_ : Bool => (D.v (V.bl y_))))) := mu4
    refine ⟨_, rfl, ?_⟩
    refine ⟨mo_tyL mu4, ?_⟩
    refine ⟨_, rfl, ?_⟩
    apply rep_isV (c := V.ref A.c_InvalidMarks) (cv := Value.ref A.c_InvalidMarks) h_e (T.xva.ex xL_mem _) (fun _ r_ => r_) (kitA_at rfl T.xd_InvalidMarks T.xk_InvalidMarks _)
    refine ⟨_, rfl, ?_⟩
    apply rep_isV (c := V.ref A.c_InvalidStep) (cv := Value.ref A.c_InvalidStep) h_e (T.xva.ex xL_mem _) (fun _ r_ => r_) (kitA_at rfl T.xd_InvalidStep T.xk_InvalidStep _)
    refine ⟨_, rfl, ?_⟩
    apply rep_isV (c := V.ref A.c_InvalidStander) (cv := Value.ref A.c_InvalidStander) h_e (T.xva.ex xL_mem _) (fun _ r_ => r_) (kitA_at rfl T.xd_InvalidStander T.xk_InvalidStander _)
    refine ⟨(by show 3 ≤ sizeLine; decide), ?_⟩
    intro p6 n10
    have e7 := Rx.Ext.new (H := H5) (o := (HO.lst [V.bl (xtb_InvalidMarks.getD x_e.1 false), V.bl (xtb_InvalidStep.getD x_e.1 false), V.bl (xtb_InvalidStander.getD x_e.1 false)])) n10
    have hp8 : upd H5 p6 (HO.lst [V.bl (xtb_InvalidMarks.getD x_e.1 false), V.bl (xtb_InvalidStep.getD x_e.1 false), V.bl (xtb_InvalidStander.getD x_e.1 false)]) p6 = some (HO.lst [V.bl (xtb_InvalidMarks.getD x_e.1 false), V.bl (xtb_InvalidStep.getD x_e.1 false), V.bl (xtb_InvalidStander.getD x_e.1 false)]) := upd_same
    generalize upd H5 p6 (HO.lst [V.bl (xtb_InvalidMarks.getD x_e.1 false), V.bl (xtb_InvalidStep.getD x_e.1 false), V.bl (xtb_InvalidStander.getD x_e.1 false)]) = H11 at e7 hp8 ⊢
    have h9 : rep (L1 :: ms) H11 (D.lst (([(xtb_InvalidMarks.getD x_e.1 false), (xtb_InvalidStep.getD x_e.1 false), (xtb_InvalidStander.getD x_e.1 false)] : List Bool).map (fun y_ : Bool => (D.v (V.bl y_))))) (.ref p6) := rep_lst_mk hW n10 e7 hp8 (repL_cons rep_v (repL_cons rep_v (repL_cons rep_v repL_nil)))
    replace h_e := rep_ext e7 h_e
    replace mu4 := mo_ext e7 mu4
    replace hW := hW.ret0 e7
    obtain ⟨g12, hM⟩ := hM
    apply mo_extU (e := (fun y_ : Bool => (D.v (V.bl y_)))) (ys := ([(xtb_InvalidMarks.getD x_e.1 false), (xtb_InvalidStep.getD x_e.1 false), (xtb_InvalidStander.getD x_e.1 false)] : List Bool)) mu4 h9 (by rw [List.length_map]; exact g12)
    intro vs13 us14 hr15 hr16
    have mk17 := mo_setL mu4 (repL_cat (e := (fun y_ : Bool => (D.v (V.bl y_)))) (xs := ([(xtb_InvalidFirst.getD x_e.1 true), (xtb_InvalidNumber.getD x_e.1 false), (xtb_InvalidPlace.getD x_e.1 false)] : List Bool)) (ys := ([(xtb_InvalidMarks.getD x_e.1 false), (xtb_InvalidStep.getD x_e.1 false), (xtb_InvalidStander.getD x_e.1 false)] : List Bool)) hr15 hr16)
    replace h_e := rep_put (o := .lst (vs13 ++ us14)) mu4.im h_e
    replace h9 := rep_put (o := .lst (vs13 ++ us14)) mu4.im h9
    replace hW := wd_put (o := .lst (vs13 ++ us14)) hW mu4
    replace mu4 := mk17
    generalize upd H11 L1 (.lst (vs13 ++ us14)) = H18 at *
    replace mu4 : MutO (L1 :: ms) [] H_0 H18 L1 (D.lst ((([(xtb_InvalidFirst.getD x_e.1 true), (xtb_InvalidNumber.getD x_e.1 false), (xtb_InvalidPlace.getD x_e.1 false)] : List Bool) ++ ([(xtb_InvalidMarks.getD x_e.1 false), (xtb_InvalidStep.getD x_e.1 false), (xtb_InvalidStander.getD x_e.1 false)] : List Bool)).map (fun y_ : Bool => (D.v (V.bl y_))))) := mu4
    clear mk17
    refine ⟨_, rfl, ?_⟩
    refine ⟨mo_tyL mu4, ?_⟩
    refine ⟨_, rfl, ?_⟩
    apply rep_isV (c := V.ref A.c_InvalidTurned) (cv := Value.ref A.c_InvalidTurned) h_e (T.xva.ex xL_mem _) (fun _ r_ => r_) (kitA_at rfl T.xd_InvalidTurned T.xk_InvalidTurned _)
    refine ⟨_, rfl, ?_⟩
    apply rep_isV (c := V.ref A.c_InvalidSize) (cv := Value.ref A.c_InvalidSize) h_e (T.xva.ex xL_mem _) (fun _ r_ => r_) (kitA_at rfl T.xd_InvalidSize T.xk_InvalidSize _)
    refine ⟨_, rfl, ?_⟩
    apply rep_isV (c := V.ref A.c_InvalidTeam) (cv := Value.ref A.c_InvalidTeam) h_e (T.xva.ex xL_mem _) (fun _ r_ => r_) (kitA_at rfl T.xd_InvalidTeam T.xk_InvalidTeam _)
    refine ⟨(by show 3 ≤ sizeLine; decide), ?_⟩
    intro p19 n23
    have e20 := Rx.Ext.new (H := H18) (o := (HO.lst [V.bl (xtb_InvalidTurned.getD x_e.1 false), V.bl (xtb_InvalidSize.getD x_e.1 false), V.bl (xtb_InvalidTeam.getD x_e.1 false)])) n23
    have hp21 : upd H18 p19 (HO.lst [V.bl (xtb_InvalidTurned.getD x_e.1 false), V.bl (xtb_InvalidSize.getD x_e.1 false), V.bl (xtb_InvalidTeam.getD x_e.1 false)]) p19 = some (HO.lst [V.bl (xtb_InvalidTurned.getD x_e.1 false), V.bl (xtb_InvalidSize.getD x_e.1 false), V.bl (xtb_InvalidTeam.getD x_e.1 false)]) := upd_same
    generalize upd H18 p19 (HO.lst [V.bl (xtb_InvalidTurned.getD x_e.1 false), V.bl (xtb_InvalidSize.getD x_e.1 false), V.bl (xtb_InvalidTeam.getD x_e.1 false)]) = H24 at e20 hp21 ⊢
    have h22 : rep (L1 :: ms) H24 (D.lst (([(xtb_InvalidTurned.getD x_e.1 false), (xtb_InvalidSize.getD x_e.1 false), (xtb_InvalidTeam.getD x_e.1 false)] : List Bool).map (fun y_ : Bool => (D.v (V.bl y_))))) (.ref p19) := rep_lst_mk hW n23 e20 hp21 (repL_cons rep_v (repL_cons rep_v (repL_cons rep_v repL_nil)))
    replace h_e := rep_ext e20 h_e
    replace h9 := rep_ext e20 h9
    replace mu4 := mo_ext e20 mu4
    replace hW := hW.ret0 e20
    obtain ⟨g25, hM⟩ := hM
    apply mo_extU (e := (fun y_ : Bool => (D.v (V.bl y_)))) (ys := ([(xtb_InvalidTurned.getD x_e.1 false), (xtb_InvalidSize.getD x_e.1 false), (xtb_InvalidTeam.getD x_e.1 false)] : List Bool)) mu4 h22 (by rw [List.length_map]; exact g25)
    intro vs26 us27 hr28 hr29
    have mk30 := mo_setL mu4 (repL_cat (e := (fun y_ : Bool => (D.v (V.bl y_)))) (xs := (([(xtb_InvalidFirst.getD x_e.1 true), (xtb_InvalidNumber.getD x_e.1 false), (xtb_InvalidPlace.getD x_e.1 false)] : List Bool) ++ ([(xtb_InvalidMarks.getD x_e.1 false), (xtb_InvalidStep.getD x_e.1 false), (xtb_InvalidStander.getD x_e.1 false)] : List Bool))) (ys := ([(xtb_InvalidTurned.getD x_e.1 false), (xtb_InvalidSize.getD x_e.1 false), (xtb_InvalidTeam.getD x_e.1 false)] : List Bool)) hr28 hr29)
    replace h_e := rep_put (o := .lst (vs26 ++ us27)) mu4.im h_e
    replace h9 := rep_put (o := .lst (vs26 ++ us27)) mu4.im h9
    replace h22 := rep_put (o := .lst (vs26 ++ us27)) mu4.im h22
    replace hW := wd_put (o := .lst (vs26 ++ us27)) hW mu4
    replace mu4 := mk30
    generalize upd H24 L1 (.lst (vs26 ++ us27)) = H31 at *
    replace mu4 : MutO (L1 :: ms) [] H_0 H31 L1 (D.lst (((([(xtb_InvalidFirst.getD x_e.1 true), (xtb_InvalidNumber.getD x_e.1 false), (xtb_InvalidPlace.getD x_e.1 false)] : List Bool) ++ ([(xtb_InvalidMarks.getD x_e.1 false), (xtb_InvalidStep.getD x_e.1 false), (xtb_InvalidStander.getD x_e.1 false)] : List Bool)) ++ ([(xtb_InvalidTurned.getD x_e.1 false), (xtb_InvalidSize.getD x_e.1 false), (xtb_InvalidTeam.getD x_e.1 false)] : List Bool)).map (fun y_ : Bool => (D.v (V.bl y_))))) := mu4
    clear mk30
    refine ⟨_, rfl, ?_⟩
    refine ⟨mo_tyL mu4, ?_⟩
    refine ⟨_, rfl, ?_⟩
    apply rep_isV (c := V.ref A.c_InvalidRound) (cv := Value.ref A.c_InvalidRound) h_e (T.xva.ex xL_mem _) (fun _ r_ => r_) (kitA_at rfl T.xd_InvalidRound T.xk_InvalidRound _)
    refine ⟨_, rfl, ?_⟩
    apply rep_isV (c := V.ref A.c_InvalidCount) (cv := Value.ref A.c_InvalidCount) h_e (T.xva.ex xL_mem _) (fun _ r_ => r_) (kitA_at rfl T.xd_InvalidCount T.xk_InvalidCount _)
    refine ⟨_, rfl, ?_⟩
    apply rep_isV (c := V.ref A.c_InvalidClaim) (cv := Value.ref A.c_InvalidClaim) h_e (T.xva.ex xL_mem _) (fun _ r_ => r_) (kitA_at rfl T.xd_InvalidClaim T.xk_InvalidClaim _)
    refine ⟨(by show 3 ≤ sizeLine; decide), ?_⟩
    intro p32 n36
    have e33 := Rx.Ext.new (H := H31) (o := (HO.lst [V.bl (xtb_InvalidRound.getD x_e.1 false), V.bl (xtb_InvalidCount.getD x_e.1 false), V.bl (xtb_InvalidClaim.getD x_e.1 false)])) n36
    have hp34 : upd H31 p32 (HO.lst [V.bl (xtb_InvalidRound.getD x_e.1 false), V.bl (xtb_InvalidCount.getD x_e.1 false), V.bl (xtb_InvalidClaim.getD x_e.1 false)]) p32 = some (HO.lst [V.bl (xtb_InvalidRound.getD x_e.1 false), V.bl (xtb_InvalidCount.getD x_e.1 false), V.bl (xtb_InvalidClaim.getD x_e.1 false)]) := upd_same
    generalize upd H31 p32 (HO.lst [V.bl (xtb_InvalidRound.getD x_e.1 false), V.bl (xtb_InvalidCount.getD x_e.1 false), V.bl (xtb_InvalidClaim.getD x_e.1 false)]) = H37 at e33 hp34 ⊢
    have h35 : rep (L1 :: ms) H37 (D.lst (([(xtb_InvalidRound.getD x_e.1 false), (xtb_InvalidCount.getD x_e.1 false), (xtb_InvalidClaim.getD x_e.1 false)] : List Bool).map (fun y_ : Bool => (D.v (V.bl y_))))) (.ref p32) := rep_lst_mk hW n36 e33 hp34 (repL_cons rep_v (repL_cons rep_v (repL_cons rep_v repL_nil)))
    replace h_e := rep_ext e33 h_e
    replace h9 := rep_ext e33 h9
    replace h22 := rep_ext e33 h22
    replace mu4 := mo_ext e33 mu4
    replace hW := hW.ret0 e33
    obtain ⟨g38, hM⟩ := hM
    apply mo_extU (e := (fun y_ : Bool => (D.v (V.bl y_)))) (ys := ([(xtb_InvalidRound.getD x_e.1 false), (xtb_InvalidCount.getD x_e.1 false), (xtb_InvalidClaim.getD x_e.1 false)] : List Bool)) mu4 h35 (by rw [List.length_map]; exact g38)
    intro vs39 us40 hr41 hr42
    have mk43 := mo_setL mu4 (repL_cat (e := (fun y_ : Bool => (D.v (V.bl y_)))) (xs := ((([(xtb_InvalidFirst.getD x_e.1 true), (xtb_InvalidNumber.getD x_e.1 false), (xtb_InvalidPlace.getD x_e.1 false)] : List Bool) ++ ([(xtb_InvalidMarks.getD x_e.1 false), (xtb_InvalidStep.getD x_e.1 false), (xtb_InvalidStander.getD x_e.1 false)] : List Bool)) ++ ([(xtb_InvalidTurned.getD x_e.1 false), (xtb_InvalidSize.getD x_e.1 false), (xtb_InvalidTeam.getD x_e.1 false)] : List Bool))) (ys := ([(xtb_InvalidRound.getD x_e.1 false), (xtb_InvalidCount.getD x_e.1 false), (xtb_InvalidClaim.getD x_e.1 false)] : List Bool)) hr41 hr42)
    replace h_e := rep_put (o := .lst (vs39 ++ us40)) mu4.im h_e
    replace h9 := rep_put (o := .lst (vs39 ++ us40)) mu4.im h9
    replace h22 := rep_put (o := .lst (vs39 ++ us40)) mu4.im h22
    replace h35 := rep_put (o := .lst (vs39 ++ us40)) mu4.im h35
    replace hW := wd_put (o := .lst (vs39 ++ us40)) hW mu4
    replace mu4 := mk43
    generalize upd H37 L1 (.lst (vs39 ++ us40)) = H44 at *
    replace mu4 : MutO (L1 :: ms) [] H_0 H44 L1 (D.lst ((((([(xtb_InvalidFirst.getD x_e.1 true), (xtb_InvalidNumber.getD x_e.1 false), (xtb_InvalidPlace.getD x_e.1 false)] : List Bool) ++ ([(xtb_InvalidMarks.getD x_e.1 false), (xtb_InvalidStep.getD x_e.1 false), (xtb_InvalidStander.getD x_e.1 false)] : List Bool)) ++ ([(xtb_InvalidTurned.getD x_e.1 false), (xtb_InvalidSize.getD x_e.1 false), (xtb_InvalidTeam.getD x_e.1 false)] : List Bool)) ++ ([(xtb_InvalidRound.getD x_e.1 false), (xtb_InvalidCount.getD x_e.1 false), (xtb_InvalidClaim.getD x_e.1 false)] : List Bool)).map (fun y_ : Bool => (D.v (V.bl y_))))) := mu4
    clear mk43
    refine ⟨_, rfl, ?_⟩
    refine ⟨mo_tyL mu4, ?_⟩
    refine ⟨_, rfl, ?_⟩
    apply rep_isV (c := V.ref A.c_InvalidCommand) (cv := Value.ref A.c_InvalidCommand) h_e (T.xva.ex xL_mem _) (fun _ r_ => r_) (kitA_at rfl T.xd_InvalidCommand T.xk_InvalidCommand _)
    refine ⟨_, rfl, ?_⟩
    apply rep_isV (c := V.ref A.c_InvalidValues) (cv := Value.ref A.c_InvalidValues) h_e (T.xva.ex xL_mem _) (fun _ r_ => r_) (kitA_at rfl T.xd_InvalidValues T.xk_InvalidValues _)
    refine ⟨_, rfl, ?_⟩
    apply rep_isV (c := V.ref A.c_InvalidRows) (cv := Value.ref A.c_InvalidRows) h_e (T.xva.ex xL_mem _) (fun _ r_ => r_) (kitA_at rfl T.xd_InvalidRows T.xk_InvalidRows _)
    refine ⟨(by show 3 ≤ sizeLine; decide), ?_⟩
    intro p45 n49
    have e46 := Rx.Ext.new (H := H44) (o := (HO.lst [V.bl (xtb_InvalidCommand.getD x_e.1 false), V.bl (xtb_InvalidValues.getD x_e.1 false), V.bl (xtb_InvalidRows.getD x_e.1 false)])) n49
    have hp47 : upd H44 p45 (HO.lst [V.bl (xtb_InvalidCommand.getD x_e.1 false), V.bl (xtb_InvalidValues.getD x_e.1 false), V.bl (xtb_InvalidRows.getD x_e.1 false)]) p45 = some (HO.lst [V.bl (xtb_InvalidCommand.getD x_e.1 false), V.bl (xtb_InvalidValues.getD x_e.1 false), V.bl (xtb_InvalidRows.getD x_e.1 false)]) := upd_same
    generalize upd H44 p45 (HO.lst [V.bl (xtb_InvalidCommand.getD x_e.1 false), V.bl (xtb_InvalidValues.getD x_e.1 false), V.bl (xtb_InvalidRows.getD x_e.1 false)]) = H50 at e46 hp47 ⊢
    have h48 : rep (L1 :: ms) H50 (D.lst (([(xtb_InvalidCommand.getD x_e.1 false), (xtb_InvalidValues.getD x_e.1 false), (xtb_InvalidRows.getD x_e.1 false)] : List Bool).map (fun y_ : Bool => (D.v (V.bl y_))))) (.ref p45) := rep_lst_mk hW n49 e46 hp47 (repL_cons rep_v (repL_cons rep_v (repL_cons rep_v repL_nil)))
    replace h_e := rep_ext e46 h_e
    replace h9 := rep_ext e46 h9
    replace h22 := rep_ext e46 h22
    replace h35 := rep_ext e46 h35
    replace mu4 := mo_ext e46 mu4
    replace hW := hW.ret0 e46
    obtain ⟨g51, hM⟩ := hM
    apply mo_extU (e := (fun y_ : Bool => (D.v (V.bl y_)))) (ys := ([(xtb_InvalidCommand.getD x_e.1 false), (xtb_InvalidValues.getD x_e.1 false), (xtb_InvalidRows.getD x_e.1 false)] : List Bool)) mu4 h48 (by rw [List.length_map]; exact g51)
    intro vs52 us53 hr54 hr55
    have mk56 := mo_setL mu4 (repL_cat (e := (fun y_ : Bool => (D.v (V.bl y_)))) (xs := (((([(xtb_InvalidFirst.getD x_e.1 true), (xtb_InvalidNumber.getD x_e.1 false), (xtb_InvalidPlace.getD x_e.1 false)] : List Bool) ++ ([(xtb_InvalidMarks.getD x_e.1 false), (xtb_InvalidStep.getD x_e.1 false), (xtb_InvalidStander.getD x_e.1 false)] : List Bool)) ++ ([(xtb_InvalidTurned.getD x_e.1 false), (xtb_InvalidSize.getD x_e.1 false), (xtb_InvalidTeam.getD x_e.1 false)] : List Bool)) ++ ([(xtb_InvalidRound.getD x_e.1 false), (xtb_InvalidCount.getD x_e.1 false), (xtb_InvalidClaim.getD x_e.1 false)] : List Bool))) (ys := ([(xtb_InvalidCommand.getD x_e.1 false), (xtb_InvalidValues.getD x_e.1 false), (xtb_InvalidRows.getD x_e.1 false)] : List Bool)) hr54 hr55)
    replace h_e := rep_put (o := .lst (vs52 ++ us53)) mu4.im h_e
    replace h9 := rep_put (o := .lst (vs52 ++ us53)) mu4.im h9
    replace h22 := rep_put (o := .lst (vs52 ++ us53)) mu4.im h22
    replace h35 := rep_put (o := .lst (vs52 ++ us53)) mu4.im h35
    replace h48 := rep_put (o := .lst (vs52 ++ us53)) mu4.im h48
    replace hW := wd_put (o := .lst (vs52 ++ us53)) hW mu4
    replace mu4 := mk56
    generalize upd H50 L1 (.lst (vs52 ++ us53)) = H57 at *
    replace mu4 : MutO (L1 :: ms) [] H_0 H57 L1 (D.lst (((((([(xtb_InvalidFirst.getD x_e.1 true), (xtb_InvalidNumber.getD x_e.1 false), (xtb_InvalidPlace.getD x_e.1 false)] : List Bool) ++ ([(xtb_InvalidMarks.getD x_e.1 false), (xtb_InvalidStep.getD x_e.1 false), (xtb_InvalidStander.getD x_e.1 false)] : List Bool)) ++ ([(xtb_InvalidTurned.getD x_e.1 false), (xtb_InvalidSize.getD x_e.1 false), (xtb_InvalidTeam.getD x_e.1 false)] : List Bool)) ++ ([(xtb_InvalidRound.getD x_e.1 false), (xtb_InvalidCount.getD x_e.1 false), (xtb_InvalidClaim.getD x_e.1 false)] : List Bool)) ++ ([(xtb_InvalidCommand.getD x_e.1 false), (xtb_InvalidValues.getD x_e.1 false), (xtb_InvalidRows.getD x_e.1 false)] : List Bool)).map (fun y_ : Bool => (D.v (V.bl y_))))) := mu4
    clear mk56
    refine ⟨_, rfl, ?_⟩
    refine ⟨mo_tyL mu4, ?_⟩
    refine ⟨_, rfl, ?_⟩
    apply rep_isV (c := V.ref A.c_InvalidRounds) (cv := Value.ref A.c_InvalidRounds) h_e (T.xva.ex xL_mem _) (fun _ r_ => r_) (kitA_at rfl T.xd_InvalidRounds T.xk_InvalidRounds _)
    refine ⟨_, rfl, ?_⟩
    apply rep_isV (c := V.ref A.c_InvalidCells) (cv := Value.ref A.c_InvalidCells) h_e (T.xva.ex xL_mem _) (fun _ r_ => r_) (kitA_at rfl T.xd_InvalidCells T.xk_InvalidCells _)
    refine ⟨_, rfl, ?_⟩
    apply rep_isV (c := V.ref A.c_InvalidLegs) (cv := Value.ref A.c_InvalidLegs) h_e (T.xva.ex xL_mem _) (fun _ r_ => r_) (kitA_at rfl T.xd_InvalidLegs T.xk_InvalidLegs _)
    refine ⟨(by show 3 ≤ sizeLine; decide), ?_⟩
    intro p58 n62
    have e59 := Rx.Ext.new (H := H57) (o := (HO.lst [V.bl (xtb_InvalidRounds.getD x_e.1 false), V.bl (xtb_InvalidCells.getD x_e.1 false), V.bl (xtb_InvalidLegs.getD x_e.1 false)])) n62
    have hp60 : upd H57 p58 (HO.lst [V.bl (xtb_InvalidRounds.getD x_e.1 false), V.bl (xtb_InvalidCells.getD x_e.1 false), V.bl (xtb_InvalidLegs.getD x_e.1 false)]) p58 = some (HO.lst [V.bl (xtb_InvalidRounds.getD x_e.1 false), V.bl (xtb_InvalidCells.getD x_e.1 false), V.bl (xtb_InvalidLegs.getD x_e.1 false)]) := upd_same
    generalize upd H57 p58 (HO.lst [V.bl (xtb_InvalidRounds.getD x_e.1 false), V.bl (xtb_InvalidCells.getD x_e.1 false), V.bl (xtb_InvalidLegs.getD x_e.1 false)]) = H63 at e59 hp60 ⊢
    have h61 : rep (L1 :: ms) H63 (D.lst (([(xtb_InvalidRounds.getD x_e.1 false), (xtb_InvalidCells.getD x_e.1 false), (xtb_InvalidLegs.getD x_e.1 false)] : List Bool).map (fun y_ : Bool => (D.v (V.bl y_))))) (.ref p58) := rep_lst_mk hW n62 e59 hp60 (repL_cons rep_v (repL_cons rep_v (repL_cons rep_v repL_nil)))
    replace h_e := rep_ext e59 h_e
    replace h9 := rep_ext e59 h9
    replace h22 := rep_ext e59 h22
    replace h35 := rep_ext e59 h35
    replace h48 := rep_ext e59 h48
    replace mu4 := mo_ext e59 mu4
    replace hW := hW.ret0 e59
    obtain ⟨g64, hM⟩ := hM
    apply mo_extU (e := (fun y_ : Bool => (D.v (V.bl y_)))) (ys := ([(xtb_InvalidRounds.getD x_e.1 false), (xtb_InvalidCells.getD x_e.1 false), (xtb_InvalidLegs.getD x_e.1 false)] : List Bool)) mu4 h61 (by rw [List.length_map]; exact g64)
    intro vs65 us66 hr67 hr68
    have mk69 := mo_setL mu4 (repL_cat (e := (fun y_ : Bool => (D.v (V.bl y_)))) (xs := ((((([(xtb_InvalidFirst.getD x_e.1 true), (xtb_InvalidNumber.getD x_e.1 false), (xtb_InvalidPlace.getD x_e.1 false)] : List Bool) ++ ([(xtb_InvalidMarks.getD x_e.1 false), (xtb_InvalidStep.getD x_e.1 false), (xtb_InvalidStander.getD x_e.1 false)] : List Bool)) ++ ([(xtb_InvalidTurned.getD x_e.1 false), (xtb_InvalidSize.getD x_e.1 false), (xtb_InvalidTeam.getD x_e.1 false)] : List Bool)) ++ ([(xtb_InvalidRound.getD x_e.1 false), (xtb_InvalidCount.getD x_e.1 false), (xtb_InvalidClaim.getD x_e.1 false)] : List Bool)) ++ ([(xtb_InvalidCommand.getD x_e.1 false), (xtb_InvalidValues.getD x_e.1 false), (xtb_InvalidRows.getD x_e.1 false)] : List Bool))) (ys := ([(xtb_InvalidRounds.getD x_e.1 false), (xtb_InvalidCells.getD x_e.1 false), (xtb_InvalidLegs.getD x_e.1 false)] : List Bool)) hr67 hr68)
    replace h_e := rep_put (o := .lst (vs65 ++ us66)) mu4.im h_e
    replace h9 := rep_put (o := .lst (vs65 ++ us66)) mu4.im h9
    replace h22 := rep_put (o := .lst (vs65 ++ us66)) mu4.im h22
    replace h35 := rep_put (o := .lst (vs65 ++ us66)) mu4.im h35
    replace h48 := rep_put (o := .lst (vs65 ++ us66)) mu4.im h48
    replace h61 := rep_put (o := .lst (vs65 ++ us66)) mu4.im h61
    replace hW := wd_put (o := .lst (vs65 ++ us66)) hW mu4
    replace mu4 := mk69
    generalize upd H63 L1 (.lst (vs65 ++ us66)) = H70 at *
    replace mu4 : MutO (L1 :: ms) [] H_0 H70 L1 (D.lst ((((((([(xtb_InvalidFirst.getD x_e.1 true), (xtb_InvalidNumber.getD x_e.1 false), (xtb_InvalidPlace.getD x_e.1 false)] : List Bool) ++ ([(xtb_InvalidMarks.getD x_e.1 false), (xtb_InvalidStep.getD x_e.1 false), (xtb_InvalidStander.getD x_e.1 false)] : List Bool)) ++ ([(xtb_InvalidTurned.getD x_e.1 false), (xtb_InvalidSize.getD x_e.1 false), (xtb_InvalidTeam.getD x_e.1 false)] : List Bool)) ++ ([(xtb_InvalidRound.getD x_e.1 false), (xtb_InvalidCount.getD x_e.1 false), (xtb_InvalidClaim.getD x_e.1 false)] : List Bool)) ++ ([(xtb_InvalidCommand.getD x_e.1 false), (xtb_InvalidValues.getD x_e.1 false), (xtb_InvalidRows.getD x_e.1 false)] : List Bool)) ++ ([(xtb_InvalidRounds.getD x_e.1 false), (xtb_InvalidCells.getD x_e.1 false), (xtb_InvalidLegs.getD x_e.1 false)] : List Bool)).map (fun y_ : Bool => (D.v (V.bl y_))))) := mu4
    clear mk69
    refine ⟨_, rfl, ?_⟩
    refine ⟨mo_tyL mu4, ?_⟩
    refine ⟨_, rfl, ?_⟩
    apply rep_isV (c := V.ref A.c_InvalidLot) (cv := Value.ref A.c_InvalidLot) h_e (T.xva.ex xL_mem _) (fun _ r_ => r_) (kitA_at rfl T.xd_InvalidLot T.xk_InvalidLot _)
    refine ⟨_, rfl, ?_⟩
    apply rep_isV (c := V.ref A.c_InvalidFixed) (cv := Value.ref A.c_InvalidFixed) h_e (T.xva.ex xL_mem _) (fun _ r_ => r_) (kitA_at rfl T.xd_InvalidFixed T.xk_InvalidFixed _)
    refine ⟨_, rfl, ?_⟩
    apply rep_isV (c := V.ref A.c_InvalidGauge) (cv := Value.ref A.c_InvalidGauge) h_e (T.xva.ex xL_mem _) (fun _ r_ => r_) (kitA_at rfl T.xd_InvalidGauge T.xk_InvalidGauge _)
    refine ⟨(by show 3 ≤ sizeLine; decide), ?_⟩
    intro p71 n75
    have e72 := Rx.Ext.new (H := H70) (o := (HO.lst [V.bl (xtb_InvalidLot.getD x_e.1 false), V.bl (xtb_InvalidFixed.getD x_e.1 false), V.bl (xtb_InvalidGauge.getD x_e.1 false)])) n75
    have hp73 : upd H70 p71 (HO.lst [V.bl (xtb_InvalidLot.getD x_e.1 false), V.bl (xtb_InvalidFixed.getD x_e.1 false), V.bl (xtb_InvalidGauge.getD x_e.1 false)]) p71 = some (HO.lst [V.bl (xtb_InvalidLot.getD x_e.1 false), V.bl (xtb_InvalidFixed.getD x_e.1 false), V.bl (xtb_InvalidGauge.getD x_e.1 false)]) := upd_same
    generalize upd H70 p71 (HO.lst [V.bl (xtb_InvalidLot.getD x_e.1 false), V.bl (xtb_InvalidFixed.getD x_e.1 false), V.bl (xtb_InvalidGauge.getD x_e.1 false)]) = H76 at e72 hp73 ⊢
    have h74 : rep (L1 :: ms) H76 (D.lst (([(xtb_InvalidLot.getD x_e.1 false), (xtb_InvalidFixed.getD x_e.1 false), (xtb_InvalidGauge.getD x_e.1 false)] : List Bool).map (fun y_ : Bool => (D.v (V.bl y_))))) (.ref p71) := rep_lst_mk hW n75 e72 hp73 (repL_cons rep_v (repL_cons rep_v (repL_cons rep_v repL_nil)))
    replace h_e := rep_ext e72 h_e
    replace h9 := rep_ext e72 h9
    replace h22 := rep_ext e72 h22
    replace h35 := rep_ext e72 h35
    replace h48 := rep_ext e72 h48
    replace h61 := rep_ext e72 h61
    replace mu4 := mo_ext e72 mu4
    replace hW := hW.ret0 e72
    obtain ⟨g77, hM⟩ := hM
    apply mo_extU (e := (fun y_ : Bool => (D.v (V.bl y_)))) (ys := ([(xtb_InvalidLot.getD x_e.1 false), (xtb_InvalidFixed.getD x_e.1 false), (xtb_InvalidGauge.getD x_e.1 false)] : List Bool)) mu4 h74 (by rw [List.length_map]; exact g77)
    intro vs78 us79 hr80 hr81
    have mk82 := mo_setL mu4 (repL_cat (e := (fun y_ : Bool => (D.v (V.bl y_)))) (xs := (((((([(xtb_InvalidFirst.getD x_e.1 true), (xtb_InvalidNumber.getD x_e.1 false), (xtb_InvalidPlace.getD x_e.1 false)] : List Bool) ++ ([(xtb_InvalidMarks.getD x_e.1 false), (xtb_InvalidStep.getD x_e.1 false), (xtb_InvalidStander.getD x_e.1 false)] : List Bool)) ++ ([(xtb_InvalidTurned.getD x_e.1 false), (xtb_InvalidSize.getD x_e.1 false), (xtb_InvalidTeam.getD x_e.1 false)] : List Bool)) ++ ([(xtb_InvalidRound.getD x_e.1 false), (xtb_InvalidCount.getD x_e.1 false), (xtb_InvalidClaim.getD x_e.1 false)] : List Bool)) ++ ([(xtb_InvalidCommand.getD x_e.1 false), (xtb_InvalidValues.getD x_e.1 false), (xtb_InvalidRows.getD x_e.1 false)] : List Bool)) ++ ([(xtb_InvalidRounds.getD x_e.1 false), (xtb_InvalidCells.getD x_e.1 false), (xtb_InvalidLegs.getD x_e.1 false)] : List Bool))) (ys := ([(xtb_InvalidLot.getD x_e.1 false), (xtb_InvalidFixed.getD x_e.1 false), (xtb_InvalidGauge.getD x_e.1 false)] : List Bool)) hr80 hr81)
    replace h_e := rep_put (o := .lst (vs78 ++ us79)) mu4.im h_e
    replace h9 := rep_put (o := .lst (vs78 ++ us79)) mu4.im h9
    replace h22 := rep_put (o := .lst (vs78 ++ us79)) mu4.im h22
    replace h35 := rep_put (o := .lst (vs78 ++ us79)) mu4.im h35
    replace h48 := rep_put (o := .lst (vs78 ++ us79)) mu4.im h48
    replace h61 := rep_put (o := .lst (vs78 ++ us79)) mu4.im h61
    replace h74 := rep_put (o := .lst (vs78 ++ us79)) mu4.im h74
    replace hW := wd_put (o := .lst (vs78 ++ us79)) hW mu4
    replace mu4 := mk82
    generalize upd H76 L1 (.lst (vs78 ++ us79)) = H83 at *
    replace mu4 : MutO (L1 :: ms) [] H_0 H83 L1 (D.lst (((((((([(xtb_InvalidFirst.getD x_e.1 true), (xtb_InvalidNumber.getD x_e.1 false), (xtb_InvalidPlace.getD x_e.1 false)] : List Bool) ++ ([(xtb_InvalidMarks.getD x_e.1 false), (xtb_InvalidStep.getD x_e.1 false), (xtb_InvalidStander.getD x_e.1 false)] : List Bool)) ++ ([(xtb_InvalidTurned.getD x_e.1 false), (xtb_InvalidSize.getD x_e.1 false), (xtb_InvalidTeam.getD x_e.1 false)] : List Bool)) ++ ([(xtb_InvalidRound.getD x_e.1 false), (xtb_InvalidCount.getD x_e.1 false), (xtb_InvalidClaim.getD x_e.1 false)] : List Bool)) ++ ([(xtb_InvalidCommand.getD x_e.1 false), (xtb_InvalidValues.getD x_e.1 false), (xtb_InvalidRows.getD x_e.1 false)] : List Bool)) ++ ([(xtb_InvalidRounds.getD x_e.1 false), (xtb_InvalidCells.getD x_e.1 false), (xtb_InvalidLegs.getD x_e.1 false)] : List Bool)) ++ ([(xtb_InvalidLot.getD x_e.1 false), (xtb_InvalidFixed.getD x_e.1 false), (xtb_InvalidGauge.getD x_e.1 false)] : List Bool)).map (fun y_ : Bool => (D.v (V.bl y_))))) := mu4
    clear mk82
    refine ⟨_, rfl, ?_⟩
    refine ⟨mo_tyL mu4, ?_⟩
    refine ⟨_, rfl, ?_⟩
    apply rep_isV (c := V.ref A.c_InvalidText) (cv := Value.ref A.c_InvalidText) h_e (T.xva.ex xL_mem _) (fun _ r_ => r_) (kitA_at rfl T.xd_InvalidText T.xk_InvalidText _)
    refine ⟨_, rfl, ?_⟩
    apply rep_isV (c := V.ref A.c_CommandFailed) (cv := Value.ref A.c_CommandFailed) h_e (T.xva.ex xL_mem _) (fun _ r_ => r_) (kitA_at rfl T.xd_CommandFailed T.xk_CommandFailed _)
    refine ⟨_, rfl, ?_⟩
    apply rep_isV (c := V.ref A.c_NotRight) (cv := Value.ref A.c_NotRight) h_e (T.xva.ex xL_mem _) (fun _ r_ => r_) (kitA_at rfl T.xd_NotRight T.xk_NotRight _)
    refine ⟨(by show 3 ≤ sizeLine; decide), ?_⟩
    intro p84 n88
    have e85 := Rx.Ext.new (H := H83) (o := (HO.lst [V.bl (xtb_InvalidText.getD x_e.1 false), V.bl (xtb_CommandFailed.getD x_e.1 false), V.bl (xtb_NotRight.getD x_e.1 false)])) n88
    have hp86 : upd H83 p84 (HO.lst [V.bl (xtb_InvalidText.getD x_e.1 false), V.bl (xtb_CommandFailed.getD x_e.1 false), V.bl (xtb_NotRight.getD x_e.1 false)]) p84 = some (HO.lst [V.bl (xtb_InvalidText.getD x_e.1 false), V.bl (xtb_CommandFailed.getD x_e.1 false), V.bl (xtb_NotRight.getD x_e.1 false)]) := upd_same
    generalize upd H83 p84 (HO.lst [V.bl (xtb_InvalidText.getD x_e.1 false), V.bl (xtb_CommandFailed.getD x_e.1 false), V.bl (xtb_NotRight.getD x_e.1 false)]) = H89 at e85 hp86 ⊢
    have h87 : rep (L1 :: ms) H89 (D.lst (([(xtb_InvalidText.getD x_e.1 false), (xtb_CommandFailed.getD x_e.1 false), (xtb_NotRight.getD x_e.1 false)] : List Bool).map (fun y_ : Bool => (D.v (V.bl y_))))) (.ref p84) := rep_lst_mk hW n88 e85 hp86 (repL_cons rep_v (repL_cons rep_v (repL_cons rep_v repL_nil)))
    replace h_e := rep_ext e85 h_e
    replace h9 := rep_ext e85 h9
    replace h22 := rep_ext e85 h22
    replace h35 := rep_ext e85 h35
    replace h48 := rep_ext e85 h48
    replace h61 := rep_ext e85 h61
    replace h74 := rep_ext e85 h74
    replace mu4 := mo_ext e85 mu4
    replace hW := hW.ret0 e85
    obtain ⟨g90, hM⟩ := hM
    apply mo_extU (e := (fun y_ : Bool => (D.v (V.bl y_)))) (ys := ([(xtb_InvalidText.getD x_e.1 false), (xtb_CommandFailed.getD x_e.1 false), (xtb_NotRight.getD x_e.1 false)] : List Bool)) mu4 h87 (by rw [List.length_map]; exact g90)
    intro vs91 us92 hr93 hr94
    have mk95 := mo_setL mu4 (repL_cat (e := (fun y_ : Bool => (D.v (V.bl y_)))) (xs := ((((((([(xtb_InvalidFirst.getD x_e.1 true), (xtb_InvalidNumber.getD x_e.1 false), (xtb_InvalidPlace.getD x_e.1 false)] : List Bool) ++ ([(xtb_InvalidMarks.getD x_e.1 false), (xtb_InvalidStep.getD x_e.1 false), (xtb_InvalidStander.getD x_e.1 false)] : List Bool)) ++ ([(xtb_InvalidTurned.getD x_e.1 false), (xtb_InvalidSize.getD x_e.1 false), (xtb_InvalidTeam.getD x_e.1 false)] : List Bool)) ++ ([(xtb_InvalidRound.getD x_e.1 false), (xtb_InvalidCount.getD x_e.1 false), (xtb_InvalidClaim.getD x_e.1 false)] : List Bool)) ++ ([(xtb_InvalidCommand.getD x_e.1 false), (xtb_InvalidValues.getD x_e.1 false), (xtb_InvalidRows.getD x_e.1 false)] : List Bool)) ++ ([(xtb_InvalidRounds.getD x_e.1 false), (xtb_InvalidCells.getD x_e.1 false), (xtb_InvalidLegs.getD x_e.1 false)] : List Bool)) ++ ([(xtb_InvalidLot.getD x_e.1 false), (xtb_InvalidFixed.getD x_e.1 false), (xtb_InvalidGauge.getD x_e.1 false)] : List Bool))) (ys := ([(xtb_InvalidText.getD x_e.1 false), (xtb_CommandFailed.getD x_e.1 false), (xtb_NotRight.getD x_e.1 false)] : List Bool)) hr93 hr94)
    replace h_e := rep_put (o := .lst (vs91 ++ us92)) mu4.im h_e
    replace h9 := rep_put (o := .lst (vs91 ++ us92)) mu4.im h9
    replace h22 := rep_put (o := .lst (vs91 ++ us92)) mu4.im h22
    replace h35 := rep_put (o := .lst (vs91 ++ us92)) mu4.im h35
    replace h48 := rep_put (o := .lst (vs91 ++ us92)) mu4.im h48
    replace h61 := rep_put (o := .lst (vs91 ++ us92)) mu4.im h61
    replace h74 := rep_put (o := .lst (vs91 ++ us92)) mu4.im h74
    replace h87 := rep_put (o := .lst (vs91 ++ us92)) mu4.im h87
    replace hW := wd_put (o := .lst (vs91 ++ us92)) hW mu4
    replace mu4 := mk95
    generalize upd H89 L1 (.lst (vs91 ++ us92)) = H96 at *
    replace mu4 : MutO (L1 :: ms) [] H_0 H96 L1 (D.lst ((((((((([(xtb_InvalidFirst.getD x_e.1 true), (xtb_InvalidNumber.getD x_e.1 false), (xtb_InvalidPlace.getD x_e.1 false)] : List Bool) ++ ([(xtb_InvalidMarks.getD x_e.1 false), (xtb_InvalidStep.getD x_e.1 false), (xtb_InvalidStander.getD x_e.1 false)] : List Bool)) ++ ([(xtb_InvalidTurned.getD x_e.1 false), (xtb_InvalidSize.getD x_e.1 false), (xtb_InvalidTeam.getD x_e.1 false)] : List Bool)) ++ ([(xtb_InvalidRound.getD x_e.1 false), (xtb_InvalidCount.getD x_e.1 false), (xtb_InvalidClaim.getD x_e.1 false)] : List Bool)) ++ ([(xtb_InvalidCommand.getD x_e.1 false), (xtb_InvalidValues.getD x_e.1 false), (xtb_InvalidRows.getD x_e.1 false)] : List Bool)) ++ ([(xtb_InvalidRounds.getD x_e.1 false), (xtb_InvalidCells.getD x_e.1 false), (xtb_InvalidLegs.getD x_e.1 false)] : List Bool)) ++ ([(xtb_InvalidLot.getD x_e.1 false), (xtb_InvalidFixed.getD x_e.1 false), (xtb_InvalidGauge.getD x_e.1 false)] : List Bool)) ++ ([(xtb_InvalidText.getD x_e.1 false), (xtb_CommandFailed.getD x_e.1 false), (xtb_NotRight.getD x_e.1 false)] : List Bool)).map (fun y_ : Bool => (D.v (V.bl y_))))) := mu4
    clear mk95
    refine ⟨_, rfl, ?_⟩
    refine ⟨mo_tyL mu4, ?_⟩
    refine ⟨_, rfl, ?_⟩
    apply rep_isV (c := V.ref A.c_NotSingle) (cv := Value.ref A.c_NotSingle) h_e (T.xva.ex xL_mem _) (fun _ r_ => r_) (kitA_at rfl T.xd_NotSingle T.xk_NotSingle _)
    refine ⟨_, rfl, ?_⟩
    apply rep_isV (c := V.ref A.c_NotOpen) (cv := Value.ref A.c_NotOpen) h_e (T.xva.ex xL_mem _) (fun _ r_ => r_) (kitA_at rfl T.xd_NotOpen T.xk_NotOpen _)
    refine ⟨_, rfl, ?_⟩
    apply rep_isV (c := V.ref A.c_Unplayed) (cv := Value.ref A.c_Unplayed) h_e (T.xva.ex xL_mem _) (fun _ r_ => r_) (kitA_at rfl T.xd_Unplayed T.xk_Unplayed _)
    refine ⟨(by show 3 ≤ sizeLine; decide), ?_⟩
    intro p97 n101
    have e98 := Rx.Ext.new (H := H96) (o := (HO.lst [V.bl (xtb_NotSingle.getD x_e.1 false), V.bl (xtb_NotOpen.getD x_e.1 false), V.bl (xtb_Unplayed.getD x_e.1 false)])) n101
    have hp99 : upd H96 p97 (HO.lst [V.bl (xtb_NotSingle.getD x_e.1 false), V.bl (xtb_NotOpen.getD x_e.1 false), V.bl (xtb_Unplayed.getD x_e.1 false)]) p97 = some (HO.lst [V.bl (xtb_NotSingle.getD x_e.1 false), V.bl (xtb_NotOpen.getD x_e.1 false), V.bl (xtb_Unplayed.getD x_e.1 false)]) := upd_same
    generalize upd H96 p97 (HO.lst [V.bl (xtb_NotSingle.getD x_e.1 false), V.bl (xtb_NotOpen.getD x_e.1 false), V.bl (xtb_Unplayed.getD x_e.1 false)]) = H102 at e98 hp99 ⊢
    have h100 : rep (L1 :: ms) H102 (D.lst (([(xtb_NotSingle.getD x_e.1 false), (xtb_NotOpen.getD x_e.1 false), (xtb_Unplayed.getD x_e.1 false)] : List Bool).map (fun y_ : Bool => (D.v (V.bl y_))))) (.ref p97) := rep_lst_mk hW n101 e98 hp99 (repL_cons rep_v (repL_cons rep_v (repL_cons rep_v repL_nil)))
    replace h_e := rep_ext e98 h_e
    replace h9 := rep_ext e98 h9
    replace h22 := rep_ext e98 h22
    replace h35 := rep_ext e98 h35
    replace h48 := rep_ext e98 h48
    replace h61 := rep_ext e98 h61
    replace h74 := rep_ext e98 h74
    replace h87 := rep_ext e98 h87
    replace mu4 := mo_ext e98 mu4
    replace hW := hW.ret0 e98
    obtain ⟨g103, hM⟩ := hM
    apply mo_extU (e := (fun y_ : Bool => (D.v (V.bl y_)))) (ys := ([(xtb_NotSingle.getD x_e.1 false), (xtb_NotOpen.getD x_e.1 false), (xtb_Unplayed.getD x_e.1 false)] : List Bool)) mu4 h100 (by rw [List.length_map]; exact g103)
    intro vs104 us105 hr106 hr107
    have mk108 := mo_setL mu4 (repL_cat (e := (fun y_ : Bool => (D.v (V.bl y_)))) (xs := (((((((([(xtb_InvalidFirst.getD x_e.1 true), (xtb_InvalidNumber.getD x_e.1 false), (xtb_InvalidPlace.getD x_e.1 false)] : List Bool) ++ ([(xtb_InvalidMarks.getD x_e.1 false), (xtb_InvalidStep.getD x_e.1 false), (xtb_InvalidStander.getD x_e.1 false)] : List Bool)) ++ ([(xtb_InvalidTurned.getD x_e.1 false), (xtb_InvalidSize.getD x_e.1 false), (xtb_InvalidTeam.getD x_e.1 false)] : List Bool)) ++ ([(xtb_InvalidRound.getD x_e.1 false), (xtb_InvalidCount.getD x_e.1 false), (xtb_InvalidClaim.getD x_e.1 false)] : List Bool)) ++ ([(xtb_InvalidCommand.getD x_e.1 false), (xtb_InvalidValues.getD x_e.1 false), (xtb_InvalidRows.getD x_e.1 false)] : List Bool)) ++ ([(xtb_InvalidRounds.getD x_e.1 false), (xtb_InvalidCells.getD x_e.1 false), (xtb_InvalidLegs.getD x_e.1 false)] : List Bool)) ++ ([(xtb_InvalidLot.getD x_e.1 false), (xtb_InvalidFixed.getD x_e.1 false), (xtb_InvalidGauge.getD x_e.1 false)] : List Bool)) ++ ([(xtb_InvalidText.getD x_e.1 false), (xtb_CommandFailed.getD x_e.1 false), (xtb_NotRight.getD x_e.1 false)] : List Bool))) (ys := ([(xtb_NotSingle.getD x_e.1 false), (xtb_NotOpen.getD x_e.1 false), (xtb_Unplayed.getD x_e.1 false)] : List Bool)) hr106 hr107)
    replace h_e := rep_put (o := .lst (vs104 ++ us105)) mu4.im h_e
    replace h9 := rep_put (o := .lst (vs104 ++ us105)) mu4.im h9
    replace h22 := rep_put (o := .lst (vs104 ++ us105)) mu4.im h22
    replace h35 := rep_put (o := .lst (vs104 ++ us105)) mu4.im h35
    replace h48 := rep_put (o := .lst (vs104 ++ us105)) mu4.im h48
    replace h61 := rep_put (o := .lst (vs104 ++ us105)) mu4.im h61
    replace h74 := rep_put (o := .lst (vs104 ++ us105)) mu4.im h74
    replace h87 := rep_put (o := .lst (vs104 ++ us105)) mu4.im h87
    replace h100 := rep_put (o := .lst (vs104 ++ us105)) mu4.im h100
    replace hW := wd_put (o := .lst (vs104 ++ us105)) hW mu4
    replace mu4 := mk108
    generalize upd H102 L1 (.lst (vs104 ++ us105)) = H109 at *
    replace mu4 : MutO (L1 :: ms) [] H_0 H109 L1 (D.lst (((((((((([(xtb_InvalidFirst.getD x_e.1 true), (xtb_InvalidNumber.getD x_e.1 false), (xtb_InvalidPlace.getD x_e.1 false)] : List Bool) ++ ([(xtb_InvalidMarks.getD x_e.1 false), (xtb_InvalidStep.getD x_e.1 false), (xtb_InvalidStander.getD x_e.1 false)] : List Bool)) ++ ([(xtb_InvalidTurned.getD x_e.1 false), (xtb_InvalidSize.getD x_e.1 false), (xtb_InvalidTeam.getD x_e.1 false)] : List Bool)) ++ ([(xtb_InvalidRound.getD x_e.1 false), (xtb_InvalidCount.getD x_e.1 false), (xtb_InvalidClaim.getD x_e.1 false)] : List Bool)) ++ ([(xtb_InvalidCommand.getD x_e.1 false), (xtb_InvalidValues.getD x_e.1 false), (xtb_InvalidRows.getD x_e.1 false)] : List Bool)) ++ ([(xtb_InvalidRounds.getD x_e.1 false), (xtb_InvalidCells.getD x_e.1 false), (xtb_InvalidLegs.getD x_e.1 false)] : List Bool)) ++ ([(xtb_InvalidLot.getD x_e.1 false), (xtb_InvalidFixed.getD x_e.1 false), (xtb_InvalidGauge.getD x_e.1 false)] : List Bool)) ++ ([(xtb_InvalidText.getD x_e.1 false), (xtb_CommandFailed.getD x_e.1 false), (xtb_NotRight.getD x_e.1 false)] : List Bool)) ++ ([(xtb_NotSingle.getD x_e.1 false), (xtb_NotOpen.getD x_e.1 false), (xtb_Unplayed.getD x_e.1 false)] : List Bool)).map (fun y_ : Bool => (D.v (V.bl y_))))) := mu4
    clear mk108
    refine ⟨_, rfl, ?_⟩
    refine ⟨mo_tyL mu4, ?_⟩
    refine ⟨_, rfl, ?_⟩
    apply rep_isV (c := V.ref A.c_TooMany) (cv := Value.ref A.c_TooMany) h_e (T.xva.ex xL_mem _) (fun _ r_ => r_) (kitA_at rfl T.xd_TooMany T.xk_TooMany _)
    refine ⟨_, rfl, ?_⟩
    apply rep_isV (c := V.ref A.c_NoRound) (cv := Value.ref A.c_NoRound) h_e (T.xva.ex xL_mem _) (fun _ r_ => r_) (kitA_at rfl T.xd_NoRound T.xk_NoRound _)
    refine ⟨_, rfl, ?_⟩
    apply rep_isV (c := V.ref A.c_NothingToUndo) (cv := Value.ref A.c_NothingToUndo) h_e (T.xva.ex xL_mem _) (fun _ r_ => r_) (kitA_at rfl T.xd_NothingToUndo T.xk_NothingToUndo _)
    refine ⟨(by show 3 ≤ sizeLine; decide), ?_⟩
    intro p110 n114
    have e111 := Rx.Ext.new (H := H109) (o := (HO.lst [V.bl (xtb_TooMany.getD x_e.1 false), V.bl (xtb_NoRound.getD x_e.1 false), V.bl (xtb_NothingToUndo.getD x_e.1 false)])) n114
    have hp112 : upd H109 p110 (HO.lst [V.bl (xtb_TooMany.getD x_e.1 false), V.bl (xtb_NoRound.getD x_e.1 false), V.bl (xtb_NothingToUndo.getD x_e.1 false)]) p110 = some (HO.lst [V.bl (xtb_TooMany.getD x_e.1 false), V.bl (xtb_NoRound.getD x_e.1 false), V.bl (xtb_NothingToUndo.getD x_e.1 false)]) := upd_same
    generalize upd H109 p110 (HO.lst [V.bl (xtb_TooMany.getD x_e.1 false), V.bl (xtb_NoRound.getD x_e.1 false), V.bl (xtb_NothingToUndo.getD x_e.1 false)]) = H115 at e111 hp112 ⊢
    have h113 : rep (L1 :: ms) H115 (D.lst (([(xtb_TooMany.getD x_e.1 false), (xtb_NoRound.getD x_e.1 false), (xtb_NothingToUndo.getD x_e.1 false)] : List Bool).map (fun y_ : Bool => (D.v (V.bl y_))))) (.ref p110) := rep_lst_mk hW n114 e111 hp112 (repL_cons rep_v (repL_cons rep_v (repL_cons rep_v repL_nil)))
    replace h_e := rep_ext e111 h_e
    replace h9 := rep_ext e111 h9
    replace h22 := rep_ext e111 h22
    replace h35 := rep_ext e111 h35
    replace h48 := rep_ext e111 h48
    replace h61 := rep_ext e111 h61
    replace h74 := rep_ext e111 h74
    replace h87 := rep_ext e111 h87
    replace h100 := rep_ext e111 h100
    replace mu4 := mo_ext e111 mu4
    replace hW := hW.ret0 e111
    obtain ⟨g116, hM⟩ := hM
    apply mo_extU (e := (fun y_ : Bool => (D.v (V.bl y_)))) (ys := ([(xtb_TooMany.getD x_e.1 false), (xtb_NoRound.getD x_e.1 false), (xtb_NothingToUndo.getD x_e.1 false)] : List Bool)) mu4 h113 (by rw [List.length_map]; exact g116)
    intro vs117 us118 hr119 hr120
    have mk121 := mo_setL mu4 (repL_cat (e := (fun y_ : Bool => (D.v (V.bl y_)))) (xs := ((((((((([(xtb_InvalidFirst.getD x_e.1 true), (xtb_InvalidNumber.getD x_e.1 false), (xtb_InvalidPlace.getD x_e.1 false)] : List Bool) ++ ([(xtb_InvalidMarks.getD x_e.1 false), (xtb_InvalidStep.getD x_e.1 false), (xtb_InvalidStander.getD x_e.1 false)] : List Bool)) ++ ([(xtb_InvalidTurned.getD x_e.1 false), (xtb_InvalidSize.getD x_e.1 false), (xtb_InvalidTeam.getD x_e.1 false)] : List Bool)) ++ ([(xtb_InvalidRound.getD x_e.1 false), (xtb_InvalidCount.getD x_e.1 false), (xtb_InvalidClaim.getD x_e.1 false)] : List Bool)) ++ ([(xtb_InvalidCommand.getD x_e.1 false), (xtb_InvalidValues.getD x_e.1 false), (xtb_InvalidRows.getD x_e.1 false)] : List Bool)) ++ ([(xtb_InvalidRounds.getD x_e.1 false), (xtb_InvalidCells.getD x_e.1 false), (xtb_InvalidLegs.getD x_e.1 false)] : List Bool)) ++ ([(xtb_InvalidLot.getD x_e.1 false), (xtb_InvalidFixed.getD x_e.1 false), (xtb_InvalidGauge.getD x_e.1 false)] : List Bool)) ++ ([(xtb_InvalidText.getD x_e.1 false), (xtb_CommandFailed.getD x_e.1 false), (xtb_NotRight.getD x_e.1 false)] : List Bool)) ++ ([(xtb_NotSingle.getD x_e.1 false), (xtb_NotOpen.getD x_e.1 false), (xtb_Unplayed.getD x_e.1 false)] : List Bool))) (ys := ([(xtb_TooMany.getD x_e.1 false), (xtb_NoRound.getD x_e.1 false), (xtb_NothingToUndo.getD x_e.1 false)] : List Bool)) hr119 hr120)
    replace h_e := rep_put (o := .lst (vs117 ++ us118)) mu4.im h_e
    replace h9 := rep_put (o := .lst (vs117 ++ us118)) mu4.im h9
    replace h22 := rep_put (o := .lst (vs117 ++ us118)) mu4.im h22
    replace h35 := rep_put (o := .lst (vs117 ++ us118)) mu4.im h35
    replace h48 := rep_put (o := .lst (vs117 ++ us118)) mu4.im h48
    replace h61 := rep_put (o := .lst (vs117 ++ us118)) mu4.im h61
    replace h74 := rep_put (o := .lst (vs117 ++ us118)) mu4.im h74
    replace h87 := rep_put (o := .lst (vs117 ++ us118)) mu4.im h87
    replace h100 := rep_put (o := .lst (vs117 ++ us118)) mu4.im h100
    replace h113 := rep_put (o := .lst (vs117 ++ us118)) mu4.im h113
    replace hW := wd_put (o := .lst (vs117 ++ us118)) hW mu4
    replace mu4 := mk121
    generalize upd H115 L1 (.lst (vs117 ++ us118)) = H122 at *
    replace mu4 : MutO (L1 :: ms) [] H_0 H122 L1 (D.lst ((((((((((([(xtb_InvalidFirst.getD x_e.1 true), (xtb_InvalidNumber.getD x_e.1 false), (xtb_InvalidPlace.getD x_e.1 false)] : List Bool) ++ ([(xtb_InvalidMarks.getD x_e.1 false), (xtb_InvalidStep.getD x_e.1 false), (xtb_InvalidStander.getD x_e.1 false)] : List Bool)) ++ ([(xtb_InvalidTurned.getD x_e.1 false), (xtb_InvalidSize.getD x_e.1 false), (xtb_InvalidTeam.getD x_e.1 false)] : List Bool)) ++ ([(xtb_InvalidRound.getD x_e.1 false), (xtb_InvalidCount.getD x_e.1 false), (xtb_InvalidClaim.getD x_e.1 false)] : List Bool)) ++ ([(xtb_InvalidCommand.getD x_e.1 false), (xtb_InvalidValues.getD x_e.1 false), (xtb_InvalidRows.getD x_e.1 false)] : List Bool)) ++ ([(xtb_InvalidRounds.getD x_e.1 false), (xtb_InvalidCells.getD x_e.1 false), (xtb_InvalidLegs.getD x_e.1 false)] : List Bool)) ++ ([(xtb_InvalidLot.getD x_e.1 false), (xtb_InvalidFixed.getD x_e.1 false), (xtb_InvalidGauge.getD x_e.1 false)] : List Bool)) ++ ([(xtb_InvalidText.getD x_e.1 false), (xtb_CommandFailed.getD x_e.1 false), (xtb_NotRight.getD x_e.1 false)] : List Bool)) ++ ([(xtb_NotSingle.getD x_e.1 false), (xtb_NotOpen.getD x_e.1 false), (xtb_Unplayed.getD x_e.1 false)] : List Bool)) ++ ([(xtb_TooMany.getD x_e.1 false), (xtb_NoRound.getD x_e.1 false), (xtb_NothingToUndo.getD x_e.1 false)] : List Bool)).map (fun y_ : Bool => (D.v (V.bl y_))))) := mu4
    clear mk121
    have h123 := mo_rep_dr dr_here nm3 mu4
    replace hW := wd_dr dr_here mu4.hp hW
    replace h_e := rep_dr dr_here h_e
    replace h9 := rep_dr dr_here h9
    replace h22 := rep_dr dr_here h22
    replace h35 := rep_dr dr_here h35
    replace h48 := rep_dr dr_here h48
    replace h61 := rep_dr dr_here h61
    replace h74 := rep_dr dr_here h74
    replace h87 := rep_dr dr_here h87
    replace h100 := rep_dr dr_here h100
    replace h113 := rep_dr dr_here h113
    clear mu4
    refine ⟨_, rfl, ?_⟩
    exact hQ (((((((((([(xtb_InvalidFirst.getD x_e.1 true), (xtb_InvalidNumber.getD x_e.1 false), (xtb_InvalidPlace.getD x_e.1 false)] : List Bool) ++ ([(xtb_InvalidMarks.getD x_e.1 false), (xtb_InvalidStep.getD x_e.1 false), (xtb_InvalidStander.getD x_e.1 false)] : List Bool)) ++ ([(xtb_InvalidTurned.getD x_e.1 false), (xtb_InvalidSize.getD x_e.1 false), (xtb_InvalidTeam.getD x_e.1 false)] : List Bool)) ++ ([(xtb_InvalidRound.getD x_e.1 false), (xtb_InvalidCount.getD x_e.1 false), (xtb_InvalidClaim.getD x_e.1 false)] : List Bool)) ++ ([(xtb_InvalidCommand.getD x_e.1 false), (xtb_InvalidValues.getD x_e.1 false), (xtb_InvalidRows.getD x_e.1 false)] : List Bool)) ++ ([(xtb_InvalidRounds.getD x_e.1 false), (xtb_InvalidCells.getD x_e.1 false), (xtb_InvalidLegs.getD x_e.1 false)] : List Bool)) ++ ([(xtb_InvalidLot.getD x_e.1 false), (xtb_InvalidFixed.getD x_e.1 false), (xtb_InvalidGauge.getD x_e.1 false)] : List Bool)) ++ ([(xtb_InvalidText.getD x_e.1 false), (xtb_CommandFailed.getD x_e.1 false), (xtb_NotRight.getD x_e.1 false)] : List Bool)) ++ ([(xtb_NotSingle.getD x_e.1 false), (xtb_NotOpen.getD x_e.1 false), (xtb_Unplayed.getD x_e.1 false)] : List Bool)) ++ ([(xtb_TooMany.getD x_e.1 false), (xtb_NoRound.getD x_e.1 false), (xtb_NothingToUndo.getD x_e.1 false)] : List Bool)) _ _ hM hW.out h123
def M_grounds (x_e : (Nat × List D)) (KM : (List Bool) → Prop) : Prop :=
  (([(xtb_LeagueError.getD x_e.1 true), (xtb_StateError.getD x_e.1 false), (xtb_LimitError.getD x_e.1 false)] : List Bool).length + ([(xtb_ValueError.getD x_e.1 true), (xtb_RuntimeError.getD x_e.1 false), (xtb_ArithmeticError.getD x_e.1 false)] : List Bool).length ≤ 16777216 ∧ ((([(xtb_LeagueError.getD x_e.1 true), (xtb_StateError.getD x_e.1 false), (xtb_LimitError.getD x_e.1 false)] : List Bool) ++ ([(xtb_ValueError.getD x_e.1 true), (xtb_RuntimeError.getD x_e.1 false), (xtb_ArithmeticError.getD x_e.1 false)] : List Bool)).length + ([(xtb_LookupError.getD x_e.1 false), (xtb_TypeError.getD x_e.1 false), (xtb_ZeroDivisionError.getD x_e.1 false)] : List Bool).length ≤ sizeLine ∧ (KM ((([(xtb_LeagueError.getD x_e.1 true), (xtb_StateError.getD x_e.1 false), (xtb_LimitError.getD x_e.1 false)] : List Bool) ++ ([(xtb_ValueError.getD x_e.1 true), (xtb_RuntimeError.getD x_e.1 false), (xtb_ArithmeticError.getD x_e.1 false)] : List Bool)) ++ ([(xtb_LookupError.getD x_e.1 false), (xtb_TypeError.getD x_e.1 false), (xtb_ZeroDivisionError.getD x_e.1 false)] : List Bool)))))
def sp_grounds (A : Ad) : Sp := fun vs H Q _ => ∃ (ms : List Addr) (v_e : V) (x_e : (Nat × List D)) (KM : (List Bool) → Prop), vs = [v_e] ∧ Wd ms [] [] H H ∧ rep ms H (eX A x_e) v_e ∧ M_grounds x_e KM ∧ ∀ (r : (List Bool)) (u : V) (H1 : Hp), KM r → Ret [] H H1 → rep ms H1 (D.lst (r.map (fun y_ : Bool => (D.v (V.bl y_))))) u → Q u H1
set_option maxHeartbeats 16000000 in
theorem ok_grounds {P : Program} {w : World} {K : PySem.W.Frag} {mg : Str → Option Value} {base : Heap} {A : Ad} (T : Txt w K mg A) : FnOk P w K mg base CX0 1 A.a_grounds A.d_grounds ["_law_e"] (sp_grounds A) := by
  refine T.F_grounds.ok sc_grounds (fun vs H Q E h => ?_) (fun cdv A_ outer s_ H_0 vs Q E hr h => ?_)
  · obtain ⟨ms, v_e, x_e, KM, rfl, _⟩ := h
    rfl
  · obtain ⟨ms, v_e, x_e, KM, rfl, hW, h_e, hM, hQ⟩ := h
    unfold M_grounds at hM
    refine ⟨_, (pss_cons (ps_set (i := 1) sc_grounds.nd rfl (by first | exact Or.inl rfl | exact Or.inr rfl) (pe_lst (pa_cons (pe_callB (call_isV (K := K) rfl) (by rfl) T.z_isinstance (by decide +kernel) (pa_cons (pv 0) (pa_cons (pe_glob (v := .ref A.c_LeagueError) (by rfl) T.g_LeagueError rfl) pa_nil))) (pa_cons (pe_callB (call_isV (K := K) rfl) (by rfl) T.z_isinstance (by decide +kernel) (pa_cons (pv 0) (pa_cons (pe_glob (v := .ref A.c_StateError) (by rfl) T.g_StateError rfl) pa_nil))) (pa_cons (pe_callB (call_isV (K := K) rfl) (by rfl) T.z_isinstance (by decide +kernel) (pa_cons (pv 0) (pa_cons (pe_glob (v := .ref A.c_LimitError) (by rfl) T.g_LimitError rfl) pa_nil))) pa_nil))))) (pss_cons (ps_expr (pe_bmK (K := K) rfl PySem.F.plainAttrs_list PySem.F.slot_list_extend PySem.F.type_list_extend mt_extend (pv 1) (pa_cons (pe_lst (pa_cons (pe_callB (call_isV (K := K) rfl) (by rfl) T.z_isinstance (by decide +kernel) (pa_cons (pv 0) (pa_cons (pe_bltn (v := .ty "ValueError") (by rfl) T.z_ValueError (by decide +kernel) rfl) pa_nil))) (pa_cons (pe_callB (call_isV (K := K) rfl) (by rfl) T.z_isinstance (by decide +kernel) (pa_cons (pv 0) (pa_cons (pe_bltn (v := .ty "RuntimeError") (by rfl) T.z_RuntimeError (by decide +kernel) rfl) pa_nil))) (pa_cons (pe_callB (call_isV (K := K) rfl) (by rfl) T.z_isinstance (by decide +kernel) (pa_cons (pv 0) (pa_cons (pe_bltn (v := .ty "ArithmeticError") (by rfl) T.z_ArithmeticError (by decide +kernel) rfl) pa_nil))) pa_nil)))) pa_nil))) (pss_one (ps_ret (pe_op op_cat (pv 1) (pe_lst (pa_cons (pe_callB (call_isV (K := K) rfl) (by rfl) T.z_isinstance (by decide +kernel) (pa_cons (pv 0) (pa_cons (pe_bltn (v := .ty "LookupError") (by rfl) T.z_LookupError (by decide +kernel) rfl) pa_nil))) (pa_cons (pe_callB (call_isV (K := K) rfl) (by rfl) T.z_isinstance (by decide +kernel) (pa_cons (pv 0) (pa_cons (pe_bltn (v := .ty "TypeError") (by rfl) T.z_TypeError (by decide +kernel) rfl) pa_nil))) (pa_cons (pe_callB (call_isV (K := K) rfl) (by rfl) T.z_isinstance (by decide +kernel) (pa_cons (pv 0) (pa_cons (pe_bltn (v := .ty "ZeroDivisionError") (by rfl) T.z_ZeroDivisionError (by decide +kernel) rfl) pa_nil))) pa_nil))))))))), ?_⟩
    refine ⟨_, rfl, ?_⟩
    apply rep_isV (c := V.ref A.c_LeagueError) (cv := Value.ref A.c_LeagueError) h_e (T.xva.ex xL_mem _) (fun _ r_ => r_) (kitA_at rfl T.xd_LeagueError T.xk_LeagueError _)
    refine ⟨_, rfl, ?_⟩
    apply rep_isV (c := V.ref A.c_StateError) (cv := Value.ref A.c_StateError) h_e (T.xva.ex xL_mem _) (fun _ r_ => r_) (kitA_at rfl T.xd_StateError T.xk_StateError _)
    refine ⟨_, rfl, ?_⟩
    apply rep_isV (c := V.ref A.c_LimitError) (cv := Value.ref A.c_LimitError) h_e (T.xva.ex xL_mem _) (fun _ r_ => r_) (kitA_at rfl T.xd_LimitError T.xk_LimitError _)
    refine ⟨(by show 3 ≤ sizeLine; decide), ?_⟩
    intro L1 nl2
    have nm3 := nm_new hW nl2
    have mu4 := mo_newL (ds := ([(xtb_LeagueError.getD x_e.1 true), (xtb_StateError.getD x_e.1 false), (xtb_LimitError.getD x_e.1 false)] : List Bool).map (fun y_ : Bool => (D.v (V.bl y_)))) (vs := [V.bl (xtb_LeagueError.getD x_e.1 true), V.bl (xtb_StateError.getD x_e.1 false), V.bl (xtb_LimitError.getD x_e.1 false)]) hW nl2 (repL_cons rep_v (repL_cons rep_v (repL_cons rep_v repL_nil)))
    replace h_e := rep_cell (o := .lst [V.bl (xtb_LeagueError.getD x_e.1 true), V.bl (xtb_StateError.getD x_e.1 false), V.bl (xtb_LimitError.getD x_e.1 false)]) nl2 h_e
    replace hW := wd_cell (o := .lst [V.bl (xtb_LeagueError.getD x_e.1 true), V.bl (xtb_StateError.getD x_e.1 false), V.bl (xtb_LimitError.getD x_e.1 false)]) hW nl2
    generalize upd H_0 L1 (.lst [V.bl (xtb_LeagueError.getD x_e.1 true), V.bl (xtb_StateError.getD x_e.1 false), V.bl (xtb_LimitError.getD x_e.1 false)]) = H5 at *
    replace mu4 : MutO (L1 :: ms) [] H_0 H5 L1 (D.lst (([(xtb_LeagueError.getD x_e.1 true), (xtb_StateError.getD x_e.1 false), (xtb_LimitError.getD x_e.1 false)] : List Bool).map (fun y_ : Bool => (D.v (V.bl y_))))) := mu4
    refine ⟨_, rfl, ?_⟩
    refine ⟨mo_tyL mu4, ?_⟩
    refine ⟨_, rfl, ?_⟩
    apply rep_isV (c := V.ty "ValueError") (cv := Value.type "ValueError") h_e (T.xva.ex xL_mem _) (fun _ r_ => r_) (kitA_at rfl T.xd_ValueError T.xk_ValueError _)
    refine ⟨_, rfl, ?_⟩
    apply rep_isV (c := V.ty "RuntimeError") (cv := Value.type "RuntimeError") h_e (T.xva.ex xL_mem _) (fun _ r_ => r_) (kitA_at rfl T.xd_RuntimeError T.xk_RuntimeError _)
    refine ⟨_, rfl, ?_⟩
    apply rep_isV (c := V.ty "ArithmeticError") (cv := Value.type "ArithmeticError") h_e (T.xva.ex xL_mem _) (fun _ r_ => r_) (kitA_at rfl T.xd_ArithmeticError T.xk_ArithmeticError _)
    refine ⟨(by show 3 ≤ sizeLine; decide), ?_⟩
    intro p6 n10
    have e7 := Rx.Ext.new (H := H5) (o := (HO.lst [V.bl (xtb_ValueError.getD x_e.1 true), V.bl (xtb_RuntimeError.getD x_e.1 false), V.bl (xtb_ArithmeticError.getD x_e.1 false)])) n10
    have hp8 : upd H5 p6 (HO.lst [V.bl (xtb_ValueError.getD x_e.1 true), V.bl (xtb_RuntimeError.getD x_e.1 false), V.bl (xtb_ArithmeticError.getD x_e.1 false)]) p6 = some (HO.lst [V.bl (xtb_ValueError.getD x_e.1 true), V.bl (xtb_RuntimeError.getD x_e.1 false), V.bl (xtb_ArithmeticError.getD x_e.1 false)]) := upd_same
    generalize upd H5 p6 (HO.lst [V.bl (xtb_ValueError.getD x_e.1 true), V.bl (xtb_RuntimeError.getD x_e.1 false), V.bl (xtb_ArithmeticError.getD x_e.1 false)]) = H11 at e7 hp8 ⊢
    have h9 : rep (L1 :: ms) H11 (D.lst (([(xtb_ValueError.getD x_e.1 true), (xtb_RuntimeError.getD x_e.1 false), (xtb_ArithmeticError.getD x_e.1 false)] : List Bool).map (fun y_ : Bool => (D.v (V.bl y_))))) (.ref p6) := rep_lst_mk hW n10 e7 hp8 (repL_cons rep_v (repL_cons rep_v (repL_cons rep_v repL_nil)))
    replace h_e := rep_ext e7 h_e
    replace mu4 := mo_ext e7 mu4
    replace hW := hW.ret0 e7
    obtain ⟨g12, hM⟩ := hM
    apply mo_extU (e := (fun y_ : Bool => (D.v (V.bl y_)))) (ys := ([(xtb_ValueError.getD x_e.1 true), (xtb_RuntimeError.getD x_e.1 false), (xtb_ArithmeticError.getD x_e.1 false)] : List Bool)) mu4 h9 (by rw [List.length_map]; exact g12)
    intro vs13 us14 hr15 hr16
    have mk17 := mo_setL mu4 (repL_cat (e := (fun y_ : Bool => (D.v (V.bl y_)))) (xs := ([(xtb_LeagueError.getD x_e.1 true), (xtb_StateError.getD x_e.1 false), (xtb_LimitError.getD x_e.1 false)] : List Bool)) (ys := ([(xtb_ValueError.getD x_e.1 true), (xtb_RuntimeError.getD x_e.1 false), (xtb_ArithmeticError.getD x_e.1 false)] : List Bool)) hr15 hr16)
    replace h_e := rep_put (o := .lst (vs13 ++ us14)) mu4.im h_e
    replace h9 := rep_put (o := .lst (vs13 ++ us14)) mu4.im h9
    replace hW := wd_put (o := .lst (vs13 ++ us14)) hW mu4
    replace mu4 := mk17
    generalize upd H11 L1 (.lst (vs13 ++ us14)) = H18 at *
    replace mu4 : MutO (L1 :: ms) [] H_0 H18 L1 (D.lst ((([(xtb_LeagueError.getD x_e.1 true), (xtb_StateError.getD x_e.1 false), (xtb_LimitError.getD x_e.1 false)] : List Bool) ++ ([(xtb_ValueError.getD x_e.1 true), (xtb_RuntimeError.getD x_e.1 false), (xtb_ArithmeticError.getD x_e.1 false)] : List Bool)).map (fun y_ : Bool => (D.v (V.bl y_))))) := mu4
    clear mk17
    have h19 := mo_rep_dr dr_here nm3 mu4
    replace hW := wd_dr dr_here mu4.hp hW
    replace h_e := rep_dr dr_here h_e
    replace h9 := rep_dr dr_here h9
    clear mu4
    refine ⟨_, rfl, ?_⟩
    refine ⟨_, rfl, ?_⟩
    apply rep_isV (c := V.ty "LookupError") (cv := Value.type "LookupError") h_e (T.xva.ex xL_mem _) (fun _ r_ => r_) (kitA_at rfl T.xd_LookupError T.xk_LookupError _)
    refine ⟨_, rfl, ?_⟩
    apply rep_isV (c := V.ty "TypeError") (cv := Value.type "TypeError") h_e (T.xva.ex xL_mem _) (fun _ r_ => r_) (kitA_at rfl T.xd_TypeError T.xk_TypeError _)
    refine ⟨_, rfl, ?_⟩
    apply rep_isV (c := V.ty "ZeroDivisionError") (cv := Value.type "ZeroDivisionError") h_e (T.xva.ex xL_mem _) (fun _ r_ => r_) (kitA_at rfl T.xd_ZeroDivisionError T.xk_ZeroDivisionError _)
    refine ⟨(by show 3 ≤ sizeLine; decide), ?_⟩
    intro p20 n24
    have e21 := Rx.Ext.new (H := H18) (o := (HO.lst [V.bl (xtb_LookupError.getD x_e.1 false), V.bl (xtb_TypeError.getD x_e.1 false), V.bl (xtb_ZeroDivisionError.getD x_e.1 false)])) n24
    have hp22 : upd H18 p20 (HO.lst [V.bl (xtb_LookupError.getD x_e.1 false), V.bl (xtb_TypeError.getD x_e.1 false), V.bl (xtb_ZeroDivisionError.getD x_e.1 false)]) p20 = some (HO.lst [V.bl (xtb_LookupError.getD x_e.1 false), V.bl (xtb_TypeError.getD x_e.1 false), V.bl (xtb_ZeroDivisionError.getD x_e.1 false)]) := upd_same
    generalize upd H18 p20 (HO.lst [V.bl (xtb_LookupError.getD x_e.1 false), V.bl (xtb_TypeError.getD x_e.1 false), V.bl (xtb_ZeroDivisionError.getD x_e.1 false)]) = H25 at e21 hp22 ⊢
    have h23 : rep ms H25 (D.lst (([(xtb_LookupError.getD x_e.1 false), (xtb_TypeError.getD x_e.1 false), (xtb_ZeroDivisionError.getD x_e.1 false)] : List Bool).map (fun y_ : Bool => (D.v (V.bl y_))))) (.ref p20) := rep_lst_mk hW n24 e21 hp22 (repL_cons rep_v (repL_cons rep_v (repL_cons rep_v repL_nil)))
    replace h_e := rep_ext e21 h_e
    replace h9 := rep_ext e21 h9
    replace h19 := rep_ext e21 h19
    replace hW := hW.ret0 e21
    obtain ⟨g26, hM⟩ := hM
    apply rep_cat (xs := (([(xtb_LeagueError.getD x_e.1 true), (xtb_StateError.getD x_e.1 false), (xtb_LimitError.getD x_e.1 false)] : List Bool) ++ ([(xtb_ValueError.getD x_e.1 true), (xtb_RuntimeError.getD x_e.1 false), (xtb_ArithmeticError.getD x_e.1 false)] : List Bool))) (ys := ([(xtb_LookupError.getD x_e.1 false), (xtb_TypeError.getD x_e.1 false), (xtb_ZeroDivisionError.getD x_e.1 false)] : List Bool)) (e := (fun y_ : Bool => (D.v (V.bl y_)))) hW h19 h23 g26
    intro p27 H30 e29 h28
    replace h_e := rep_ext e29 h_e
    replace h9 := rep_ext e29 h9
    replace h19 := rep_ext e29 h19
    replace h23 := rep_ext e29 h23
    replace hW := hW.ret0 e29
    exact hQ ((([(xtb_LeagueError.getD x_e.1 true), (xtb_StateError.getD x_e.1 false), (xtb_LimitError.getD x_e.1 false)] : List Bool) ++ ([(xtb_ValueError.getD x_e.1 true), (xtb_RuntimeError.getD x_e.1 false), (xtb_ArithmeticError.getD x_e.1 false)] : List Bool)) ++ ([(xtb_LookupError.getD x_e.1 false), (xtb_TypeError.getD x_e.1 false), (xtb_ZeroDivisionError.getD x_e.1 false)] : List Bool)) _ _ hM hW.out h28
def M_ground (x_k : Int) (KM : Int → Prop) : Prop :=
  (if (decide (x_k < (22 : Int))) = true then (KM (0 : Int)) else (∃ KB1 : Int → Prop, (if (decide (V.int x_k = V.int (27 : Int))) = true then (KB1 (2 : Int)) else (KB1 (1 : Int))) ∧ ∀ r4 : Int, KB1 r4 → (KM r4)))
def sp_ground (A : Ad) : Sp := fun vs H Q _ => ∃ (ms : List Addr) (x_k : Int) (KM : Int → Prop), vs = [V.int x_k] ∧ Wd ms [] [] H H ∧ M_ground x_k KM ∧ ∀ (r : Int) (u : V) (H1 : Hp), KM r → Ret [] H H1 → rep ms H1 (D.v (V.int r)) u → Q u H1
set_option maxHeartbeats 16000000 in
theorem ok_ground {P : Program} {w : World} {K : PySem.W.Frag} {mg : Str → Option Value} {base : Heap} {A : Ad} (T : Txt w K mg A) : FnOk P w K mg base CX0 1 A.a_ground A.d_ground ["_law_k"] (sp_ground A) := by
  refine T.F_ground.ok sc_ground (fun vs H Q E h => ?_) (fun cdv A_ outer s_ H_0 vs Q E hr h => ?_)
  · obtain ⟨ms, x_k, KM, rfl, _⟩ := h
    rfl
  · obtain ⟨ms, x_k, KM, rfl, hW, hM, hQ⟩ := h
    unfold M_ground at hM
    refine ⟨_, (pss_cons (ps_if (pt_cmpR op_lt (pv 0) pe_int (nomark _)) (pss_one (ps_ret pe_int)) pss_nil) (pss_one (ps_ret (pe_up (pe_ifExp (pt_cmpR op_eq (pv 0) pe_int (nomark _)) pe_int pe_int))))), ?_⟩
    refine ⟨_, rfl, ?_⟩
    refine ⟨_, _, rfl, rfl, ?_⟩
    refine ⟨_, rfl, ?_⟩
    refine ite3 hM (fun hM => ?_) (fun hM => ?_)
    · skip
      exact hQ (0 : Int) _ _ hM hW.out rep_v
    · skip
      obtain ⟨KB1, hM, hKKB1⟩ := hM
      refine ⟨fun v H1 => ∃ r : Int, KB1 r ∧ Wd ms [] [] H_0 H1 ∧ Keep ms H_0 H1 ∧ rep ms H1 (D.v (V.int r)) v, ?_, ?_⟩
      · skip
        have hj3 := Keep.refl (ms := ms) (H := H_0)
        refine ⟨_, rfl, ?_⟩
        refine ⟨rfl, ?_⟩
        refine ⟨_, rfl, ?_⟩
        refine ite3 hM (fun hM => ?_) (fun hM => ?_)
        · skip
          exact ⟨(2 : Int), hM, hW, hj3, rep_v⟩
        · skip
          exact ⟨(1 : Int), hM, hW, hj3, rep_v⟩
      · skip
        rintro u6 Hj2 ⟨r4, hr, hW, hj3, h5⟩
        replace hM := hKKB1 r4 hr
        obtain rfl := of_v h5
        exact hQ r4 _ _ hM hW.out rep_v
def M_due_grounds (x_ground_here : Int) (KM : (List Bool) → Prop) : Prop :=
  ((rangeI (0 : Int) (3 : Int)).length < 100000 ∧ mapC (fun (x12 : Int) (k5 : Bool → Prop) => (k5 (decide (V.int x_ground_here = V.int x12)))) (rangeI (0 : Int) (3 : Int)) [] fun ys23 => ((-(2 ^ 63) ≤ (2 : Int) ∧ (2 : Int) < 2 ^ 63 ∧ ys23.length * Int.toNat (2 : Int) ≤ sizeLine) ∧ ((-(2 ^ 63) ≤ (3 : Int) ∧ (3 : Int) < 2 ^ 63 ∧ ([false] : List Bool).length * Int.toNat (3 : Int) ≤ sizeLine) ∧ ((List.flatten (List.replicate (Int.toNat (2 : Int)) ys23)).length + (List.flatten (List.replicate (Int.toNat (3 : Int)) ([false] : List Bool))).length ≤ sizeLine ∧ (KM ((List.flatten (List.replicate (Int.toNat (2 : Int)) ys23)) ++ (List.flatten (List.replicate (Int.toNat (3 : Int)) ([false] : List Bool)))))))))
def sp_due_grounds (A : Ad) : Sp := fun vs H Q _ => ∃ (ms : List Addr) (x_ground_here : Int) (KM : (List Bool) → Prop), vs = [V.int x_ground_here] ∧ Wd ms [] [] H H ∧ M_due_grounds x_ground_here KM ∧ ∀ (r : (List Bool)) (u : V) (H1 : Hp), KM r → Ret [] H H1 → rep ms H1 (D.lst (r.map (fun y_ : Bool => (D.v (V.bl y_))))) u → Q u H1
set_option maxHeartbeats 16000000 in
theorem ok_due_grounds {P : Program} {w : World} {K : PySem.W.Frag} {mg : Str → Option Value} {base : Heap} {A : Ad} (T : Txt w K mg A) : FnOk P w K mg base CX0 1 A.a_due_grounds A.d_due_grounds ["_law_ground_here"] (sp_due_grounds A) := by
  refine T.F_due_grounds.ok sc_due_grounds (fun vs H Q E h => ?_) (fun cdv A_ outer s_ H_0 vs Q E hr h => ?_)
  · obtain ⟨ms, x_ground_here, KM, rfl, _⟩ := h
    rfl
  · obtain ⟨ms, x_ground_here, KM, rfl, hW, hM, hQ⟩ := h
    unfold M_due_grounds at hM
    refine ⟨_, (pss_one (ps_ret (pe_op op_cat (pe_op op_rep (pe_lc (own := [("_law_k", 1)]) (g := gName 1) rfl sc_due_grounds.nd (pi_rangeW1 (by rfl) T.z_range (pa_cons pe_int pa_nil)) (blkOk_by (N := ["_law_ground_here", "_law_k"]) (sc := defScope s_due_grounds) (by decide +kernel)) (fun _ _ _ _ _ => pg_name (i := 1) sc_due_grounds.nd rfl (by first | exact Or.inl rfl | exact Or.inr rfl)) (fun _ _ _ _ _ => pts_nil) (fun _ _ _ _ _ => (pe_cmpR op_eq (pv 0) (pv 1) (nomark _)))) pe_int) (pe_op op_rep (pe_lst (pa_cons pe_bl pa_nil)) pe_int)))), ?_⟩
    refine ⟨_, rfl, ?_⟩
    refine fun L1 nl2 => ?_
    have nm16 := nm_new hW nl2
    refine lc_rangeG (L := L1) (fun n_ ys_ h_ => Wd (L1 :: ms) [] [] H_0 h_ ∧ Keep (L1 :: ms) H_0 h_ ∧ MutO (L1 :: ms) [] H_0 h_ L1 (D.lst (ys_.map (fun y_ : Bool => (D.v (V.bl y_))))) ∧ ys_.length ≤ n_) (lo := (0 : Int)) (hi := (3 : Int)) (N := Int.toNat (3 : Int)) (by simp) hM ⟨wd_cell hW nl2, keep_cell nl2 Keep.refl, mo_newL (ds := []) hW nl2 repL_nil, Nat.le_refl _⟩ ?_ ?_
    · skip
      rintro x12  n3 ys4 k5 H17 hn ⟨hW, hk6, mu7, ln8⟩ hM Nx11 hN9
      refine ⟨rfl, ?_⟩
      refine tyes_of ?_
      refine ⟨_, rfl, ?_⟩
      refine ⟨_, rfl, ?_⟩
      refine ⟨rfl, ?_⟩
      refine mo_end mu7 hn (by rw [List.length_map]; exact ln8) fun vs18 hr19 => ?_
      have mk21 := mo_setL mu7 (repL_snoc (e := (fun y_ : Bool => (D.v (V.bl y_)))) (xs := ys4) (y := (decide (V.int x_ground_here = V.int x12))) hr19 rep_v)
      replace hk6 := keep_put (o := .lst (vs18 ++ [V.bl (decide (V.int x_ground_here = V.int x12))])) mu7.im hk6
      replace hW := wd_put (o := .lst (vs18 ++ [V.bl (decide (V.int x_ground_here = V.int x12))])) hW mu7
      replace mu7 := mk21
      generalize upd H17 L1 (.lst (vs18 ++ [V.bl (decide (V.int x_ground_here = V.int x12))])) = H22 at *
      replace mu7 : MutO (L1 :: ms) [] H_0 H22 L1 (D.lst ((ys4 ++ [(decide (V.int x_ground_here = V.int x12))]).map (fun y_ : Bool => (D.v (V.bl y_))))) := mu7
      clear mk21
      exact hN9 (decide (V.int x_ground_here = V.int x12)) _ hM ⟨hW, hk6, mu7, by rw [List.length_append]; exact Nat.add_le_add_right ln8 1⟩
    · skip
      rintro n3 ys23 H24 hM ⟨hW, hk6, mu7, ln8⟩
      clear hk6 ln8
      have h25 := mo_rep_dr dr_here nm16 mu7
      replace hW := wd_dr dr_here mu7.hp hW
      clear mu7
      obtain ⟨g26, hM⟩ := hM
      apply rep_mulLC (e := (fun y_ : Bool => (D.v (V.bl y_)))) (xs := ys23) h25 g26
      intro vs27 hr28
      intro p29 n33
      have e30 := Rx.Ext.new (H := H24) (o := (HO.lst (vs27))) n33
      have hp31 : upd H24 p29 (HO.lst (vs27)) p29 = some (HO.lst (vs27)) := upd_same
      generalize upd H24 p29 (HO.lst (vs27)) = H34 at e30 hp31 ⊢
      have h32 : rep ms H34 (D.lst ((List.flatten (List.replicate (Int.toNat (2 : Int)) ys23)).map (fun y_ : Bool => (D.v (V.bl y_))))) (.ref p29) := rep_lst_mk hW n33 e30 hp31 hr28
      replace h25 := rep_ext e30 h25
      replace hW := hW.ret0 e30
      refine ⟨(by show 1 ≤ sizeLine; decide), ?_⟩
      intro p35 n39
      have e36 := Rx.Ext.new (H := H34) (o := (HO.lst [V.bl false])) n39
      have hp37 : upd H34 p35 (HO.lst [V.bl false]) p35 = some (HO.lst [V.bl false]) := upd_same
      generalize upd H34 p35 (HO.lst [V.bl false]) = H40 at e36 hp37 ⊢
      have h38 : rep ms H40 (D.lst (([false] : List Bool).map (fun y_ : Bool => (D.v (V.bl y_))))) (.ref p35) := rep_lst_mk hW n39 e36 hp37 (repL_cons rep_v repL_nil)
      replace h25 := rep_ext e36 h25
      replace h32 := rep_ext e36 h32
      replace hW := hW.ret0 e36
      obtain ⟨g41, hM⟩ := hM
      apply rep_mulLC (e := (fun y_ : Bool => (D.v (V.bl y_)))) (xs := ([false] : List Bool)) h38 g41
      intro vs42 hr43
      intro p44 n48
      have e45 := Rx.Ext.new (H := H40) (o := (HO.lst (vs42))) n48
      have hp46 : upd H40 p44 (HO.lst (vs42)) p44 = some (HO.lst (vs42)) := upd_same
      generalize upd H40 p44 (HO.lst (vs42)) = H49 at e45 hp46 ⊢
      have h47 : rep ms H49 (D.lst ((List.flatten (List.replicate (Int.toNat (3 : Int)) ([false] : List Bool))).map (fun y_ : Bool => (D.v (V.bl y_))))) (.ref p44) := rep_lst_mk hW n48 e45 hp46 hr43
      replace h25 := rep_ext e45 h25
      replace h32 := rep_ext e45 h32
      replace h38 := rep_ext e45 h38
      replace hW := hW.ret0 e45
      obtain ⟨g50, hM⟩ := hM
      apply rep_cat (xs := (List.flatten (List.replicate (Int.toNat (2 : Int)) ys23))) (ys := (List.flatten (List.replicate (Int.toNat (3 : Int)) ([false] : List Bool)))) (e := (fun y_ : Bool => (D.v (V.bl y_)))) hW h32 h47 g50
      intro p51 H54 e53 h52
      replace h25 := rep_ext e53 h25
      replace h32 := rep_ext e53 h32
      replace h38 := rep_ext e53 h38
      replace h47 := rep_ext e53 h47
      replace hW := hW.ret0 e53
      exact hQ ((List.flatten (List.replicate (Int.toNat (2 : Int)) ys23)) ++ (List.flatten (List.replicate (Int.toNat (3 : Int)) ([false] : List Bool)))) _ _ hM hW.out h52
def M_right (KM : Bool → Prop) : Prop :=
  ((rangeI (0 : Int) (2 : Int)).length < 100000 ∧ mapC (fun (x62 : Int) (k55 : D → Prop) => (M_pick ([(D.v V.non), (D.v (V.int (0 : Int))), (D.v (V.int (1 : Int))), (D.v (V.bl true)), (D.v (V.str ("" : Str))), (D.v (V.str ("h" : Str))), (D.tup [(D.v (V.int ((1 : Int), (2 : Int)).1)), (D.v (V.int ((1 : Int), (2 : Int)).2))]), (D.lst (([("a" : Str)] : List Str).map (fun y_ : Str => (D.v (V.str y_))))), (D.dct [(Sum.inr ("b" : Str) : Key)] [(D.v (V.int (3 : Int)))]), (D.v (V.int (-((10 : Int) ^ Int.toNat (20 : Int))))), (D.tup [(D.v (V.str (("x" : Str), (3 : Int)).1)), (D.v (V.int (("x" : Str), (3 : Int)).2))]), (D.lst (([((0 : Int), (1 : Int)), ((0 : Int), (2 : Int))] : List (Int × Int)).map (fun y_ : (Int × Int) => (D.tup [(D.v (V.int y_.1)), (D.v (V.int y_.2))])))), (D.v (V.int ((10 : Int) ^ Int.toNat (29 : Int))))] : List D) fun r68 => (k55 r68))) (rangeI (0 : Int) (2 : Int)) [] fun ys78 => ((rangeI (0 : Int) (2 : Int)).length < 100000 ∧ mapC (fun (x92 : Int) (k85 : D → Prop) => (M_pick ([(D.v V.non), (D.v (V.int (0 : Int))), (D.v (V.int (1 : Int))), (D.v (V.bl true)), (D.v (V.str ("" : Str))), (D.v (V.str ("h" : Str))), (D.tup [(D.v (V.int ((1 : Int), (2 : Int)).1)), (D.v (V.int ((1 : Int), (2 : Int)).2))]), (D.lst (([("a" : Str)] : List Str).map (fun y_ : Str => (D.v (V.str y_))))), (D.dct [(Sum.inr ("b" : Str) : Key)] [(D.v (V.int (3 : Int)))]), (D.v (V.int (-((10 : Int) ^ Int.toNat (20 : Int))))), (D.tup [(D.v (V.str (("x" : Str), (3 : Int)).1)), (D.v (V.int (("x" : Str), (3 : Int)).2))]), (D.lst (([((0 : Int), (1 : Int)), ((0 : Int), (2 : Int))] : List (Int × Int)).map (fun y_ : (Int × Int) => (D.tup [(D.v (V.int y_.1)), (D.v (V.int y_.2))])))), (D.v (V.int ((10 : Int) ^ Int.toNat (29 : Int))))] : List D) fun r98 => (k85 r98))) (rangeI (0 : Int) (2 : Int)) [] fun ys108 => (0 ≤ (0 : Int) ∧ ∃ g112 : Int.toNat (0 : Int) < ys78.length, ∀ x114, x114 = ys78[Int.toNat (0 : Int)]'g112 → (0 ≤ (1 : Int) ∧ ∃ g117 : Int.toNat (1 : Int) < ys78.length, ∀ x119, x119 = ys78[Int.toNat (1 : Int)]'g117 → (M_all x114 x119 fun r121 => (0 ≤ (0 : Int) ∧ ∃ g133 : Int.toNat (0 : Int) < ys108.length, ∀ x135, x135 = ys108[Int.toNat (0 : Int)]'g133 → (0 ≤ (1 : Int) ∧ ∃ g138 : Int.toNat (1 : Int) < ys108.length, ∀ x140, x140 = ys108[Int.toNat (1 : Int)]'g138 → (M_named x135 x140 fun r142 => (forC (fun (x164 : ((List (Nat × List D)) × (List D))) (s166 : Unit) (k167 : Unit → Prop) => (forC (fun (x192 : (Int × (Nat × List D))) (s194 : Unit) (k195 : Unit → Prop) => (M_kept x192.1 x192.2 fun r215 => ((plainX (D.lst (r215.map (fun y_ : D => y_))) = true ∧ (pyX (D.lst (r215.map (fun y_ : D => y_)))).showable = true ∧ (pyX (D.lst (r215.map (fun y_ : D => y_)))).depth ≤ 60 ∧ (pyX (D.lst (r215.map (fun y_ : D => y_)))).shown.length ≤ sizeLine) ∧ (M_width x192.1 fun r221 => ((plainX (D.lst ((cutM x164.2 none (some r221)).map (fun y_ : D => y_))) = true ∧ (pyX (D.lst ((cutM x164.2 none (some r221)).map (fun y_ : D => y_)))).showable = true ∧ (pyX (D.lst ((cutM x164.2 none (some r221)).map (fun y_ : D => y_)))).depth ≤ 60 ∧ (pyX (D.lst ((cutM x164.2 none (some r221)).map (fun y_ : D => y_)))).shown.length ≤ sizeLine) ∧ (if (!(decide (V.str (pyX (D.lst (r215.map (fun y_ : D => y_)))).shown = V.str (pyX (D.lst ((cutM x164.2 none (some r221)).map (fun y_ : D => y_)))).shown))) = true then (KM false) else (M_flags x192.2 fun r235 => ((rangeI (0 : Int) (30 : Int)).length < 100000 ∧ mapC (fun (x251 : Int) (k244 : Bool → Prop) => (k244 (decide (V.int x251 = V.int x192.1)))) (rangeI (0 : Int) (30 : Int)) [] fun ys264 => (((plainD (D.lst (r235.map (fun y_ : Bool => (D.v (V.bl y_))))) = true ∧ plainD (D.lst (ys264.map (fun y_ : Bool => (D.v (V.bl y_))))) = true ∧ SeqAt.shaped (pyOf (D.lst (r235.map (fun y_ : Bool => (D.v (V.bl y_)))))) = true ∧ SeqAt.shaped (pyOf (D.lst (ys264.map (fun y_ : Bool => (D.v (V.bl y_)))))) = true)) ∧ (if (!(PyData.eqv (pyOf (D.lst (r235.map (fun y_ : Bool => (D.v (V.bl y_)))))) (pyOf (D.lst (ys264.map (fun y_ : Bool => (D.v (V.bl y_)))))))) = true then (KM false) else (M_grounds x192.2 fun r268 => (M_ground x192.1 fun r273 => (M_due_grounds r273 fun r278 => (((plainD (D.lst (r268.map (fun y_ : Bool => (D.v (V.bl y_))))) = true ∧ plainD (D.lst (r278.map (fun y_ : Bool => (D.v (V.bl y_))))) = true ∧ SeqAt.shaped (pyOf (D.lst (r268.map (fun y_ : Bool => (D.v (V.bl y_)))))) = true ∧ SeqAt.shaped (pyOf (D.lst (r278.map (fun y_ : Bool => (D.v (V.bl y_)))))) = true)) ∧ (if (!(PyData.eqv (pyOf (D.lst (r268.map (fun y_ : Bool => (D.v (V.bl y_)))))) (pyOf (D.lst (r278.map (fun y_ : Bool => (D.v (V.bl y_)))))))) = true then (KM false) else (k195 ())))))))))))))))) ((rangeI 0 (x164.1.length : Int)).zip x164.1) () fun s284 => (k167 ()))) ([(r121, ys78), (r142, ys108)] : List ((List (Nat × List D)) × (List D))) () fun s289 => (forC (fun (x328 : (Int × (Nat × List D))) (s330 : Unit) (k331 : Unit → Prop) => (M_flags x328.2 fun r351 => (if (inV (V.bl true) (r351.map V.bl)) = true then (KM false) else (M_grounds x328.2 fun r356 => (M_due_grounds x328.1 fun r361 => (((plainD (D.lst (r356.map (fun y_ : Bool => (D.v (V.bl y_))))) = true ∧ plainD (D.lst (r361.map (fun y_ : Bool => (D.v (V.bl y_))))) = true ∧ SeqAt.shaped (pyOf (D.lst (r356.map (fun y_ : Bool => (D.v (V.bl y_)))))) = true ∧ SeqAt.shaped (pyOf (D.lst (r361.map (fun y_ : Bool => (D.v (V.bl y_)))))) = true)) ∧ (if (!(PyData.eqv (pyOf (D.lst (r356.map (fun y_ : Bool => (D.v (V.bl y_)))))) (pyOf (D.lst (r361.map (fun y_ : Bool => (D.v (V.bl y_)))))))) = true then (KM false) else (k331 ())))))))) ((rangeI 0 (([((30, []) : Nat × List D), ((31, []) : Nat × List D), ((32, []) : Nat × List D)] : List (Nat × List D)).length : Int)).zip ([((30, []) : Nat × List D), ((31, []) : Nat × List D), ((32, []) : Nat × List D)] : List (Nat × List D))) () fun s367 => (KM true)))))))))))
def sp_right (A : Ad) : Sp := fun vs H Q _ => ∃ (ms : List Addr) (ap : Addr) (KM : Bool → Prop), vs = [.ref ap] ∧ Wd ms [(ap, none)] [] H H ∧ M_right  KM ∧ ∀ (r : Bool) (u : V) (H1 : Hp), KM r → Ret [(ap, none)] H H1 → rep ms H1 (D.v (V.bl r)) u → Q u H1
set_option maxHeartbeats 16000000 in
theorem ok_right {P : Program} {w : World} {K : PySem.W.Frag} {mg : Str → Option Value} {base : Heap} {A : Ad} (T : Txt w K mg A) : FnG P w K mg base 4 A.a_right A.d_right ["_law_pot_here"] (sp_right A) := by
  refine okG T.F_right sc_right (fun vs H Q E h => ?_) (fun cdv A_ outer s_ H_0 vs Q E gu hr h => ?_)
  · obtain ⟨ms, ap, KM, rfl, _⟩ := h
    rfl
  · obtain ⟨ms, ap, KM, rfl, hW, hM, hQ⟩ := h
    unfold M_right at hM
    refine ⟨_, (pss_cons (ps_set (i := 1) sc_right.nd rfl (by first | exact Or.inl rfl | exact Or.inr rfl) (pe_lst (pa_cons pe_non (pa_cons pe_int (pa_cons pe_int (pa_cons pe_bl (pa_cons pe_str (pa_cons pe_str (pa_cons (pe_tup (pa_cons pe_int (pa_cons pe_int pa_nil))) (pa_cons (pe_lst (pa_cons pe_str pa_nil)) (pa_cons (pe_disp (pps_cons pe_str pe_int pps_nil) rfl rfl (by simp) (by decide)) (pa_cons (pe_un un_neg (pe_op op_pow pe_int pe_int)) (pa_cons (pe_tup (pa_cons pe_str (pa_cons pe_int pa_nil))) (pa_cons (pe_lst (pa_cons (pe_tup (pa_cons pe_int (pa_cons pe_int pa_nil))) (pa_cons (pe_tup (pa_cons pe_int (pa_cons pe_int pa_nil))) pa_nil))) (pa_cons (pe_op op_pow pe_int pe_int) pa_nil))))))))))))))) (pss_cons (ps_par (i := 2) (j := 3) (by rfl) sc_right.nd rfl rfl (by decide) rfl rfl (pa_cons (pe_lc (own := [("_law_k", 6)]) (g := gName 6) rfl sc_right.nd (pi_rangeW1 (by rfl) T.z_range (pa_cons pe_int pa_nil)) (blkOk_by (N := ["_law_pot_here", "_law_menu", "_law_near", "_law_far", "_law_some", "_law_parts", "_law_k", "_law_e", "_law_n"]) (sc := defScope s_right) (by decide +kernel)) (fun _ _ _ _ _ => pg_name (i := 6) sc_right.nd rfl (by first | exact Or.inl rfl | exact Or.inr rfl)) (fun _ _ _ _ _ => pts_nil) (fun _ _ _ _ _ => (pe_call (ok_pick T) (hr.mono (by decide)) (by rfl) T.g_pick T.F_pick.kp T.b_pick .nil pass0 (pa_cons (pv 0) (pa_cons (pv 1) pa_nil))))) (pa_cons (pe_lc (own := [("_law_k", 6)]) (g := gName 6) rfl sc_right.nd (pi_rangeW1 (by rfl) T.z_range (pa_cons pe_int pa_nil)) (blkOk_by (N := ["_law_pot_here", "_law_menu", "_law_near", "_law_far", "_law_some", "_law_parts", "_law_k", "_law_e", "_law_n"]) (sc := defScope s_right) (by decide +kernel)) (fun _ _ _ _ _ => pg_name (i := 6) sc_right.nd rfl (by first | exact Or.inl rfl | exact Or.inr rfl)) (fun _ _ _ _ _ => pts_nil) (fun _ _ _ _ _ => (pe_call (ok_pick T) (hr.mono (by decide)) (by rfl) T.g_pick T.F_pick.kp T.b_pick .nil pass0 (pa_cons (pv 0) (pa_cons (pv 1) pa_nil))))) pa_nil)) (by rfl)) (pss_cons (ps_for PassesOwn.never rfl (pi_list (pe_lst (pa_cons (pe_tup (pa_cons (pe_call (ok_all T) (hr.mono (by decide)) (by rfl) T.g_all T.F_all.kp T.b_all .nil pass0 (pa_cons (pe_ix (ix_listK (K := K) rfl) (pv 2) pe_int (fun _ _ => rfl)) (pa_cons (pe_ix (ix_listK (K := K) rfl) (pv 2) pe_int (fun _ _ => rfl)) pa_nil))) (pa_cons (pv 2) pa_nil))) (pa_cons (pe_tup (pa_cons (pe_call (ok_named T) (hr.mono (by decide)) (by rfl) T.g_named T.F_named.kp T.b_named .nil pass0 (pa_cons (pe_ix (ix_listK (K := K) rfl) (pv 3) pe_int (fun _ _ => rfl)) (pa_cons (pe_ix (ix_listK (K := K) rfl) (pv 3) pe_int (fun _ _ => rfl)) pa_nil))) (pa_cons (pv 3) pa_nil))) pa_nil)))) (pg_tup rfl (pgs_cons (pg_name (i := 4) sc_right.nd rfl (by first | exact Or.inl rfl | exact Or.inr rfl)) (pgs_cons (pg_name (i := 5) sc_right.nd rfl (by first | exact Or.inl rfl | exact Or.inr rfl)) pgs_nil))) (pss_one (ps_for PassesOwn.never rfl (pi_enum (by rfl) T.z_enumerate (pa_cons (pv 4) pa_nil)) (pg_tup rfl (pgs_cons (pg_name (i := 6) sc_right.nd rfl (by first | exact Or.inl rfl | exact Or.inr rfl)) (pgs_cons (pg_name (i := 7) sc_right.nd rfl (by first | exact Or.inl rfl | exact Or.inr rfl)) pgs_nil))) (pss_cons (ps_if (pt_cmpR op_ne (pe_callB (call_reprY (by exact gu) (by have h_ := units65 hr; exact h_)) (by rfl) T.z_repr (by decide +kernel) (pa_cons (pe_call (ok_kept T) (hr.mono (by decide)) (by rfl) T.g_kept T.F_kept.kp T.b_kept .nil pass0 (pa_cons (pv 6) (pa_cons (pv 7) pa_nil))) pa_nil)) (pe_callB (call_reprY (by exact gu) (by have h_ := units65 hr; exact h_)) (by rfl) T.z_repr (by decide +kernel) (pa_cons (pe_slice (sl_listK (K := K) rfl) (pv 5) po_none (po_some (pe_call (ok_width T) (hr.mono (by decide)) (by rfl) T.g_width T.F_width.kp T.b_width .nil pass0 (pa_cons (pv 6) pa_nil)))) pa_nil)) (nomark _)) (pss_one (ps_ret pe_bl)) pss_nil) (pss_one (ps_if (PW.pt (pw_or (pt_cmpR (op_neDK (K := K) rfl hr.units) (pe_call (ok_flags T) (hr.mono (by decide)) (by rfl) T.g_flags T.F_flags.kp T.b_flags .nil pass0 (pa_cons (pv 7) pa_nil)) (pe_lc (own := [("_law_n", 8)]) (g := gName 8) rfl sc_right.nd (pi_rangeW1 (by rfl) T.z_range (pa_cons pe_int pa_nil)) (blkOk_by (N := ["_law_pot_here", "_law_menu", "_law_near", "_law_far", "_law_some", "_law_parts", "_law_k", "_law_e", "_law_n"]) (sc := defScope s_right) (by decide +kernel)) (fun _ _ _ _ _ => pg_name (i := 8) sc_right.nd rfl (by first | exact Or.inl rfl | exact Or.inr rfl)) (fun _ _ _ _ _ => pts_nil) (fun _ _ _ _ _ => (pe_cmpR op_eq (pv 8) (pv 6) (nomark _)))) (nomark _)) (pw_or1 (pt_cmpR (op_neDK (K := K) rfl hr.units) (pe_call (ok_grounds T) (hr.mono (by decide)) (by rfl) T.g_grounds T.F_grounds.kp T.b_grounds .nil pass0 (pa_cons (pv 7) pa_nil)) (pe_call (ok_due_grounds T) (hr.mono (by decide)) (by rfl) T.g_due_grounds T.F_due_grounds.kp T.b_due_grounds .nil pass0 (pa_cons (pe_call (ok_ground T) (hr.mono (by decide)) (by rfl) T.g_ground T.F_ground.kp T.b_ground .nil pass0 (pa_cons (pv 6) pa_nil)) pa_nil)) (nomark _))))) (pss_one (ps_ret pe_bl)) pss_nil)))))) (pss_cons (ps_for PassesOwn.never rfl (pi_enum (by rfl) T.z_enumerate (pa_cons (pe_lst (pa_cons (pe_mkX0 PySem.F.excBase_ValueError T.x0_LeagueError T.kp_LeagueError (by rfl) T.g_LeagueError) (pa_cons (pe_mkX0 PySem.F.excBase_RuntimeError T.x0_StateError T.kp_StateError (by rfl) T.g_StateError) (pa_cons (pe_mkX0 PySem.F.excBase_ArithmeticError T.x0_LimitError T.kp_LimitError (by rfl) T.g_LimitError) pa_nil)))) pa_nil)) (pg_tup rfl (pgs_cons (pg_name (i := 6) sc_right.nd rfl (by first | exact Or.inl rfl | exact Or.inr rfl)) (pgs_cons (pg_name (i := 7) sc_right.nd rfl (by first | exact Or.inl rfl | exact Or.inr rfl)) pgs_nil))) (pss_one (ps_if (PW.pt (pw_or (pt_cmpR (op_inSK (K := K) rfl) pe_bl (pe_call (ok_flags T) (hr.mono (by decide)) (by rfl) T.g_flags T.F_flags.kp T.b_flags .nil pass0 (pa_cons (pv 7) pa_nil)) (by rfl)) (pw_or1 (pt_cmpR (op_neDK (K := K) rfl hr.units) (pe_call (ok_grounds T) (hr.mono (by decide)) (by rfl) T.g_grounds T.F_grounds.kp T.b_grounds .nil pass0 (pa_cons (pv 7) pa_nil)) (pe_call (ok_due_grounds T) (hr.mono (by decide)) (by rfl) T.g_due_grounds T.F_due_grounds.kp T.b_due_grounds .nil pass0 (pa_cons (pv 6) pa_nil)) (nomark _))))) (pss_one (ps_ret pe_bl)) pss_nil))) (pss_one (ps_ret pe_bl)))))), ?_⟩
    refine ⟨(by show 2 ≤ sizeLine; decide), ?_⟩
    intro p1 n5
    have e2 := Rx.Ext.new (H := H_0) (o := (HO.tup [V.int (1 : Int), V.int (2 : Int)])) n5
    have hp3 : upd H_0 p1 (HO.tup [V.int (1 : Int), V.int (2 : Int)]) p1 = some (HO.tup [V.int (1 : Int), V.int (2 : Int)]) := upd_same
    generalize upd H_0 p1 (HO.tup [V.int (1 : Int), V.int (2 : Int)]) = H6 at e2 hp3 ⊢
    have h4 : rep ms H6 (D.tup [(D.v (V.int (1 : Int))), (D.v (V.int (2 : Int)))]) (.ref p1) := rep_tup_mk hW n5 e2 hp3 (repL_cons rep_v (repL_cons rep_v repL_nil))
    replace hW := hW.ret0 e2
    refine ⟨(by show 1 ≤ sizeLine; decide), ?_⟩
    intro p7 n11
    have e8 := Rx.Ext.new (H := H6) (o := (HO.lst [V.str ("a" : Str)])) n11
    have hp9 : upd H6 p7 (HO.lst [V.str ("a" : Str)]) p7 = some (HO.lst [V.str ("a" : Str)]) := upd_same
    generalize upd H6 p7 (HO.lst [V.str ("a" : Str)]) = H12 at e8 hp9 ⊢
    have h10 : rep ms H12 (D.lst (([("a" : Str)] : List Str).map (fun y_ : Str => (D.v (V.str y_))))) (.ref p7) := rep_lst_mk hW n11 e8 hp9 (repL_cons rep_v repL_nil)
    replace h4 := rep_ext e8 h4
    replace hW := hW.ret0 e8
    intro L13 nl14
    have nm15 := nm_new hW nl14
    have mu16 := mo_nilD hW nl14
    replace h4 := rep_cell (o := .dK []) nl14 h4
    replace h10 := rep_cell (o := .dK []) nl14 h10
    replace hW := wd_cell (o := .dK []) hW nl14
    generalize upd H12 L13 (.dK []) = H17 at *
    replace mu16 : MutO (L13 :: ms) [(ap, none)] H_0 H17 L13 (D.dct [] []) := mu16
    refine ⟨mo_dK0 mu16, List.zip [(Sum.inr ("b" : Str) : Key)] [V.int (3 : Int)], rfl, (by show 1 ≤ 15; decide), ?_⟩
    rw [merge_zip (ks := [(Sum.inr ("b" : Str) : Key)]) (vs := [V.int (3 : Int)]) rfl (by decide +kernel)]
    have mk18 := mo_setD (ks := [(Sum.inr ("b" : Str) : Key)]) (vs := [V.int (3 : Int)]) mu16 rfl (repL_cons rep_v repL_nil)
    replace h4 := rep_put (o := .dK (List.zip [(Sum.inr ("b" : Str) : Key)] [V.int (3 : Int)])) mu16.im h4
    replace h10 := rep_put (o := .dK (List.zip [(Sum.inr ("b" : Str) : Key)] [V.int (3 : Int)])) mu16.im h10
    replace hW := wd_put (o := .dK (List.zip [(Sum.inr ("b" : Str) : Key)] [V.int (3 : Int)])) hW mu16
    replace mu16 := mk18
    generalize upd H17 L13 (.dK (List.zip [(Sum.inr ("b" : Str) : Key)] [V.int (3 : Int)])) = H19 at *
    replace mu16 : MutO (L13 :: ms) [(ap, none)] H_0 H19 L13 (D.dct [(Sum.inr ("b" : Str) : Key)] [(D.v (V.int (3 : Int)))]) := mu16
    clear mk18
    have h20 := mo_rep_dr dr_here nm15 mu16
    replace hW := wd_dr dr_here mu16.hp hW
    replace h4 := rep_dr dr_here h4
    replace h10 := rep_dr dr_here h10
    clear mu16
    refine ⟨_, _, rfl, rfl, ⟨by decide, by decide, by decide⟩, ?_⟩
    refine ⟨_, rfl, ?_⟩
    refine ⟨(by show 2 ≤ sizeLine; decide), ?_⟩
    intro p21 n25
    have e22 := Rx.Ext.new (H := H19) (o := (HO.tup [V.str ("x" : Str), V.int (3 : Int)])) n25
    have hp23 : upd H19 p21 (HO.tup [V.str ("x" : Str), V.int (3 : Int)]) p21 = some (HO.tup [V.str ("x" : Str), V.int (3 : Int)]) := upd_same
    generalize upd H19 p21 (HO.tup [V.str ("x" : Str), V.int (3 : Int)]) = H26 at e22 hp23 ⊢
    have h24 : rep ms H26 (D.tup [(D.v (V.str ("x" : Str))), (D.v (V.int (3 : Int)))]) (.ref p21) := rep_tup_mk hW n25 e22 hp23 (repL_cons rep_v (repL_cons rep_v repL_nil))
    replace h4 := rep_ext e22 h4
    replace h10 := rep_ext e22 h10
    replace h20 := rep_ext e22 h20
    replace hW := hW.ret0 e22
    refine ⟨(by show 2 ≤ sizeLine; decide), ?_⟩
    intro p27 n31
    have e28 := Rx.Ext.new (H := H26) (o := (HO.tup [V.int (0 : Int), V.int (1 : Int)])) n31
    have hp29 : upd H26 p27 (HO.tup [V.int (0 : Int), V.int (1 : Int)]) p27 = some (HO.tup [V.int (0 : Int), V.int (1 : Int)]) := upd_same
    generalize upd H26 p27 (HO.tup [V.int (0 : Int), V.int (1 : Int)]) = H32 at e28 hp29 ⊢
    have h30 : rep ms H32 (D.tup [(D.v (V.int (0 : Int))), (D.v (V.int (1 : Int)))]) (.ref p27) := rep_tup_mk hW n31 e28 hp29 (repL_cons rep_v (repL_cons rep_v repL_nil))
    replace h4 := rep_ext e28 h4
    replace h10 := rep_ext e28 h10
    replace h20 := rep_ext e28 h20
    replace h24 := rep_ext e28 h24
    replace hW := hW.ret0 e28
    refine ⟨(by show 2 ≤ sizeLine; decide), ?_⟩
    intro p33 n37
    have e34 := Rx.Ext.new (H := H32) (o := (HO.tup [V.int (0 : Int), V.int (2 : Int)])) n37
    have hp35 : upd H32 p33 (HO.tup [V.int (0 : Int), V.int (2 : Int)]) p33 = some (HO.tup [V.int (0 : Int), V.int (2 : Int)]) := upd_same
    generalize upd H32 p33 (HO.tup [V.int (0 : Int), V.int (2 : Int)]) = H38 at e34 hp35 ⊢
    have h36 : rep ms H38 (D.tup [(D.v (V.int (0 : Int))), (D.v (V.int (2 : Int)))]) (.ref p33) := rep_tup_mk hW n37 e34 hp35 (repL_cons rep_v (repL_cons rep_v repL_nil))
    replace h4 := rep_ext e34 h4
    replace h10 := rep_ext e34 h10
    replace h20 := rep_ext e34 h20
    replace h24 := rep_ext e34 h24
    replace h30 := rep_ext e34 h30
    replace hW := hW.ret0 e34
    refine ⟨(by show 2 ≤ sizeLine; decide), ?_⟩
    intro p39 n43
    have e40 := Rx.Ext.new (H := H38) (o := (HO.lst [(V.ref p27), (V.ref p33)])) n43
    have hp41 : upd H38 p39 (HO.lst [(V.ref p27), (V.ref p33)]) p39 = some (HO.lst [(V.ref p27), (V.ref p33)]) := upd_same
    generalize upd H38 p39 (HO.lst [(V.ref p27), (V.ref p33)]) = H44 at e40 hp41 ⊢
    have h42 : rep ms H44 (D.lst (([((0 : Int), (1 : Int)), ((0 : Int), (2 : Int))] : List (Int × Int)).map (fun y_ : (Int × Int) => (D.tup [(D.v (V.int y_.1)), (D.v (V.int y_.2))])))) (.ref p39) := rep_lst_mk hW n43 e40 hp41 (repL_cons h30 (repL_cons h36 repL_nil))
    replace h4 := rep_ext e40 h4
    replace h10 := rep_ext e40 h10
    replace h20 := rep_ext e40 h20
    replace h24 := rep_ext e40 h24
    replace h30 := rep_ext e40 h30
    replace h36 := rep_ext e40 h36
    replace hW := hW.ret0 e40
    refine ⟨_, _, rfl, rfl, ⟨by decide, by decide, by decide⟩, ?_⟩
    refine ⟨(by show 13 ≤ sizeLine; decide), ?_⟩
    intro p45 n49
    have e46 := Rx.Ext.new (H := H44) (o := (HO.lst [V.non, V.int (0 : Int), V.int (1 : Int), V.bl true, V.str ("" : Str), V.str ("h" : Str), (V.ref p1), (V.ref p7), (V.ref L13), V.int (-((10 : Int) ^ Int.toNat (20 : Int))), (V.ref p21), (V.ref p39), V.int ((10 : Int) ^ Int.toNat (29 : Int))])) n49
    have hp47 : upd H44 p45 (HO.lst [V.non, V.int (0 : Int), V.int (1 : Int), V.bl true, V.str ("" : Str), V.str ("h" : Str), (V.ref p1), (V.ref p7), (V.ref L13), V.int (-((10 : Int) ^ Int.toNat (20 : Int))), (V.ref p21), (V.ref p39), V.int ((10 : Int) ^ Int.toNat (29 : Int))]) p45 = some (HO.lst [V.non, V.int (0 : Int), V.int (1 : Int), V.bl true, V.str ("" : Str), V.str ("h" : Str), (V.ref p1), (V.ref p7), (V.ref L13), V.int (-((10 : Int) ^ Int.toNat (20 : Int))), (V.ref p21), (V.ref p39), V.int ((10 : Int) ^ Int.toNat (29 : Int))]) := upd_same
    generalize upd H44 p45 (HO.lst [V.non, V.int (0 : Int), V.int (1 : Int), V.bl true, V.str ("" : Str), V.str ("h" : Str), (V.ref p1), (V.ref p7), (V.ref L13), V.int (-((10 : Int) ^ Int.toNat (20 : Int))), (V.ref p21), (V.ref p39), V.int ((10 : Int) ^ Int.toNat (29 : Int))]) = H50 at e46 hp47 ⊢
    have h48 : rep ms H50 (D.lst (([(D.v V.non), (D.v (V.int (0 : Int))), (D.v (V.int (1 : Int))), (D.v (V.bl true)), (D.v (V.str ("" : Str))), (D.v (V.str ("h" : Str))), (D.tup [(D.v (V.int ((1 : Int), (2 : Int)).1)), (D.v (V.int ((1 : Int), (2 : Int)).2))]), (D.lst (([("a" : Str)] : List Str).map (fun y_ : Str => (D.v (V.str y_))))), (D.dct [(Sum.inr ("b" : Str) : Key)] [(D.v (V.int (3 : Int)))]), (D.v (V.int (-((10 : Int) ^ Int.toNat (20 : Int))))), (D.tup [(D.v (V.str (("x" : Str), (3 : Int)).1)), (D.v (V.int (("x" : Str), (3 : Int)).2))]), (D.lst (([((0 : Int), (1 : Int)), ((0 : Int), (2 : Int))] : List (Int × Int)).map (fun y_ : (Int × Int) => (D.tup [(D.v (V.int y_.1)), (D.v (V.int y_.2))])))), (D.v (V.int ((10 : Int) ^ Int.toNat (29 : Int))))] : List D).map (fun y_ : D => y_))) (.ref p45) := rep_lst_mk hW n49 e46 hp47 (repL_cons rep_v (repL_cons rep_v (repL_cons rep_v (repL_cons rep_v (repL_cons rep_v (repL_cons rep_v (repL_cons h4 (repL_cons h10 (repL_cons h20 (repL_cons rep_v (repL_cons h24 (repL_cons h42 (repL_cons rep_v repL_nil)))))))))))))
    replace h4 := rep_ext e46 h4
    replace h10 := rep_ext e46 h10
    replace h20 := rep_ext e46 h20
    replace h24 := rep_ext e46 h24
    replace h30 := rep_ext e46 h30
    replace h36 := rep_ext e46 h36
    replace h42 := rep_ext e46 h42
    replace hW := hW.ret0 e46
    refine ⟨_, rfl, ?_⟩
    refine fun L51 nl52 => ?_
    have nm66 := nm_new hW nl52
    refine lc_rangeG (L := L51) (fun n_ ys_ h_ => Wd (L51 :: ms) [(ap, none)] [] H_0 h_ ∧ Keep (L51 :: ms) H50 h_ ∧ MutO (L51 :: ms) [(ap, none)] H_0 h_ L51 (D.lst (ys_.map (fun y_ : D => y_))) ∧ ys_.length ≤ n_) (lo := (0 : Int)) (hi := (2 : Int)) (N := Int.toNat (2 : Int)) (by simp) hM ⟨wd_cell hW nl52, keep_cell nl52 Keep.refl, mo_newL (ds := []) hW nl52 repL_nil, Nat.le_refl _⟩ ?_ ?_
    · skip
      rintro x62  n53 ys54 k55 H67 hn ⟨hW, hk56, mu57, ln58⟩ hM Nx61 hN59
      replace h4 := rep_keep hk56 (rep_new nl52 h4)
      replace h10 := rep_keep hk56 (rep_new nl52 h10)
      replace h20 := rep_keep hk56 (rep_new nl52 h20)
      replace h24 := rep_keep hk56 (rep_new nl52 h24)
      replace h30 := rep_keep hk56 (rep_new nl52 h30)
      replace h36 := rep_keep hk56 (rep_new nl52 h36)
      replace h42 := rep_keep hk56 (rep_new nl52 h42)
      replace h48 := rep_keep hk56 (rep_new nl52 h48)
      refine ⟨rfl, ?_⟩
      refine tyes_of ?_
      refine ⟨_, rfl, ?_⟩
      refine ⟨_, rfl, ?_⟩
      refine ⟨(L51 :: ms), ap, _, ([(D.v V.non), (D.v (V.int (0 : Int))), (D.v (V.int (1 : Int))), (D.v (V.bl true)), (D.v (V.str ("" : Str))), (D.v (V.str ("h" : Str))), (D.tup [(D.v (V.int ((1 : Int), (2 : Int)).1)), (D.v (V.int ((1 : Int), (2 : Int)).2))]), (D.lst (([("a" : Str)] : List Str).map (fun y_ : Str => (D.v (V.str y_))))), (D.dct [(Sum.inr ("b" : Str) : Key)] [(D.v (V.int (3 : Int)))]), (D.v (V.int (-((10 : Int) ^ Int.toNat (20 : Int))))), (D.tup [(D.v (V.str (("x" : Str), (3 : Int)).1)), (D.v (V.int (("x" : Str), (3 : Int)).2))]), (D.lst (([((0 : Int), (1 : Int)), ((0 : Int), (2 : Int))] : List (Int × Int)).map (fun y_ : (Int × Int) => (D.tup [(D.v (V.int y_.1)), (D.v (V.int y_.2))])))), (D.v (V.int ((10 : Int) ^ Int.toNat (29 : Int))))] : List D), _, rfl, hW.enterP, h48, hM, fun r68 u71 H72 hM e70 h69 => ?_⟩
      replace h4 := rep_ret hW e70 h4
      replace h10 := rep_ret hW e70 h10
      replace h20 := rep_ret hW e70 h20
      replace h24 := rep_ret hW e70 h24
      replace h30 := rep_ret hW e70 h30
      replace h36 := rep_ret hW e70 h36
      replace h42 := rep_ret hW e70 h42
      replace h48 := rep_ret hW e70 h48
      replace hk56 := keep_ret hW e70 hk56
      replace mu57 := mo_ret hW e70 mu57
      replace hW := hW.retP e70
      refine mo_end mu57 hn (by rw [List.length_map]; exact ln58) fun vs73 hr74 => ?_
      have mk76 := mo_setL mu57 (repL_snoc (e := (fun y_ : D => y_)) (xs := ys54) (y := r68) hr74 h69)
      replace h4 := rep_put (o := .lst (vs73 ++ [u71])) mu57.im h4
      replace h10 := rep_put (o := .lst (vs73 ++ [u71])) mu57.im h10
      replace h20 := rep_put (o := .lst (vs73 ++ [u71])) mu57.im h20
      replace h24 := rep_put (o := .lst (vs73 ++ [u71])) mu57.im h24
      replace h30 := rep_put (o := .lst (vs73 ++ [u71])) mu57.im h30
      replace h36 := rep_put (o := .lst (vs73 ++ [u71])) mu57.im h36
      replace h42 := rep_put (o := .lst (vs73 ++ [u71])) mu57.im h42
      replace h48 := rep_put (o := .lst (vs73 ++ [u71])) mu57.im h48
      replace hk56 := keep_put (o := .lst (vs73 ++ [u71])) mu57.im hk56
      replace h69 := rep_put (o := .lst (vs73 ++ [u71])) mu57.im h69
      replace hW := wd_put (o := .lst (vs73 ++ [u71])) hW mu57
      replace mu57 := mk76
      generalize upd H72 L51 (.lst (vs73 ++ [u71])) = H77 at *
      replace mu57 : MutO (L51 :: ms) [(ap, none)] H_0 H77 L51 (D.lst ((ys54 ++ [r68]).map (fun y_ : D => y_))) := mu57
      clear mk76
      exact hN59 r68 _ hM ⟨hW, hk56, mu57, by rw [List.length_append]; exact Nat.add_le_add_right ln58 1⟩
    · skip
      rintro n53 ys78 H79 hM ⟨hW, hk56, mu57, ln58⟩
      replace h4 := rep_keep hk56 (rep_new nl52 h4)
      replace h10 := rep_keep hk56 (rep_new nl52 h10)
      replace h20 := rep_keep hk56 (rep_new nl52 h20)
      replace h24 := rep_keep hk56 (rep_new nl52 h24)
      replace h30 := rep_keep hk56 (rep_new nl52 h30)
      replace h36 := rep_keep hk56 (rep_new nl52 h36)
      replace h42 := rep_keep hk56 (rep_new nl52 h42)
      replace h48 := rep_keep hk56 (rep_new nl52 h48)
      clear hk56 ln58
      have h80 := mo_rep_dr dr_here nm66 mu57
      replace hW := wd_dr dr_here mu57.hp hW
      replace h4 := rep_dr dr_here h4
      replace h10 := rep_dr dr_here h10
      replace h20 := rep_dr dr_here h20
      replace h24 := rep_dr dr_here h24
      replace h30 := rep_dr dr_here h30
      replace h36 := rep_dr dr_here h36
      replace h42 := rep_dr dr_here h42
      replace h48 := rep_dr dr_here h48
      clear mu57
      refine ⟨_, rfl, ?_⟩
      refine fun L81 nl82 => ?_
      have nm96 := nm_new hW nl82
      refine lc_rangeG (L := L81) (fun n_ ys_ h_ => Wd (L81 :: ms) [(ap, none)] [] H_0 h_ ∧ Keep (L81 :: ms) H79 h_ ∧ MutO (L81 :: ms) [(ap, none)] H_0 h_ L81 (D.lst (ys_.map (fun y_ : D => y_))) ∧ ys_.length ≤ n_) (lo := (0 : Int)) (hi := (2 : Int)) (N := Int.toNat (2 : Int)) (by simp) hM ⟨wd_cell hW nl82, keep_cell nl82 Keep.refl, mo_newL (ds := []) hW nl82 repL_nil, Nat.le_refl _⟩ ?_ ?_
      · skip
        rintro x92  n83 ys84 k85 H97 hn ⟨hW, hk86, mu87, ln88⟩ hM Nx91 hN89
        replace h4 := rep_keep hk86 (rep_new nl82 h4)
        replace h10 := rep_keep hk86 (rep_new nl82 h10)
        replace h20 := rep_keep hk86 (rep_new nl82 h20)
        replace h24 := rep_keep hk86 (rep_new nl82 h24)
        replace h30 := rep_keep hk86 (rep_new nl82 h30)
        replace h36 := rep_keep hk86 (rep_new nl82 h36)
        replace h42 := rep_keep hk86 (rep_new nl82 h42)
        replace h48 := rep_keep hk86 (rep_new nl82 h48)
        replace h80 := rep_keep hk86 (rep_new nl82 h80)
        refine ⟨rfl, ?_⟩
        refine tyes_of ?_
        refine ⟨_, rfl, ?_⟩
        refine ⟨_, rfl, ?_⟩
        refine ⟨(L81 :: ms), ap, _, ([(D.v V.non), (D.v (V.int (0 : Int))), (D.v (V.int (1 : Int))), (D.v (V.bl true)), (D.v (V.str ("" : Str))), (D.v (V.str ("h" : Str))), (D.tup [(D.v (V.int ((1 : Int), (2 : Int)).1)), (D.v (V.int ((1 : Int), (2 : Int)).2))]), (D.lst (([("a" : Str)] : List Str).map (fun y_ : Str => (D.v (V.str y_))))), (D.dct [(Sum.inr ("b" : Str) : Key)] [(D.v (V.int (3 : Int)))]), (D.v (V.int (-((10 : Int) ^ Int.toNat (20 : Int))))), (D.tup [(D.v (V.str (("x" : Str), (3 : Int)).1)), (D.v (V.int (("x" : Str), (3 : Int)).2))]), (D.lst (([((0 : Int), (1 : Int)), ((0 : Int), (2 : Int))] : List (Int × Int)).map (fun y_ : (Int × Int) => (D.tup [(D.v (V.int y_.1)), (D.v (V.int y_.2))])))), (D.v (V.int ((10 : Int) ^ Int.toNat (29 : Int))))] : List D), _, rfl, hW.enterP, h48, hM, fun r98 u101 H102 hM e100 h99 => ?_⟩
        replace h4 := rep_ret hW e100 h4
        replace h10 := rep_ret hW e100 h10
        replace h20 := rep_ret hW e100 h20
        replace h24 := rep_ret hW e100 h24
        replace h30 := rep_ret hW e100 h30
        replace h36 := rep_ret hW e100 h36
        replace h42 := rep_ret hW e100 h42
        replace h48 := rep_ret hW e100 h48
        replace h80 := rep_ret hW e100 h80
        replace hk86 := keep_ret hW e100 hk86
        replace mu87 := mo_ret hW e100 mu87
        replace hW := hW.retP e100
        refine mo_end mu87 hn (by rw [List.length_map]; exact ln88) fun vs103 hr104 => ?_
        have mk106 := mo_setL mu87 (repL_snoc (e := (fun y_ : D => y_)) (xs := ys84) (y := r98) hr104 h99)
        replace h4 := rep_put (o := .lst (vs103 ++ [u101])) mu87.im h4
        replace h10 := rep_put (o := .lst (vs103 ++ [u101])) mu87.im h10
        replace h20 := rep_put (o := .lst (vs103 ++ [u101])) mu87.im h20
        replace h24 := rep_put (o := .lst (vs103 ++ [u101])) mu87.im h24
        replace h30 := rep_put (o := .lst (vs103 ++ [u101])) mu87.im h30
        replace h36 := rep_put (o := .lst (vs103 ++ [u101])) mu87.im h36
        replace h42 := rep_put (o := .lst (vs103 ++ [u101])) mu87.im h42
        replace h48 := rep_put (o := .lst (vs103 ++ [u101])) mu87.im h48
        replace h80 := rep_put (o := .lst (vs103 ++ [u101])) mu87.im h80
        replace hk86 := keep_put (o := .lst (vs103 ++ [u101])) mu87.im hk86
        replace h99 := rep_put (o := .lst (vs103 ++ [u101])) mu87.im h99
        replace hW := wd_put (o := .lst (vs103 ++ [u101])) hW mu87
        replace mu87 := mk106
        generalize upd H102 L81 (.lst (vs103 ++ [u101])) = H107 at *
        replace mu87 : MutO (L81 :: ms) [(ap, none)] H_0 H107 L81 (D.lst ((ys84 ++ [r98]).map (fun y_ : D => y_))) := mu87
        clear mk106
        exact hN89 r98 _ hM ⟨hW, hk86, mu87, by rw [List.length_append]; exact Nat.add_le_add_right ln88 1⟩
      · skip
        rintro n83 ys108 H109 hM ⟨hW, hk86, mu87, ln88⟩
        replace h4 := rep_keep hk86 (rep_new nl82 h4)
        replace h10 := rep_keep hk86 (rep_new nl82 h10)
        replace h20 := rep_keep hk86 (rep_new nl82 h20)
        replace h24 := rep_keep hk86 (rep_new nl82 h24)
        replace h30 := rep_keep hk86 (rep_new nl82 h30)
        replace h36 := rep_keep hk86 (rep_new nl82 h36)
        replace h42 := rep_keep hk86 (rep_new nl82 h42)
        replace h48 := rep_keep hk86 (rep_new nl82 h48)
        replace h80 := rep_keep hk86 (rep_new nl82 h80)
        clear hk86 ln88
        have h110 := mo_rep_dr dr_here nm96 mu87
        replace hW := wd_dr dr_here mu87.hp hW
        replace h4 := rep_dr dr_here h4
        replace h10 := rep_dr dr_here h10
        replace h20 := rep_dr dr_here h20
        replace h24 := rep_dr dr_here h24
        replace h30 := rep_dr dr_here h30
        replace h36 := rep_dr dr_here h36
        replace h42 := rep_dr dr_here h42
        replace h48 := rep_dr dr_here h48
        replace h80 := rep_dr dr_here h80
        clear mu87
        refine ⟨_, _, rfl, ?_⟩
        refine ⟨_, rfl, ?_⟩
        obtain ⟨g111, g112, hM⟩ := hM
        apply rep_ixL (e := (fun y_ : D => y_)) (xs := ys78) h80 g111 g112
        intro u115 h113
        obtain ⟨x114, x114e⟩ : ∃ x_, x_ = ys78[Int.toNat (0 : Int)]'g112 := ⟨_, rfl⟩
        rw [← x114e] at h113
        replace hM := hM x114 x114e
        refine ⟨_, rfl, ?_⟩
        obtain ⟨g116, g117, hM⟩ := hM
        apply rep_ixL (e := (fun y_ : D => y_)) (xs := ys78) h80 g116 g117
        intro u120 h118
        obtain ⟨x119, x119e⟩ : ∃ x_, x_ = ys78[Int.toNat (1 : Int)]'g117 := ⟨_, rfl⟩
        rw [← x119e] at h118
        replace hM := hM x119 x119e
        refine ⟨ms, _, _, x114, x119, _, rfl, hW.enter0, h113, h118, hM, fun r121 u124 H125 hM e123 h122 => ?_⟩
        replace h4 := rep_ext e123 h4
        replace h10 := rep_ext e123 h10
        replace h20 := rep_ext e123 h20
        replace h24 := rep_ext e123 h24
        replace h30 := rep_ext e123 h30
        replace h36 := rep_ext e123 h36
        replace h42 := rep_ext e123 h42
        replace h48 := rep_ext e123 h48
        replace h80 := rep_ext e123 h80
        replace h110 := rep_ext e123 h110
        replace h113 := rep_ext e123 h113
        replace h118 := rep_ext e123 h118
        replace hW := hW.ret0 e123
        refine ⟨_, rfl, ?_⟩
        refine ⟨(by show 2 ≤ sizeLine; decide), ?_⟩
        intro p126 n130
        have e127 := Rx.Ext.new (H := H125) (o := (HO.tup [u124, (V.ref L51)])) n130
        have hp128 : upd H125 p126 (HO.tup [u124, (V.ref L51)]) p126 = some (HO.tup [u124, (V.ref L51)]) := upd_same
        generalize upd H125 p126 (HO.tup [u124, (V.ref L51)]) = H131 at e127 hp128 ⊢
        have h129 : rep ms H131 (D.tup [(D.lst (r121.map (fun y_ : (Nat × List D) => (eX A y_)))), (D.lst (ys78.map (fun y_ : D => y_)))]) (.ref p126) := rep_tup_mk hW n130 e127 hp128 (repL_cons h122 (repL_cons h80 repL_nil))
        replace h4 := rep_ext e127 h4
        replace h10 := rep_ext e127 h10
        replace h20 := rep_ext e127 h20
        replace h24 := rep_ext e127 h24
        replace h30 := rep_ext e127 h30
        replace h36 := rep_ext e127 h36
        replace h42 := rep_ext e127 h42
        replace h48 := rep_ext e127 h48
        replace h80 := rep_ext e127 h80
        replace h110 := rep_ext e127 h110
        replace h113 := rep_ext e127 h113
        replace h118 := rep_ext e127 h118
        replace h122 := rep_ext e127 h122
        replace hW := hW.ret0 e127
        refine ⟨_, rfl, ?_⟩
        obtain ⟨g132, g133, hM⟩ := hM
        apply rep_ixL (e := (fun y_ : D => y_)) (xs := ys108) h110 g132 g133
        intro u136 h134
        obtain ⟨x135, x135e⟩ : ∃ x_, x_ = ys108[Int.toNat (0 : Int)]'g133 := ⟨_, rfl⟩
        rw [← x135e] at h134
        replace hM := hM x135 x135e
        refine ⟨_, rfl, ?_⟩
        obtain ⟨g137, g138, hM⟩ := hM
        apply rep_ixL (e := (fun y_ : D => y_)) (xs := ys108) h110 g137 g138
        intro u141 h139
        obtain ⟨x140, x140e⟩ : ∃ x_, x_ = ys108[Int.toNat (1 : Int)]'g138 := ⟨_, rfl⟩
        rw [← x140e] at h139
        replace hM := hM x140 x140e
        refine ⟨ms, _, _, x135, x140, _, rfl, hW.enter0, h134, h139, hM, fun r142 u145 H146 hM e144 h143 => ?_⟩
        replace h4 := rep_ext e144 h4
        replace h10 := rep_ext e144 h10
        replace h20 := rep_ext e144 h20
        replace h24 := rep_ext e144 h24
        replace h30 := rep_ext e144 h30
        replace h36 := rep_ext e144 h36
        replace h42 := rep_ext e144 h42
        replace h48 := rep_ext e144 h48
        replace h80 := rep_ext e144 h80
        replace h110 := rep_ext e144 h110
        replace h113 := rep_ext e144 h113
        replace h118 := rep_ext e144 h118
        replace h122 := rep_ext e144 h122
        replace h129 := rep_ext e144 h129
        replace h134 := rep_ext e144 h134
        replace h139 := rep_ext e144 h139
        replace hW := hW.ret0 e144
        refine ⟨_, rfl, ?_⟩
        refine ⟨(by show 2 ≤ sizeLine; decide), ?_⟩
        intro p147 n151
        have e148 := Rx.Ext.new (H := H146) (o := (HO.tup [u145, (V.ref L81)])) n151
        have hp149 : upd H146 p147 (HO.tup [u145, (V.ref L81)]) p147 = some (HO.tup [u145, (V.ref L81)]) := upd_same
        generalize upd H146 p147 (HO.tup [u145, (V.ref L81)]) = H152 at e148 hp149 ⊢
        have h150 : rep ms H152 (D.tup [(D.lst (r142.map (fun y_ : (Nat × List D) => (eX A y_)))), (D.lst (ys108.map (fun y_ : D => y_)))]) (.ref p147) := rep_tup_mk hW n151 e148 hp149 (repL_cons h143 (repL_cons h110 repL_nil))
        replace h4 := rep_ext e148 h4
        replace h10 := rep_ext e148 h10
        replace h20 := rep_ext e148 h20
        replace h24 := rep_ext e148 h24
        replace h30 := rep_ext e148 h30
        replace h36 := rep_ext e148 h36
        replace h42 := rep_ext e148 h42
        replace h48 := rep_ext e148 h48
        replace h80 := rep_ext e148 h80
        replace h110 := rep_ext e148 h110
        replace h113 := rep_ext e148 h113
        replace h118 := rep_ext e148 h118
        replace h122 := rep_ext e148 h122
        replace h129 := rep_ext e148 h129
        replace h134 := rep_ext e148 h134
        replace h139 := rep_ext e148 h139
        replace h143 := rep_ext e148 h143
        replace hW := hW.ret0 e148
        refine ⟨(by show 2 ≤ sizeLine; decide), ?_⟩
        intro p153 n157
        have e154 := Rx.Ext.new (H := H152) (o := (HO.lst [(V.ref p126), (V.ref p147)])) n157
        have hp155 : upd H152 p153 (HO.lst [(V.ref p126), (V.ref p147)]) p153 = some (HO.lst [(V.ref p126), (V.ref p147)]) := upd_same
        generalize upd H152 p153 (HO.lst [(V.ref p126), (V.ref p147)]) = H158 at e154 hp155 ⊢
        have h156 : rep ms H158 (D.lst (([(r121, ys78), (r142, ys108)] : List ((List (Nat × List D)) × (List D))).map (fun y_ : ((List (Nat × List D)) × (List D)) => (D.tup [(D.lst (y_.1.map (fun y_ : (Nat × List D) => (eX A y_)))), (D.lst (y_.2.map (fun y_ : D => y_)))])))) (.ref p153) := rep_lst_mk hW n157 e154 hp155 (repL_cons h129 (repL_cons h150 repL_nil))
        replace h4 := rep_ext e154 h4
        replace h10 := rep_ext e154 h10
        replace h20 := rep_ext e154 h20
        replace h24 := rep_ext e154 h24
        replace h30 := rep_ext e154 h30
        replace h36 := rep_ext e154 h36
        replace h42 := rep_ext e154 h42
        replace h48 := rep_ext e154 h48
        replace h80 := rep_ext e154 h80
        replace h110 := rep_ext e154 h110
        replace h113 := rep_ext e154 h113
        replace h118 := rep_ext e154 h118
        replace h122 := rep_ext e154 h122
        replace h129 := rep_ext e154 h129
        replace h134 := rep_ext e154 h134
        replace h139 := rep_ext e154 h139
        replace h143 := rep_ext e154 h143
        replace h150 := rep_ext e154 h150
        replace hW := hW.ret0 e154
        apply rep_iter h156
        intro a159 xs160 _ an161 hp162 hl163
        refine for_listG (S := Unit) (items := ([(r121, ys78), (r142, ys108)] : List ((List (Nat × List D)) × (List D)))) (e := (fun y_ : ((List (Nat × List D)) × (List D)) => (D.tup [(D.lst (y_.1.map (fun y_ : (Nat × List D) => (eX A y_)))), (D.lst (y_.2.map (fun y_ : D => y_)))]))) (ms := ms) (fun (s : Unit) σ_ h_ => ∃ (w_0 : Option V), ∃ (w_1 : Option V), ∃ (w_2 : Option V), ∃ (w_3 : Option V), σ_ = [some (V.ref ap), some (V.ref p45), some (V.ref L51), some (V.ref L81), w_0, w_1, w_2, w_3, none] ∧ Wd ms [(ap, none)] [] H_0 h_ ∧ Keep ms H158 h_) () an161 hp162 hl163 (fun _ _ _ z_ => by obtain ⟨_, _, _, _, _, _, q_⟩ := z_; exact q_) hM ⟨_, _, _, _, rfl, hW, Keep.refl⟩ ?_ ?_
        · skip
          rintro x164 u165 s166 k167 _ H176 ⟨w172, w173, w174, w175, rfl, hW, hk168⟩ h169 hM Nx170 hN171
          replace h4 := rep_keep hk168 h4
          replace h10 := rep_keep hk168 h10
          replace h20 := rep_keep hk168 h20
          replace h24 := rep_keep hk168 h24
          replace h30 := rep_keep hk168 h30
          replace h36 := rep_keep hk168 h36
          replace h42 := rep_keep hk168 h42
          replace h48 := rep_keep hk168 h48
          replace h80 := rep_keep hk168 h80
          replace h110 := rep_keep hk168 h110
          replace h113 := rep_keep hk168 h113
          replace h118 := rep_keep hk168 h118
          replace h122 := rep_keep hk168 h122
          replace h129 := rep_keep hk168 h129
          replace h134 := rep_keep hk168 h134
          replace h139 := rep_keep hk168 h139
          replace h143 := rep_keep hk168 h143
          replace h150 := rep_keep hk168 h150
          replace h156 := rep_keep hk168 h156
          apply rep_gtup h169 rfl
          intro vs177 hv178
          obtain ⟨u179, us180, rfl, h181, hv182⟩ := repL_uncons hv178
          obtain ⟨u183, us184, rfl, h185, hv186⟩ := repL_uncons hv182
          obtain rfl := repL_empty hv186
          refine ⟨_, _, rfl, ?_⟩
          refine ⟨_, _, rfl, ?_⟩
          refine ⟨rfl, ?_⟩
          refine ⟨_, rfl, ?_⟩
          apply rep_iterE h181
          intro a187 xs188 _ an189 hp190 hl191
          refine for_enumG (S := Unit) (items := x164.1) (e := (fun y_ : (Nat × List D) => (eX A y_))) (ms := ms) (fun (s : Unit) σ_ h_ => ∃ (w_0 : Option V), ∃ (w_1 : Option V), σ_ = [some (V.ref ap), some (V.ref p45), some (V.ref L51), some (V.ref L81), some u179, some u183, w_0, w_1, none] ∧ Wd ms [(ap, none)] [] H_0 h_ ∧ Keep ms H176 h_) () an189 hp190 hl191 (fun _ _ _ z_ => by obtain ⟨_, _, _, _, q_⟩ := z_; exact q_) (fun _ _ _ z_ => by obtain ⟨_, _, _, w_, _⟩ := z_; exact w_.tr) hM ⟨_, _, rfl, hW, Keep.refl⟩ ?_ ?_
          · skip
            rintro x192 u193 s194 k195 _ H204 H203 ⟨w200, w201, rfl, hW, hk196⟩ ex202 h197 hM Nx198 hN199
            replace h4 := rep_keep hk196 h4
            replace h10 := rep_keep hk196 h10
            replace h20 := rep_keep hk196 h20
            replace h24 := rep_keep hk196 h24
            replace h30 := rep_keep hk196 h30
            replace h36 := rep_keep hk196 h36
            replace h42 := rep_keep hk196 h42
            replace h48 := rep_keep hk196 h48
            replace h80 := rep_keep hk196 h80
            replace h110 := rep_keep hk196 h110
            replace h113 := rep_keep hk196 h113
            replace h118 := rep_keep hk196 h118
            replace h122 := rep_keep hk196 h122
            replace h129 := rep_keep hk196 h129
            replace h134 := rep_keep hk196 h134
            replace h139 := rep_keep hk196 h139
            replace h143 := rep_keep hk196 h143
            replace h150 := rep_keep hk196 h150
            replace h156 := rep_keep hk196 h156
            replace hk168 := Keep.trans hk168 hk196
            replace h169 := rep_keep hk196 h169
            replace h181 := rep_keep hk196 h181
            replace h185 := rep_keep hk196 h185
            replace h4 := rep_ext ex202 h4
            replace h10 := rep_ext ex202 h10
            replace h20 := rep_ext ex202 h20
            replace h24 := rep_ext ex202 h24
            replace h30 := rep_ext ex202 h30
            replace h36 := rep_ext ex202 h36
            replace h42 := rep_ext ex202 h42
            replace h48 := rep_ext ex202 h48
            replace h80 := rep_ext ex202 h80
            replace h110 := rep_ext ex202 h110
            replace h113 := rep_ext ex202 h113
            replace h118 := rep_ext ex202 h118
            replace h122 := rep_ext ex202 h122
            replace h129 := rep_ext ex202 h129
            replace h134 := rep_ext ex202 h134
            replace h139 := rep_ext ex202 h139
            replace h143 := rep_ext ex202 h143
            replace h150 := rep_ext ex202 h150
            replace h156 := rep_ext ex202 h156
            replace hk168 := keep_ext ex202 hk168
            replace h169 := rep_ext ex202 h169
            replace h181 := rep_ext ex202 h181
            replace h185 := rep_ext ex202 h185
            replace hk196 := keep_ext ex202 hk196
            replace hW := hW.ret0 ex202
            apply rep_gtup h197 rfl
            intro vs205 hv206
            obtain ⟨u207, us208, rfl, h209, hv210⟩ := repL_uncons hv206
            obtain rfl := of_v h209
            obtain ⟨u211, us212, rfl, h213, hv214⟩ := repL_uncons hv210
            obtain rfl := repL_empty hv214
            refine ⟨_, _, rfl, ?_⟩
            refine ⟨_, _, rfl, ?_⟩
            refine ⟨rfl, ?_⟩
            refine ⟨_, rfl, ?_⟩
            refine ⟨_, rfl, ?_⟩
            refine ⟨ms, _, x192.1, x192.2, _, rfl, hW.enter0, h213, hM, fun r215 u218 H219 hM e217 h216 => ?_⟩
            replace h4 := rep_ext e217 h4
            replace h10 := rep_ext e217 h10
            replace h20 := rep_ext e217 h20
            replace h24 := rep_ext e217 h24
            replace h30 := rep_ext e217 h30
            replace h36 := rep_ext e217 h36
            replace h42 := rep_ext e217 h42
            replace h48 := rep_ext e217 h48
            replace h80 := rep_ext e217 h80
            replace h110 := rep_ext e217 h110
            replace h113 := rep_ext e217 h113
            replace h118 := rep_ext e217 h118
            replace h122 := rep_ext e217 h122
            replace h129 := rep_ext e217 h129
            replace h134 := rep_ext e217 h134
            replace h139 := rep_ext e217 h139
            replace h143 := rep_ext e217 h143
            replace h150 := rep_ext e217 h150
            replace h156 := rep_ext e217 h156
            replace hk168 := keep_ext e217 hk168
            replace h169 := rep_ext e217 h169
            replace h181 := rep_ext e217 h181
            replace h185 := rep_ext e217 h185
            replace hk196 := keep_ext e217 hk196
            replace h197 := rep_ext e217 h197
            replace h213 := rep_ext e217 h213
            replace hW := hW.ret0 e217
            obtain ⟨g220, hM⟩ := hM
            refine rep_reprY (d := (D.lst (r215.map (fun y_ : D => y_)))) h216 g220 ?_
            refine ⟨_, rfl, ?_⟩
            refine ⟨_, rfl, ?_⟩
            refine ⟨ms, x192.1, _, rfl, hW.enter0, hM, fun r221 u224 H225 hM e223 h222 => ?_⟩
            replace h4 := rep_ext e223 h4
            replace h10 := rep_ext e223 h10
            replace h20 := rep_ext e223 h20
            replace h24 := rep_ext e223 h24
            replace h30 := rep_ext e223 h30
            replace h36 := rep_ext e223 h36
            replace h42 := rep_ext e223 h42
            replace h48 := rep_ext e223 h48
            replace h80 := rep_ext e223 h80
            replace h110 := rep_ext e223 h110
            replace h113 := rep_ext e223 h113
            replace h118 := rep_ext e223 h118
            replace h122 := rep_ext e223 h122
            replace h129 := rep_ext e223 h129
            replace h134 := rep_ext e223 h134
            replace h139 := rep_ext e223 h139
            replace h143 := rep_ext e223 h143
            replace h150 := rep_ext e223 h150
            replace h156 := rep_ext e223 h156
            replace hk168 := keep_ext e223 hk168
            replace h169 := rep_ext e223 h169
            replace h181 := rep_ext e223 h181
            replace h185 := rep_ext e223 h185
            replace hk196 := keep_ext e223 hk196
            replace h197 := rep_ext e223 h197
            replace h213 := rep_ext e223 h213
            replace h216 := rep_ext e223 h216
            replace hW := hW.ret0 e223
            obtain rfl := of_v h222
            refine ⟨_, rfl, ?_⟩
            apply rep_lsU h185
            intro vs226 hr227
            intro p228 n232
            have e229 := Rx.Ext.new (H := H225) (o := (HO.lst (cutV vs226 none (some r221)))) n232
            have hp230 : upd H225 p228 (HO.lst (cutV vs226 none (some r221))) p228 = some (HO.lst (cutV vs226 none (some r221))) := upd_same
            generalize upd H225 p228 (HO.lst (cutV vs226 none (some r221))) = H233 at e229 hp230 ⊢
            have h231 : rep ms H233 (D.lst ((cutM x164.2 none (some r221)).map (fun y_ : D => y_))) (.ref p228) := rep_lst_mk hW n232 e229 hp230 (repL_cut (e := (fun y_ : D => y_)) (xs := x164.2) hr227)
            replace h4 := rep_ext e229 h4
            replace h10 := rep_ext e229 h10
            replace h20 := rep_ext e229 h20
            replace h24 := rep_ext e229 h24
            replace h30 := rep_ext e229 h30
            replace h36 := rep_ext e229 h36
            replace h42 := rep_ext e229 h42
            replace h48 := rep_ext e229 h48
            replace h80 := rep_ext e229 h80
            replace h110 := rep_ext e229 h110
            replace h113 := rep_ext e229 h113
            replace h118 := rep_ext e229 h118
            replace h122 := rep_ext e229 h122
            replace h129 := rep_ext e229 h129
            replace h134 := rep_ext e229 h134
            replace h139 := rep_ext e229 h139
            replace h143 := rep_ext e229 h143
            replace h150 := rep_ext e229 h150
            replace h156 := rep_ext e229 h156
            replace hk168 := keep_ext e229 hk168
            replace h169 := rep_ext e229 h169
            replace h181 := rep_ext e229 h181
            replace h185 := rep_ext e229 h185
            replace hk196 := keep_ext e229 hk196
            replace h197 := rep_ext e229 h197
            replace h213 := rep_ext e229 h213
            replace h216 := rep_ext e229 h216
            replace hW := hW.ret0 e229
            obtain ⟨g234, hM⟩ := hM
            refine rep_reprY (d := (D.lst ((cutM x164.2 none (some r221)).map (fun y_ : D => y_)))) h231 g234 ?_
            refine ⟨rfl, ?_⟩
            refine ⟨_, rfl, ?_⟩
            refine ite3 hM (fun hM => ?_) (fun hM => ?_)
            · skip
              exact hQ false _ _ hM hW.out rep_v
            · skip
              refine ⟨_, rfl, ?_⟩
              refine ⟨ms, _, x192.2, _, rfl, hW.enter0, h213, hM, fun r235 u238 H239 hM e237 h236 => ?_⟩
              replace h4 := rep_ext e237 h4
              replace h10 := rep_ext e237 h10
              replace h20 := rep_ext e237 h20
              replace h24 := rep_ext e237 h24
              replace h30 := rep_ext e237 h30
              replace h36 := rep_ext e237 h36
              replace h42 := rep_ext e237 h42
              replace h48 := rep_ext e237 h48
              replace h80 := rep_ext e237 h80
              replace h110 := rep_ext e237 h110
              replace h113 := rep_ext e237 h113
              replace h118 := rep_ext e237 h118
              replace h122 := rep_ext e237 h122
              replace h129 := rep_ext e237 h129
              replace h134 := rep_ext e237 h134
              replace h139 := rep_ext e237 h139
              replace h143 := rep_ext e237 h143
              replace h150 := rep_ext e237 h150
              replace h156 := rep_ext e237 h156
              replace hk168 := keep_ext e237 hk168
              replace h169 := rep_ext e237 h169
              replace h181 := rep_ext e237 h181
              replace h185 := rep_ext e237 h185
              replace hk196 := keep_ext e237 hk196
              replace h197 := rep_ext e237 h197
              replace h213 := rep_ext e237 h213
              replace h216 := rep_ext e237 h216
              replace h231 := rep_ext e237 h231
              replace hW := hW.ret0 e237
              refine ⟨_, rfl, ?_⟩
              refine fun L240 nl241 => ?_
              have nm255 := nm_new hW nl241
              have kn256 := keep_none (w := hW) nl241 hk168
              have kn257 := keep_none (w := hW) nl241 hk196
              refine lc_rangeG (L := L240) (fun n_ ys_ h_ => Wd (L240 :: ms) [(ap, none)] [] H_0 h_ ∧ Keep (L240 :: ms) H239 h_ ∧ MutO (L240 :: ms) [(ap, none)] H_0 h_ L240 (D.lst (ys_.map (fun y_ : Bool => (D.v (V.bl y_))))) ∧ ys_.length ≤ n_) (lo := (0 : Int)) (hi := (30 : Int)) (N := Int.toNat (30 : Int)) (by simp) hM ⟨wd_cell hW nl241, keep_cell nl241 Keep.refl, mo_newL (ds := []) hW nl241 repL_nil, Nat.le_refl _⟩ ?_ ?_
              · skip
                rintro x251  n242 ys243 k244 H258 hn ⟨hW, hk245, mu246, ln247⟩ hM Nx250 hN248
                replace h4 := rep_keep hk245 (rep_new nl241 h4)
                replace h10 := rep_keep hk245 (rep_new nl241 h10)
                replace h20 := rep_keep hk245 (rep_new nl241 h20)
                replace h24 := rep_keep hk245 (rep_new nl241 h24)
                replace h30 := rep_keep hk245 (rep_new nl241 h30)
                replace h36 := rep_keep hk245 (rep_new nl241 h36)
                replace h42 := rep_keep hk245 (rep_new nl241 h42)
                replace h48 := rep_keep hk245 (rep_new nl241 h48)
                replace h80 := rep_keep hk245 (rep_new nl241 h80)
                replace h110 := rep_keep hk245 (rep_new nl241 h110)
                replace h113 := rep_keep hk245 (rep_new nl241 h113)
                replace h118 := rep_keep hk245 (rep_new nl241 h118)
                replace h122 := rep_keep hk245 (rep_new nl241 h122)
                replace h129 := rep_keep hk245 (rep_new nl241 h129)
                replace h134 := rep_keep hk245 (rep_new nl241 h134)
                replace h139 := rep_keep hk245 (rep_new nl241 h139)
                replace h143 := rep_keep hk245 (rep_new nl241 h143)
                replace h150 := rep_keep hk245 (rep_new nl241 h150)
                replace h156 := rep_keep hk245 (rep_new nl241 h156)
                replace hk168 := Keep.trans (Keep.new hk168) hk245
                replace h169 := rep_keep hk245 (rep_new nl241 h169)
                replace h181 := rep_keep hk245 (rep_new nl241 h181)
                replace h185 := rep_keep hk245 (rep_new nl241 h185)
                replace hk196 := Keep.trans (Keep.new hk196) hk245
                replace h197 := rep_keep hk245 (rep_new nl241 h197)
                replace h213 := rep_keep hk245 (rep_new nl241 h213)
                replace h216 := rep_keep hk245 (rep_new nl241 h216)
                replace h231 := rep_keep hk245 (rep_new nl241 h231)
                replace h236 := rep_keep hk245 (rep_new nl241 h236)
                refine ⟨rfl, ?_⟩
                refine tyes_of ?_
                refine ⟨_, rfl, ?_⟩
                refine ⟨_, rfl, ?_⟩
                refine ⟨rfl, ?_⟩
                refine mo_end mu246 hn (by rw [List.length_map]; exact ln247) fun vs259 hr260 => ?_
                have mk262 := mo_setL mu246 (repL_snoc (e := (fun y_ : Bool => (D.v (V.bl y_)))) (xs := ys243) (y := (decide (V.int x251 = V.int x192.1))) hr260 rep_v)
                replace h4 := rep_put (o := .lst (vs259 ++ [V.bl (decide (V.int x251 = V.int x192.1))])) mu246.im h4
                replace h10 := rep_put (o := .lst (vs259 ++ [V.bl (decide (V.int x251 = V.int x192.1))])) mu246.im h10
                replace h20 := rep_put (o := .lst (vs259 ++ [V.bl (decide (V.int x251 = V.int x192.1))])) mu246.im h20
                replace h24 := rep_put (o := .lst (vs259 ++ [V.bl (decide (V.int x251 = V.int x192.1))])) mu246.im h24
                replace h30 := rep_put (o := .lst (vs259 ++ [V.bl (decide (V.int x251 = V.int x192.1))])) mu246.im h30
                replace h36 := rep_put (o := .lst (vs259 ++ [V.bl (decide (V.int x251 = V.int x192.1))])) mu246.im h36
                replace h42 := rep_put (o := .lst (vs259 ++ [V.bl (decide (V.int x251 = V.int x192.1))])) mu246.im h42
                replace h48 := rep_put (o := .lst (vs259 ++ [V.bl (decide (V.int x251 = V.int x192.1))])) mu246.im h48
                replace h80 := rep_put (o := .lst (vs259 ++ [V.bl (decide (V.int x251 = V.int x192.1))])) mu246.im h80
                replace h110 := rep_put (o := .lst (vs259 ++ [V.bl (decide (V.int x251 = V.int x192.1))])) mu246.im h110
                replace h113 := rep_put (o := .lst (vs259 ++ [V.bl (decide (V.int x251 = V.int x192.1))])) mu246.im h113
                replace h118 := rep_put (o := .lst (vs259 ++ [V.bl (decide (V.int x251 = V.int x192.1))])) mu246.im h118
                replace h122 := rep_put (o := .lst (vs259 ++ [V.bl (decide (V.int x251 = V.int x192.1))])) mu246.im h122
                replace h129 := rep_put (o := .lst (vs259 ++ [V.bl (decide (V.int x251 = V.int x192.1))])) mu246.im h129
                replace h134 := rep_put (o := .lst (vs259 ++ [V.bl (decide (V.int x251 = V.int x192.1))])) mu246.im h134
                replace h139 := rep_put (o := .lst (vs259 ++ [V.bl (decide (V.int x251 = V.int x192.1))])) mu246.im h139
                replace h143 := rep_put (o := .lst (vs259 ++ [V.bl (decide (V.int x251 = V.int x192.1))])) mu246.im h143
                replace h150 := rep_put (o := .lst (vs259 ++ [V.bl (decide (V.int x251 = V.int x192.1))])) mu246.im h150
                replace h156 := rep_put (o := .lst (vs259 ++ [V.bl (decide (V.int x251 = V.int x192.1))])) mu246.im h156
                replace hk168 := keep_put (o := .lst (vs259 ++ [V.bl (decide (V.int x251 = V.int x192.1))])) mu246.im hk168
                replace h169 := rep_put (o := .lst (vs259 ++ [V.bl (decide (V.int x251 = V.int x192.1))])) mu246.im h169
                replace h181 := rep_put (o := .lst (vs259 ++ [V.bl (decide (V.int x251 = V.int x192.1))])) mu246.im h181
                replace h185 := rep_put (o := .lst (vs259 ++ [V.bl (decide (V.int x251 = V.int x192.1))])) mu246.im h185
                replace hk196 := keep_put (o := .lst (vs259 ++ [V.bl (decide (V.int x251 = V.int x192.1))])) mu246.im hk196
                replace h197 := rep_put (o := .lst (vs259 ++ [V.bl (decide (V.int x251 = V.int x192.1))])) mu246.im h197
                replace h213 := rep_put (o := .lst (vs259 ++ [V.bl (decide (V.int x251 = V.int x192.1))])) mu246.im h213
                replace h216 := rep_put (o := .lst (vs259 ++ [V.bl (decide (V.int x251 = V.int x192.1))])) mu246.im h216
                replace h231 := rep_put (o := .lst (vs259 ++ [V.bl (decide (V.int x251 = V.int x192.1))])) mu246.im h231
                replace h236 := rep_put (o := .lst (vs259 ++ [V.bl (decide (V.int x251 = V.int x192.1))])) mu246.im h236
                replace hk245 := keep_put (o := .lst (vs259 ++ [V.bl (decide (V.int x251 = V.int x192.1))])) mu246.im hk245
                replace hW := wd_put (o := .lst (vs259 ++ [V.bl (decide (V.int x251 = V.int x192.1))])) hW mu246
                replace mu246 := mk262
                generalize upd H258 L240 (.lst (vs259 ++ [V.bl (decide (V.int x251 = V.int x192.1))])) = H263 at *
                replace mu246 : MutO (L240 :: ms) [(ap, none)] H_0 H263 L240 (D.lst ((ys243 ++ [(decide (V.int x251 = V.int x192.1))]).map (fun y_ : Bool => (D.v (V.bl y_))))) := mu246
                clear mk262
                exact hN248 (decide (V.int x251 = V.int x192.1)) _ hM ⟨hW, hk245, mu246, by rw [List.length_append]; exact Nat.add_le_add_right ln247 1⟩
              · skip
                rintro n242 ys264 H265 hM ⟨hW, hk245, mu246, ln247⟩
                replace h4 := rep_keep hk245 (rep_new nl241 h4)
                replace h10 := rep_keep hk245 (rep_new nl241 h10)
                replace h20 := rep_keep hk245 (rep_new nl241 h20)
                replace h24 := rep_keep hk245 (rep_new nl241 h24)
                replace h30 := rep_keep hk245 (rep_new nl241 h30)
                replace h36 := rep_keep hk245 (rep_new nl241 h36)
                replace h42 := rep_keep hk245 (rep_new nl241 h42)
                replace h48 := rep_keep hk245 (rep_new nl241 h48)
                replace h80 := rep_keep hk245 (rep_new nl241 h80)
                replace h110 := rep_keep hk245 (rep_new nl241 h110)
                replace h113 := rep_keep hk245 (rep_new nl241 h113)
                replace h118 := rep_keep hk245 (rep_new nl241 h118)
                replace h122 := rep_keep hk245 (rep_new nl241 h122)
                replace h129 := rep_keep hk245 (rep_new nl241 h129)
                replace h134 := rep_keep hk245 (rep_new nl241 h134)
                replace h139 := rep_keep hk245 (rep_new nl241 h139)
                replace h143 := rep_keep hk245 (rep_new nl241 h143)
                replace h150 := rep_keep hk245 (rep_new nl241 h150)
                replace h156 := rep_keep hk245 (rep_new nl241 h156)
                replace hk168 := Keep.trans (Keep.new hk168) hk245
                replace h169 := rep_keep hk245 (rep_new nl241 h169)
                replace h181 := rep_keep hk245 (rep_new nl241 h181)
                replace h185 := rep_keep hk245 (rep_new nl241 h185)
                replace hk196 := Keep.trans (Keep.new hk196) hk245
                replace h197 := rep_keep hk245 (rep_new nl241 h197)
                replace h213 := rep_keep hk245 (rep_new nl241 h213)
                replace h216 := rep_keep hk245 (rep_new nl241 h216)
                replace h231 := rep_keep hk245 (rep_new nl241 h231)
                replace h236 := rep_keep hk245 (rep_new nl241 h236)
                clear hk245 ln247
                have h266 := mo_rep_dr dr_here nm255 mu246
                replace hW := wd_dr dr_here mu246.hp hW
                replace h4 := rep_dr dr_here h4
                replace h10 := rep_dr dr_here h10
                replace h20 := rep_dr dr_here h20
                replace h24 := rep_dr dr_here h24
                replace h30 := rep_dr dr_here h30
                replace h36 := rep_dr dr_here h36
                replace h42 := rep_dr dr_here h42
                replace h48 := rep_dr dr_here h48
                replace h80 := rep_dr dr_here h80
                replace h110 := rep_dr dr_here h110
                replace h113 := rep_dr dr_here h113
                replace h118 := rep_dr dr_here h118
                replace h122 := rep_dr dr_here h122
                replace h129 := rep_dr dr_here h129
                replace h134 := rep_dr dr_here h134
                replace h139 := rep_dr dr_here h139
                replace h143 := rep_dr dr_here h143
                replace h150 := rep_dr dr_here h150
                replace h156 := rep_dr dr_here h156
                replace hk168 := keep_dr dr_here kn256 hk168
                replace h169 := rep_dr dr_here h169
                replace h181 := rep_dr dr_here h181
                replace h185 := rep_dr dr_here h185
                replace hk196 := keep_dr dr_here kn257 hk196
                replace h197 := rep_dr dr_here h197
                replace h213 := rep_dr dr_here h213
                replace h216 := rep_dr dr_here h216
                replace h231 := rep_dr dr_here h231
                replace h236 := rep_dr dr_here h236
                clear mu246
                obtain ⟨g267, hM⟩ := hM
                apply rep_neD (d := (D.lst (r235.map (fun y_ : Bool => (D.v (V.bl y_)))))) (e := (D.lst (ys264.map (fun y_ : Bool => (D.v (V.bl y_)))))) h236 h266 g267.1 g267.2.1 g267.2.2.1 g267.2.2.2
                refine ⟨_, rfl, ?_⟩
                refine ite3 hM (fun hM => ?_) (fun hM => ?_)
                · skip
                  refine iteT ?_
                  exact hQ false _ _ hM hW.out rep_v
                · skip
                  refine ⟨_, rfl, ?_⟩
                  refine ⟨ms, _, x192.2, _, rfl, hW.enter0, h213, hM, fun r268 u271 H272 hM e270 h269 => ?_⟩
                  replace h4 := rep_ext e270 h4
                  replace h10 := rep_ext e270 h10
                  replace h20 := rep_ext e270 h20
                  replace h24 := rep_ext e270 h24
                  replace h30 := rep_ext e270 h30
                  replace h36 := rep_ext e270 h36
                  replace h42 := rep_ext e270 h42
                  replace h48 := rep_ext e270 h48
                  replace h80 := rep_ext e270 h80
                  replace h110 := rep_ext e270 h110
                  replace h113 := rep_ext e270 h113
                  replace h118 := rep_ext e270 h118
                  replace h122 := rep_ext e270 h122
                  replace h129 := rep_ext e270 h129
                  replace h134 := rep_ext e270 h134
                  replace h139 := rep_ext e270 h139
                  replace h143 := rep_ext e270 h143
                  replace h150 := rep_ext e270 h150
                  replace h156 := rep_ext e270 h156
                  replace hk168 := keep_ext e270 hk168
                  replace h169 := rep_ext e270 h169
                  replace h181 := rep_ext e270 h181
                  replace h185 := rep_ext e270 h185
                  replace hk196 := keep_ext e270 hk196
                  replace h197 := rep_ext e270 h197
                  replace h213 := rep_ext e270 h213
                  replace h216 := rep_ext e270 h216
                  replace h231 := rep_ext e270 h231
                  replace h236 := rep_ext e270 h236
                  replace h266 := rep_ext e270 h266
                  replace hW := hW.ret0 e270
                  refine ⟨_, rfl, ?_⟩
                  refine ⟨ms, x192.1, _, rfl, hW.enter0, hM, fun r273 u276 H277 hM e275 h274 => ?_⟩
                  replace h4 := rep_ext e275 h4
                  replace h10 := rep_ext e275 h10
                  replace h20 := rep_ext e275 h20
                  replace h24 := rep_ext e275 h24
                  replace h30 := rep_ext e275 h30
                  replace h36 := rep_ext e275 h36
                  replace h42 := rep_ext e275 h42
                  replace h48 := rep_ext e275 h48
                  replace h80 := rep_ext e275 h80
                  replace h110 := rep_ext e275 h110
                  replace h113 := rep_ext e275 h113
                  replace h118 := rep_ext e275 h118
                  replace h122 := rep_ext e275 h122
                  replace h129 := rep_ext e275 h129
                  replace h134 := rep_ext e275 h134
                  replace h139 := rep_ext e275 h139
                  replace h143 := rep_ext e275 h143
                  replace h150 := rep_ext e275 h150
                  replace h156 := rep_ext e275 h156
                  replace hk168 := keep_ext e275 hk168
                  replace h169 := rep_ext e275 h169
                  replace h181 := rep_ext e275 h181
                  replace h185 := rep_ext e275 h185
                  replace hk196 := keep_ext e275 hk196
                  replace h197 := rep_ext e275 h197
                  replace h213 := rep_ext e275 h213
                  replace h216 := rep_ext e275 h216
                  replace h231 := rep_ext e275 h231
                  replace h236 := rep_ext e275 h236
                  replace h266 := rep_ext e275 h266
                  replace h269 := rep_ext e275 h269
                  replace hW := hW.ret0 e275
                  obtain rfl := of_v h274
                  refine ⟨ms, r273, _, rfl, hW.enter0, hM, fun r278 u281 H282 hM e280 h279 => ?_⟩
                  replace h4 := rep_ext e280 h4
                  replace h10 := rep_ext e280 h10
                  replace h20 := rep_ext e280 h20
                  replace h24 := rep_ext e280 h24
                  replace h30 := rep_ext e280 h30
                  replace h36 := rep_ext e280 h36
                  replace h42 := rep_ext e280 h42
                  replace h48 := rep_ext e280 h48
                  replace h80 := rep_ext e280 h80
                  replace h110 := rep_ext e280 h110
                  replace h113 := rep_ext e280 h113
                  replace h118 := rep_ext e280 h118
                  replace h122 := rep_ext e280 h122
                  replace h129 := rep_ext e280 h129
                  replace h134 := rep_ext e280 h134
                  replace h139 := rep_ext e280 h139
                  replace h143 := rep_ext e280 h143
                  replace h150 := rep_ext e280 h150
                  replace h156 := rep_ext e280 h156
                  replace hk168 := keep_ext e280 hk168
                  replace h169 := rep_ext e280 h169
                  replace h181 := rep_ext e280 h181
                  replace h185 := rep_ext e280 h185
                  replace hk196 := keep_ext e280 hk196
                  replace h197 := rep_ext e280 h197
                  replace h213 := rep_ext e280 h213
                  replace h216 := rep_ext e280 h216
                  replace h231 := rep_ext e280 h231
                  replace h236 := rep_ext e280 h236
                  replace h266 := rep_ext e280 h266
                  replace h269 := rep_ext e280 h269
                  replace hW := hW.ret0 e280
                  obtain ⟨g283, hM⟩ := hM
                  apply rep_neD (d := (D.lst (r268.map (fun y_ : Bool => (D.v (V.bl y_)))))) (e := (D.lst (r278.map (fun y_ : Bool => (D.v (V.bl y_)))))) h269 h279 g283.1 g283.2.1 g283.2.2.1 g283.2.2.2
                  refine ⟨_, rfl, ?_⟩
                  refine ite3 hM (fun hM => ?_) (fun hM => ?_)
                  · skip
                    exact hQ false _ _ hM hW.out rep_v
                  · skip
                    exact hN199 () _ _ hM ⟨_, _, rfl, hW, hk196⟩
          · skip
            rintro s284 _ H288 hM ⟨w286, w287, rfl, hW, hk285⟩
            replace h4 := rep_keep hk285 h4
            replace h10 := rep_keep hk285 h10
            replace h20 := rep_keep hk285 h20
            replace h24 := rep_keep hk285 h24
            replace h30 := rep_keep hk285 h30
            replace h36 := rep_keep hk285 h36
            replace h42 := rep_keep hk285 h42
            replace h48 := rep_keep hk285 h48
            replace h80 := rep_keep hk285 h80
            replace h110 := rep_keep hk285 h110
            replace h113 := rep_keep hk285 h113
            replace h118 := rep_keep hk285 h118
            replace h122 := rep_keep hk285 h122
            replace h129 := rep_keep hk285 h129
            replace h134 := rep_keep hk285 h134
            replace h139 := rep_keep hk285 h139
            replace h143 := rep_keep hk285 h143
            replace h150 := rep_keep hk285 h150
            replace h156 := rep_keep hk285 h156
            replace hk168 := Keep.trans hk168 hk285
            replace h169 := rep_keep hk285 h169
            replace h181 := rep_keep hk285 h181
            replace h185 := rep_keep hk285 h185
            exact hN171 () _ _ hM ⟨_, _, _, _, rfl, hW, hk168⟩
        · skip
          rintro s289 _ H295 hM ⟨w291, w292, w293, w294, rfl, hW, hk290⟩
          replace h4 := rep_keep hk290 h4
          replace h10 := rep_keep hk290 h10
          replace h20 := rep_keep hk290 h20
          replace h24 := rep_keep hk290 h24
          replace h30 := rep_keep hk290 h30
          replace h36 := rep_keep hk290 h36
          replace h42 := rep_keep hk290 h42
          replace h48 := rep_keep hk290 h48
          replace h80 := rep_keep hk290 h80
          replace h110 := rep_keep hk290 h110
          replace h113 := rep_keep hk290 h113
          replace h118 := rep_keep hk290 h118
          replace h122 := rep_keep hk290 h122
          replace h129 := rep_keep hk290 h129
          replace h134 := rep_keep hk290 h134
          replace h139 := rep_keep hk290 h139
          replace h143 := rep_keep hk290 h143
          replace h150 := rep_keep hk290 h150
          replace h156 := rep_keep hk290 h156
          intro p296 n300
          have e298 := Rx.Ext.new (H := H295) (o := (exo p296 A.c_LeagueError none)) n300
          have hp301 : upd H295 p296 (exo p296 A.c_LeagueError none) p296 = some (exo p296 A.c_LeagueError none) := upd_same
          generalize upd H295 p296 (exo p296 A.c_LeagueError none) = H302 at e298 hp301 ⊢
          have h297 := rep_x0 hW n300 e298 hp301
          replace h4 := rep_ext e298 h4
          replace h10 := rep_ext e298 h10
          replace h20 := rep_ext e298 h20
          replace h24 := rep_ext e298 h24
          replace h30 := rep_ext e298 h30
          replace h36 := rep_ext e298 h36
          replace h42 := rep_ext e298 h42
          replace h48 := rep_ext e298 h48
          replace h80 := rep_ext e298 h80
          replace h110 := rep_ext e298 h110
          replace h113 := rep_ext e298 h113
          replace h118 := rep_ext e298 h118
          replace h122 := rep_ext e298 h122
          replace h129 := rep_ext e298 h129
          replace h134 := rep_ext e298 h134
          replace h139 := rep_ext e298 h139
          replace h143 := rep_ext e298 h143
          replace h150 := rep_ext e298 h150
          replace h156 := rep_ext e298 h156
          replace hW := hW.ret0 e298
          replace h297 : rep ms H302 (eX A ((30, []) : Nat × List D)) (.ref p296) := h297
          intro p303 n307
          have e305 := Rx.Ext.new (H := H302) (o := (exo p303 A.c_StateError none)) n307
          have hp308 : upd H302 p303 (exo p303 A.c_StateError none) p303 = some (exo p303 A.c_StateError none) := upd_same
          generalize upd H302 p303 (exo p303 A.c_StateError none) = H309 at e305 hp308 ⊢
          have h304 := rep_x0 hW n307 e305 hp308
          replace h4 := rep_ext e305 h4
          replace h10 := rep_ext e305 h10
          replace h20 := rep_ext e305 h20
          replace h24 := rep_ext e305 h24
          replace h30 := rep_ext e305 h30
          replace h36 := rep_ext e305 h36
          replace h42 := rep_ext e305 h42
          replace h48 := rep_ext e305 h48
          replace h80 := rep_ext e305 h80
          replace h110 := rep_ext e305 h110
          replace h113 := rep_ext e305 h113
          replace h118 := rep_ext e305 h118
          replace h122 := rep_ext e305 h122
          replace h129 := rep_ext e305 h129
          replace h134 := rep_ext e305 h134
          replace h139 := rep_ext e305 h139
          replace h143 := rep_ext e305 h143
          replace h150 := rep_ext e305 h150
          replace h156 := rep_ext e305 h156
          replace h297 := rep_ext e305 h297
          replace hW := hW.ret0 e305
          replace h304 : rep ms H309 (eX A ((31, []) : Nat × List D)) (.ref p303) := h304
          intro p310 n314
          have e312 := Rx.Ext.new (H := H309) (o := (exo p310 A.c_LimitError none)) n314
          have hp315 : upd H309 p310 (exo p310 A.c_LimitError none) p310 = some (exo p310 A.c_LimitError none) := upd_same
          generalize upd H309 p310 (exo p310 A.c_LimitError none) = H316 at e312 hp315 ⊢
          have h311 := rep_x0 hW n314 e312 hp315
          replace h4 := rep_ext e312 h4
          replace h10 := rep_ext e312 h10
          replace h20 := rep_ext e312 h20
          replace h24 := rep_ext e312 h24
          replace h30 := rep_ext e312 h30
          replace h36 := rep_ext e312 h36
          replace h42 := rep_ext e312 h42
          replace h48 := rep_ext e312 h48
          replace h80 := rep_ext e312 h80
          replace h110 := rep_ext e312 h110
          replace h113 := rep_ext e312 h113
          replace h118 := rep_ext e312 h118
          replace h122 := rep_ext e312 h122
          replace h129 := rep_ext e312 h129
          replace h134 := rep_ext e312 h134
          replace h139 := rep_ext e312 h139
          replace h143 := rep_ext e312 h143
          replace h150 := rep_ext e312 h150
          replace h156 := rep_ext e312 h156
          replace h297 := rep_ext e312 h297
          replace h304 := rep_ext e312 h304
          replace hW := hW.ret0 e312
          replace h311 : rep ms H316 (eX A ((32, []) : Nat × List D)) (.ref p310) := h311
          refine ⟨(by show 3 ≤ sizeLine; decide), ?_⟩
          intro p317 n321
          have e318 := Rx.Ext.new (H := H316) (o := (HO.lst [(V.ref p296), (V.ref p303), (V.ref p310)])) n321
          have hp319 : upd H316 p317 (HO.lst [(V.ref p296), (V.ref p303), (V.ref p310)]) p317 = some (HO.lst [(V.ref p296), (V.ref p303), (V.ref p310)]) := upd_same
          generalize upd H316 p317 (HO.lst [(V.ref p296), (V.ref p303), (V.ref p310)]) = H322 at e318 hp319 ⊢
          have h320 : rep ms H322 (D.lst (([((30, []) : Nat × List D), ((31, []) : Nat × List D), ((32, []) : Nat × List D)] : List (Nat × List D)).map (fun y_ : (Nat × List D) => (eX A y_)))) (.ref p317) := rep_lst_mk hW n321 e318 hp319 (repL_cons h297 (repL_cons h304 (repL_cons h311 repL_nil)))
          replace h4 := rep_ext e318 h4
          replace h10 := rep_ext e318 h10
          replace h20 := rep_ext e318 h20
          replace h24 := rep_ext e318 h24
          replace h30 := rep_ext e318 h30
          replace h36 := rep_ext e318 h36
          replace h42 := rep_ext e318 h42
          replace h48 := rep_ext e318 h48
          replace h80 := rep_ext e318 h80
          replace h110 := rep_ext e318 h110
          replace h113 := rep_ext e318 h113
          replace h118 := rep_ext e318 h118
          replace h122 := rep_ext e318 h122
          replace h129 := rep_ext e318 h129
          replace h134 := rep_ext e318 h134
          replace h139 := rep_ext e318 h139
          replace h143 := rep_ext e318 h143
          replace h150 := rep_ext e318 h150
          replace h156 := rep_ext e318 h156
          replace h297 := rep_ext e318 h297
          replace h304 := rep_ext e318 h304
          replace h311 := rep_ext e318 h311
          replace hW := hW.ret0 e318
          apply rep_iterE h320
          intro a323 xs324 _ an325 hp326 hl327
          refine for_enumG (S := Unit) (items := ([((30, []) : Nat × List D), ((31, []) : Nat × List D), ((32, []) : Nat × List D)] : List (Nat × List D))) (e := (fun y_ : (Nat × List D) => (eX A y_))) (ms := ms) (fun (s : Unit) σ_ h_ => ∃ (w_0 : Option V), ∃ (w_1 : Option V), σ_ = [some (V.ref ap), some (V.ref p45), some (V.ref L51), some (V.ref L81), w291, w292, w_0, w_1, none] ∧ Wd ms [(ap, none)] [] H_0 h_ ∧ Keep ms H322 h_) () an325 hp326 hl327 (fun _ _ _ z_ => by obtain ⟨_, _, _, _, q_⟩ := z_; exact q_) (fun _ _ _ z_ => by obtain ⟨_, _, _, w_, _⟩ := z_; exact w_.tr) hM ⟨_, _, rfl, hW, Keep.refl⟩ ?_ ?_
          · skip
            rintro x328 u329 s330 k331 _ H340 H339 ⟨w336, w337, rfl, hW, hk332⟩ ex338 h333 hM Nx334 hN335
            replace h4 := rep_keep hk332 h4
            replace h10 := rep_keep hk332 h10
            replace h20 := rep_keep hk332 h20
            replace h24 := rep_keep hk332 h24
            replace h30 := rep_keep hk332 h30
            replace h36 := rep_keep hk332 h36
            replace h42 := rep_keep hk332 h42
            replace h48 := rep_keep hk332 h48
            replace h80 := rep_keep hk332 h80
            replace h110 := rep_keep hk332 h110
            replace h113 := rep_keep hk332 h113
            replace h118 := rep_keep hk332 h118
            replace h122 := rep_keep hk332 h122
            replace h129 := rep_keep hk332 h129
            replace h134 := rep_keep hk332 h134
            replace h139 := rep_keep hk332 h139
            replace h143 := rep_keep hk332 h143
            replace h150 := rep_keep hk332 h150
            replace h156 := rep_keep hk332 h156
            replace h297 := rep_keep hk332 h297
            replace h304 := rep_keep hk332 h304
            replace h311 := rep_keep hk332 h311
            replace h320 := rep_keep hk332 h320
            replace h4 := rep_ext ex338 h4
            replace h10 := rep_ext ex338 h10
            replace h20 := rep_ext ex338 h20
            replace h24 := rep_ext ex338 h24
            replace h30 := rep_ext ex338 h30
            replace h36 := rep_ext ex338 h36
            replace h42 := rep_ext ex338 h42
            replace h48 := rep_ext ex338 h48
            replace h80 := rep_ext ex338 h80
            replace h110 := rep_ext ex338 h110
            replace h113 := rep_ext ex338 h113
            replace h118 := rep_ext ex338 h118
            replace h122 := rep_ext ex338 h122
            replace h129 := rep_ext ex338 h129
            replace h134 := rep_ext ex338 h134
            replace h139 := rep_ext ex338 h139
            replace h143 := rep_ext ex338 h143
            replace h150 := rep_ext ex338 h150
            replace h156 := rep_ext ex338 h156
            replace h297 := rep_ext ex338 h297
            replace h304 := rep_ext ex338 h304
            replace h311 := rep_ext ex338 h311
            replace h320 := rep_ext ex338 h320
            replace hk332 := keep_ext ex338 hk332
            replace hW := hW.ret0 ex338
            apply rep_gtup h333 rfl
            intro vs341 hv342
            obtain ⟨u343, us344, rfl, h345, hv346⟩ := repL_uncons hv342
            obtain rfl := of_v h345
            obtain ⟨u347, us348, rfl, h349, hv350⟩ := repL_uncons hv346
            obtain rfl := repL_empty hv350
            refine ⟨_, _, rfl, ?_⟩
            refine ⟨_, _, rfl, ?_⟩
            refine ⟨rfl, ?_⟩
            refine ⟨_, rfl, ?_⟩
            refine ⟨ms, _, x328.2, _, rfl, hW.enter0, h349, hM, fun r351 u354 H355 hM e353 h352 => ?_⟩
            replace h4 := rep_ext e353 h4
            replace h10 := rep_ext e353 h10
            replace h20 := rep_ext e353 h20
            replace h24 := rep_ext e353 h24
            replace h30 := rep_ext e353 h30
            replace h36 := rep_ext e353 h36
            replace h42 := rep_ext e353 h42
            replace h48 := rep_ext e353 h48
            replace h80 := rep_ext e353 h80
            replace h110 := rep_ext e353 h110
            replace h113 := rep_ext e353 h113
            replace h118 := rep_ext e353 h118
            replace h122 := rep_ext e353 h122
            replace h129 := rep_ext e353 h129
            replace h134 := rep_ext e353 h134
            replace h139 := rep_ext e353 h139
            replace h143 := rep_ext e353 h143
            replace h150 := rep_ext e353 h150
            replace h156 := rep_ext e353 h156
            replace h297 := rep_ext e353 h297
            replace h304 := rep_ext e353 h304
            replace h311 := rep_ext e353 h311
            replace h320 := rep_ext e353 h320
            replace hk332 := keep_ext e353 hk332
            replace h333 := rep_ext e353 h333
            replace h349 := rep_ext e353 h349
            replace hW := hW.ret0 e353
            apply rep_inL (f := V.bl) (xs := r351) h352 rfl (fun _ => rfl)
            refine ⟨_, rfl, ?_⟩
            refine ite3 hM (fun hM => ?_) (fun hM => ?_)
            · skip
              refine iteT ?_
              exact hQ false _ _ hM hW.out rep_v
            · skip
              refine ⟨_, rfl, ?_⟩
              refine ⟨ms, _, x328.2, _, rfl, hW.enter0, h349, hM, fun r356 u359 H360 hM e358 h357 => ?_⟩
              replace h4 := rep_ext e358 h4
              replace h10 := rep_ext e358 h10
              replace h20 := rep_ext e358 h20
              replace h24 := rep_ext e358 h24
              replace h30 := rep_ext e358 h30
              replace h36 := rep_ext e358 h36
              replace h42 := rep_ext e358 h42
              replace h48 := rep_ext e358 h48
              replace h80 := rep_ext e358 h80
              replace h110 := rep_ext e358 h110
              replace h113 := rep_ext e358 h113
              replace h118 := rep_ext e358 h118
              replace h122 := rep_ext e358 h122
              replace h129 := rep_ext e358 h129
              replace h134 := rep_ext e358 h134
              replace h139 := rep_ext e358 h139
              replace h143 := rep_ext e358 h143
              replace h150 := rep_ext e358 h150
              replace h156 := rep_ext e358 h156
              replace h297 := rep_ext e358 h297
              replace h304 := rep_ext e358 h304
              replace h311 := rep_ext e358 h311
              replace h320 := rep_ext e358 h320
              replace hk332 := keep_ext e358 hk332
              replace h333 := rep_ext e358 h333
              replace h349 := rep_ext e358 h349
              replace h352 := rep_ext e358 h352
              replace hW := hW.ret0 e358
              refine ⟨_, rfl, ?_⟩
              refine ⟨ms, x328.1, _, rfl, hW.enter0, hM, fun r361 u364 H365 hM e363 h362 => ?_⟩
              replace h4 := rep_ext e363 h4
              replace h10 := rep_ext e363 h10
              replace h20 := rep_ext e363 h20
              replace h24 := rep_ext e363 h24
              replace h30 := rep_ext e363 h30
              replace h36 := rep_ext e363 h36
              replace h42 := rep_ext e363 h42
              replace h48 := rep_ext e363 h48
              replace h80 := rep_ext e363 h80
              replace h110 := rep_ext e363 h110
              replace h113 := rep_ext e363 h113
              replace h118 := rep_ext e363 h118
              replace h122 := rep_ext e363 h122
              replace h129 := rep_ext e363 h129
              replace h134 := rep_ext e363 h134
              replace h139 := rep_ext e363 h139
              replace h143 := rep_ext e363 h143
              replace h150 := rep_ext e363 h150
              replace h156 := rep_ext e363 h156
              replace h297 := rep_ext e363 h297
              replace h304 := rep_ext e363 h304
              replace h311 := rep_ext e363 h311
              replace h320 := rep_ext e363 h320
              replace hk332 := keep_ext e363 hk332
              replace h333 := rep_ext e363 h333
              replace h349 := rep_ext e363 h349
              replace h352 := rep_ext e363 h352
              replace h357 := rep_ext e363 h357
              replace hW := hW.ret0 e363
              obtain ⟨g366, hM⟩ := hM
              apply rep_neD (d := (D.lst (r356.map (fun y_ : Bool => (D.v (V.bl y_)))))) (e := (D.lst (r361.map (fun y_ : Bool => (D.v (V.bl y_)))))) h357 h362 g366.1 g366.2.1 g366.2.2.1 g366.2.2.2
              refine ⟨_, rfl, ?_⟩
              refine ite3 hM (fun hM => ?_) (fun hM => ?_)
              · skip
                exact hQ false _ _ hM hW.out rep_v
              · skip
                exact hN335 () _ _ hM ⟨_, _, rfl, hW, hk332⟩
          · skip
            rintro s367 _ H371 hM ⟨w369, w370, rfl, hW, hk368⟩
            replace h4 := rep_keep hk368 h4
            replace h10 := rep_keep hk368 h10
            replace h20 := rep_keep hk368 h20
            replace h24 := rep_keep hk368 h24
            replace h30 := rep_keep hk368 h30
            replace h36 := rep_keep hk368 h36
            replace h42 := rep_keep hk368 h42
            replace h48 := rep_keep hk368 h48
            replace h80 := rep_keep hk368 h80
            replace h110 := rep_keep hk368 h110
            replace h113 := rep_keep hk368 h113
            replace h118 := rep_keep hk368 h118
            replace h122 := rep_keep hk368 h122
            replace h129 := rep_keep hk368 h129
            replace h134 := rep_keep hk368 h134
            replace h139 := rep_keep hk368 h139
            replace h143 := rep_keep hk368 h143
            replace h150 := rep_keep hk368 h150
            replace h156 := rep_keep hk368 h156
            replace h297 := rep_keep hk368 h297
            replace h304 := rep_keep hk368 h304
            replace h311 := rep_keep hk368 h311
            replace h320 := rep_keep hk368 h320
            exact hQ true _ _ hM hW.out rep_v
/-! ### the pot of a cell, and the law -/
def sp_pot (K : PySem.W.Frag) : Sp := fun vs H Q _ => ∃ (a : Addr) (ns : List Int) (k : Int), vs = [.ref a, .int k] ∧ SqL K H a (ns.map V.int) ∧ ns.length ≤ 63 ∧ 0 ≤ k ∧ k ≤ 100 ∧
  ∀ (p : Addr) (H1 : Hp) (i j : Int), H p = none → Rx.Ext H H1 → H1 p = some (.lst [.int i, .int j]) → j.natAbs < 4294967296 → Q (.ref p) H1
theorem ok_pot {P : Program} {w : World} {K : PySem.W.Frag} {mg : Str → Option Value} {base : Heap} {A : Ad} (T : Txt w K mg A) : FnOk P w K mg base CX0 1 A.a_pot A.d_pot ["_law_script", "_law_k"] (sp_pot K) := by
  refine T.F_pot.ok sc_pot (fun vs H Q E h => ?_) (fun cdv A_ outer s_ H_0 vs Q E hr h => ?_)
  · obtain ⟨a, ns, k, rfl, _⟩ := h
    rfl
  · obtain ⟨a, ns, k, rfl, hS, hl, k0, k1, hQ⟩ := h
    refine ⟨_, pss_cons (ps_set (i := 2) sc_pot.nd rfl (.inl rfl) (pe_op op_add (pe_op op_mul pe_int (pv 1)) pe_int))
      (pss_cons (ps_if (pt_cmpR op_lt (pv 1) (pe_callB call_len (by rfl) T.z_len PySem.boot_len (pa_cons (pv 0) pa_nil)) (nomark _))
        (pss_one (ps_set (i := 2) sc_pot.nd rfl (.inl rfl) (pe_callB call_abs (by rfl) T.z_abs (by decide +kernel) (pa_cons (pe_ix ix_list (pv 0) (pv 1) (fun _ _ => rfl)) pa_nil)))) pss_nil)
      (pss_one (ps_ret (pe_lst (pa_cons (pe_callB (call_max2 rfl) (by rfl) T.z_max (by decide +kernel) (pa_cons pe_int (pa_cons (pe_op op_sub (pv 2) (pe_op op_pow pe_int pe_int)) pa_nil)))
        (pa_cons (pe_op op_add (pe_op op_mod (pe_op op_mul (pe_callTy call_int1 (by rfl) T.z_int (by decide +kernel) (pa_cons (pe_op op_add (pe_op op_mod (pe_callTy call_int1 (by rfl) T.z_int (by decide +kernel) (pa_cons (pv 2) pa_nil)) pe_int) pe_int) pa_nil))
          (pe_op op_pow (pe_op op_add (pe_op op_mul pe_int (pv 1)) pe_int) pe_int)) pe_int) pe_int) pa_nil)))))), ?_⟩
    refine ⟨_, rfl, _, _, rfl, rfl, .inl ⟨by decide, by decide⟩, _, _, rfl, rfl, ?_⟩
    refine ⟨_, rfl, _, rfl, _, ns.length, rfl, .inl ⟨_, hS, by rw [List.length_map]⟩, _, _, rfl, rfl, _, rfl, ?_⟩
    have fin : ∀ (c : Int) (p : Addr) (x y : Int), H_0 p = none → Q (.ref p) (upd H_0 p (.lst [.int x, .int (y % 2147483477 + 1)])) := fun c p x y np =>
      hQ p _ _ _ np (Rx.Ext.new np) upd_same (by omega)
    refine ite2 (fun c => ?_) (fun c => ?_)
    · have hk : k.toNat < ns.length := by
        have := of_decide_eq_true c
        omega
      refine ⟨_, rfl, _, rfl, a, _, k, .int (ns[k.toNat]), rfl, rfl, hS, at_of (j := k.toNat) (by omega) (by rw [List.getElem?_map, List.getElem?_eq_getElem hk]; rfl), _, rfl, ?_⟩
      refine ⟨_, rfl, _, _, rfl, rfl, ⟨by decide, by decide, by decide⟩, _, _, rfl, rfl, _, _, rfl, _, rfl, .inl ⟨_, rfl, _, _, rfl, rfl, (by show (0 : Int) < 2147483549; decide), _, _, rfl, rfl, .inl ⟨_, rfl, _, rfl, _, _, rfl, rfl, .inl ⟨by decide, by decide⟩, _, _, rfl, rfl, _, _, rfl, rfl, ⟨by decide, by decide, by show (2 * k + 5).natAbs < 2 ^ 64; omega⟩, _, _, rfl, rfl, ?_, _, _, rfl, rfl, (by show (0 : Int) < 2147483477; decide), _, _, rfl, rfl, (by show 2 ≤ sizeLine; decide), fun p np => fin 0 p _ _ np⟩⟩⟩
      exact .inl ⟨by omega, by omega⟩
    · refine ⟨_, rfl, _, _, rfl, rfl, ⟨by decide, by decide, by decide⟩, _, _, rfl, rfl, _, _, rfl, _, rfl, .inl ⟨_, rfl, _, _, rfl, rfl, (by show (0 : Int) < 2147483549; decide), _, _, rfl, rfl, .inl ⟨_, rfl, _, rfl, _, _, rfl, rfl, .inl ⟨by decide, by decide⟩, _, _, rfl, rfl, _, _, rfl, rfl, ⟨by decide, by decide, by show (2 * k + 5).natAbs < 2 ^ 64; omega⟩, _, _, rfl, rfl, ?_, _, _, rfl, rfl, (by show (0 : Int) < 2147483477; decide), _, _, rfl, rfl, (by show 2 ≤ sizeLine; decide), fun p np => fin 0 p _ _ np⟩⟩⟩
      exact .inl ⟨by omega, by omega⟩

open Wm
set_option exponentiation.threshold 20000
def argsX (k : Nat) (a b : D) : List D := if k < 24 then [a] else if k < 28 then [b, a] else []
def keptX (k : Nat) (a b : D) : List D := if k < 24 then [a] else if k < 28 then [a, b] else []
def allX (a b : D) : List (Nat × List D) := [(0, [a]), (1, [a]), (2, [a]), (3, [a]), (4, [a]), (5, [a]), (6, [a]), (7, [a]), (8, [a]), (9, [a]), (10, [a]), (11, [a]), (12, [a]), (13, [a]), (14, [a]), (15, [a]), (16, [a]), (17, [a]), (18, [a]), (19, [a]), (20, [a]), (21, [a]), (22, [a]), (23, [a]), (24, [b, a]), (25, [b, a]), (26, [b, a]), (27, [b, a]), (28, []), (29, [])]
theorem all_okX {a b : D} {K : List (Nat × List D) → Prop} (h : K (allX a b)) : M_all a b K := by
  unfold M_all
  refine ⟨by simp, by simp, by simp, by simp, by simp, ?_⟩
  exact h
theorem named_okX {a b : D} {K : List (Nat × List D) → Prop} (h : K (allX a b)) : M_named a b K := by
  unfold M_named
  have s : sizeLine = 16777216 := sizeLine_eq
  refine ⟨by simp, by simp, by simp, by simp, by simp, by simp, by simp, by rw [s]; simp, ?_⟩
  exact h
theorem zipX (a b : D) : (rangeI 0 ((allX a b).length : Int)).zip (allX a b) = (List.range 30).map (fun (k : Nat) => ((k : Int), (k, argsX k a b))) := rfl
theorem ifp {c : Bool} {P Q : Prop} (h : c = true) (p : P) : if c = true then P else Q := by rw [if_pos h]; exact p
theorem ifn {c : Bool} {P Q : Prop} (h : c = false) (q : Q) : if c = true then P else Q := by
  rw [if_neg (by rw [h]; decide)]
  exact q
theorem vI {k n : Nat} : decide (V.int (k : Int) = V.int (n : Int)) = decide (k = n) := by
  rw [eqI]
  by_cases h : k = n
  · simp [h]
  · simp [h]
    omega
theorem xn1 : ∀ k < 13, xN k = [("value" : Str)] := by decide +kernel
theorem xn2 : ∀ k < 21, 13 ≤ k → xN k = [("position" : Str)] := by decide +kernel
theorem xn3 : xN 21 = [("line" : Str)] ∧ xN 22 = [("position" : Str)] ∧ xN 23 = [("size" : Str)] ∧ xN 24 = [("other" : Str), "one"] ∧ xN 25 = [("away" : Str), "home"] ∧ xN 26 = [("away" : Str), "home"] ∧ xN 27 = [("limit" : Str), "what"] := by decide +kernel
theorem at1 {k : Nat} {f : Str} {a b : D} (h : xN k = [f]) (hk : k < 24) : xAt (k, argsX k a b) f = some a := by
  simp [xAt, h, argsX, hk]
theorem at2a {k : Nat} {f g : Str} {a b : D} (h : xN k = [g, f]) (ne : (f == g) = false) (h1 : 24 ≤ k) (h2 : k < 28) : xAt (k, argsX k a b) f = some a := by
  have n1 : ¬ k < 24 := by omega
  simp [xAt, h, argsX, n1, h2, List.lookup, ne]
theorem at2b {k : Nat} {f g : Str} {a b : D} (h : xN k = [g, f]) (h1 : 24 ≤ k) (h2 : k < 28) : xAt (k, argsX k a b) g = some b := by
  have n1 : ¬ k < 24 := by omega
  simp [xAt, h, argsX, n1, h2, List.lookup]
theorem kept1 {k : Nat} {a b : D} (h : k < 24) : keptX k a b = [a] := by simp [keptX, h]
theorem kept2 {k : Nat} {a b : D} (h : 24 ≤ k) (h2 : k < 28) : keptX k a b = [a, b] := by
  have n1 : ¬ k < 24 := by omega
  simp [keptX, n1, h2]
theorem kept_okX {k : Nat} (hk : k < 30) {a b : D} {K : List D → Prop} (h : K (keptX k a b)) : M_kept (k : Int) (k, argsX k a b) K := by
  unfold M_kept
  by_cases c1 : k < 13
  · refine ifp (by simp; omega) ⟨a, at1 (xn1 k c1) (by omega), ?_⟩
    rw [kept1 (by omega)] at h
    exact h
  refine ifn (by simp; omega) ?_
  by_cases c2 : k < 21
  · refine ifp (by simp; omega) ⟨a, at1 (xn2 k c2 (by omega)) (by omega), ?_⟩
    rw [kept1 (by omega)] at h
    exact h
  refine ifn (by simp; omega) ?_
  obtain ⟨x1, x2, x3, x4, x5, x6, x7⟩ := xn3
  by_cases c3 : k = 22
  · subst c3
    exact ifp (by decide) ⟨a, at1 x2 (by omega), h⟩
  refine ifn (by rw [show (22 : Int) = ((22 : Nat) : Int) from rfl, vI]; exact decide_eq_false c3) ?_
  by_cases c4 : k = 21
  · subst c4
    exact ifp (by decide) ⟨a, at1 x1 (by omega), h⟩
  refine ifn (by rw [show (21 : Int) = ((21 : Nat) : Int) from rfl, vI]; exact decide_eq_false c4) ?_
  by_cases c5 : k = 23
  · subst c5
    exact ifp (by decide) ⟨a, at1 x3 (by omega), h⟩
  refine ifn (by rw [show (23 : Int) = ((23 : Nat) : Int) from rfl, vI]; exact decide_eq_false c5) ?_
  by_cases c6 : k = 24
  · subst c6
    exact ifp (by decide) ⟨a, at2a (f := "one") (g := "other") x4 (by decide) (by omega) (by omega), b, at2b x4 (by omega) (by omega), h⟩
  refine ifn (by rw [show (24 : Int) = ((24 : Nat) : Int) from rfl, vI]; exact decide_eq_false c6) ?_
  by_cases c7 : k < 27
  · have hx : xN k = [("away" : Str), "home"] := by
      have : k = 25 ∨ k = 26 := by omega
      rcases this with rfl | rfl
      · exact x5
      · exact x6
    refine ifp (by simp; omega) ⟨a, at2a (f := "home") (g := "away") hx (by decide) (by omega) (by omega), b, at2b hx (by omega) (by omega), ?_⟩
    rw [kept2 (by omega) (by omega)] at h
    exact h
  refine ifn (by simp; omega) ⟨K, ?_, fun _ q => q⟩
  by_cases c8 : k = 27
  · subst c8
    exact ifp (by decide) ⟨a, at2a (f := "what") (g := "limit") x7 (by decide) (by omega) (by omega), b, at2b x7 (by omega) (by omega), h⟩
  refine ifn (by rw [show (27 : Int) = ((27 : Nat) : Int) from rfl, vI]; exact decide_eq_false c8) ?_
  have e : keptX k a b = [] := by
    have n1 : ¬ k < 24 := by omega
    have n2 : ¬ k < 28 := by omega
    simp [keptX, n1, n2]
  rw [e] at h
  exact h
def wX (k : Nat) : Int := if 27 < k then 0 else if 23 < k then 2 else 1
theorem width_okX {k : Nat} {K : Int → Prop} (h : K (wX k)) : M_width (k : Int) K := by
  unfold M_width
  unfold wX at h
  by_cases c1 : 27 < k
  · rw [if_pos c1] at h
    exact ifp (by simp; omega) h
  rw [if_neg c1] at h
  refine ifn (by simp; omega) ⟨K, ?_, fun _ q => q⟩
  by_cases c2 : 23 < k
  · rw [if_pos c2] at h
    exact ifp (by simp; omega) h
  · rw [if_neg c2] at h
    exact ifn (by simp; omega) h
theorem cut_keptX (k : Nat) (a b : D) : cutM [a, b] none (some (wX k)) = keptX k a b := by
  unfold wX keptX
  by_cases c1 : 27 < k
  · rw [if_pos c1, if_neg (by omega), if_neg (by omega)]
    rfl
  rw [if_neg c1]
  by_cases c2 : 23 < k
  · rw [if_pos c2, if_neg (by omega), if_pos (by omega)]
    rfl
  · rw [if_neg c2, if_pos (by omega)]
    rfl
def flagsX (k : Nat) : List Bool := [xtb_InvalidFirst.getD k true, xtb_InvalidNumber.getD k false, xtb_InvalidPlace.getD k false, xtb_InvalidMarks.getD k false, xtb_InvalidStep.getD k false, xtb_InvalidStander.getD k false, xtb_InvalidTurned.getD k false, xtb_InvalidSize.getD k false, xtb_InvalidTeam.getD k false, xtb_InvalidRound.getD k false, xtb_InvalidCount.getD k false, xtb_InvalidClaim.getD k false, xtb_InvalidCommand.getD k false, xtb_InvalidValues.getD k false, xtb_InvalidRows.getD k false, xtb_InvalidRounds.getD k false, xtb_InvalidCells.getD k false, xtb_InvalidLegs.getD k false, xtb_InvalidLot.getD k false, xtb_InvalidFixed.getD k false, xtb_InvalidGauge.getD k false, xtb_InvalidText.getD k false, xtb_CommandFailed.getD k false, xtb_NotRight.getD k false, xtb_NotSingle.getD k false, xtb_NotOpen.getD k false, xtb_Unplayed.getD k false, xtb_TooMany.getD k false, xtb_NoRound.getD k false, xtb_NothingToUndo.getD k false]
def groundsX (k : Nat) : List Bool := [xtb_LeagueError.getD k true, xtb_StateError.getD k false, xtb_LimitError.getD k false, xtb_ValueError.getD k true, xtb_RuntimeError.getD k false, xtb_ArithmeticError.getD k false, xtb_LookupError.getD k false, xtb_TypeError.getD k false, xtb_ZeroDivisionError.getD k false]
theorem flags_okX {k : Nat} {l : List D} {K : List Bool → Prop} (h : K (flagsX k)) : M_flags (k, l) K := by
  unfold M_flags
  refine ⟨by simp, by simp, by simp, by simp, by simp, by simp, by simp, by simp, by simp, ?_⟩
  exact h
theorem grounds_okX {k : Nat} {l : List D} {K : List Bool → Prop} (h : K (groundsX k)) : M_grounds (k, l) K := by
  unfold M_grounds
  have s : sizeLine = 16777216 := sizeLine_eq
  refine ⟨by simp, by rw [s]; simp, ?_⟩
  exact h
def groundX (k : Nat) : Int := if k < 22 then 0 else if k = 27 then 2 else 1
theorem ground_okX {k : Nat} {K : Int → Prop} (h : K (groundX k)) : M_ground (k : Int) K := by
  unfold M_ground
  unfold groundX at h
  by_cases c1 : k < 22
  · rw [if_pos c1] at h
    exact ifp (by simp; omega) h
  rw [if_neg c1] at h
  refine ifn (by simp; omega) ⟨K, ?_, fun _ q => q⟩
  by_cases c2 : k = 27
  · rw [if_pos c2] at h
    exact ifp (by rw [show (27 : Int) = ((27 : Nat) : Int) from rfl, vI]; exact decide_eq_true c2) h
  · rw [if_neg c2] at h
    exact ifn (by rw [show (27 : Int) = ((27 : Nat) : Int) from rfl, vI]; exact decide_eq_false c2) h
def dueX (g : Int) : List Bool := [decide (g = 0), decide (g = 1), decide (g = 2), decide (g = 0), decide (g = 1), decide (g = 2), false, false, false]
theorem due_okX {g : Int} {K : List Bool → Prop} (h : K (dueX g)) : M_due_grounds g K := by
  unfold M_due_grounds
  have s : sizeLine = 16777216 := sizeLine_eq
  refine ⟨by rw [rangeI_len]; decide, mapC_ok (fun x => decide (g = x)) (fun x _ k' q => by rw [eqI]; exact q) ?_⟩
  refine ⟨⟨by decide, by decide, by rw [s]; simp [rangeI]⟩, ⟨by decide, by decide, by rw [s]; simp⟩, by rw [s]; simp [rangeI], ?_⟩
  exact h
def nsX (n k : Nat) : List Bool := (rangeI 0 (n : Int)).map fun x => decide (x = (k : Int))
def eqB (a b : List Bool) : Bool := plainD (D.lst (a.map fun y_ : Bool => (D.v (V.bl y_)))) && plainD (D.lst (b.map fun y_ : Bool => (D.v (V.bl y_)))) && SeqAt.shaped (pyOf (D.lst (a.map fun y_ : Bool => (D.v (V.bl y_))))) && SeqAt.shaped (pyOf (D.lst (b.map fun y_ : Bool => (D.v (V.bl y_))))) && PyData.eqv (pyOf (D.lst (a.map fun y_ : Bool => (D.v (V.bl y_))))) (pyOf (D.lst (b.map fun y_ : Bool => (D.v (V.bl y_)))))
theorem eqB_ok {a b : List Bool} (h : eqB a b = true) {P Q : Prop} (q : Q) : ((plainD (D.lst (a.map fun y_ : Bool => (D.v (V.bl y_)))) = true ∧ plainD (D.lst (b.map fun y_ : Bool => (D.v (V.bl y_)))) = true ∧ SeqAt.shaped (pyOf (D.lst (a.map fun y_ : Bool => (D.v (V.bl y_))))) = true ∧ SeqAt.shaped (pyOf (D.lst (b.map fun y_ : Bool => (D.v (V.bl y_))))) = true) ∧
    (if (!(PyData.eqv (pyOf (D.lst (a.map fun y_ : Bool => (D.v (V.bl y_))))) (pyOf (D.lst (b.map fun y_ : Bool => (D.v (V.bl y_))))))) = true then P else Q)) := by
  simp only [eqB, Bool.and_eq_true] at h
  obtain ⟨⟨⟨⟨h1, h2⟩, h3⟩, h4⟩, h5⟩ := h
  exact ⟨⟨h1, h2, h3, h4⟩, ifn (by rw [h5]; rfl) q⟩
theorem fl_fin : ∀ k < 30, eqB (flagsX k) (nsX 30 k) = true := by decide +kernel
theorem gr_fin : ∀ k < 30, eqB (groundsX k) (dueX (groundX k)) = true := by decide +kernel
theorem fl_fin3 : ∀ j < 3, (flagsX (30 + j)).all (fun b => !b) = true := by decide +kernel
theorem gr_fin3 : ∀ j < 3, eqB (groundsX (30 + j)) (dueX (j : Int)) = true := by decide +kernel
def menuX : List D := [(D.v V.non), (D.v (V.int (0 : Int))), (D.v (V.int (1 : Int))), (D.v (V.bl true)), (D.v (V.str ("" : Str))), (D.v (V.str ("h" : Str))), (D.tup [(D.v (V.int ((1 : Int), (2 : Int)).1)), (D.v (V.int ((1 : Int), (2 : Int)).2))]), (D.lst (([("a" : Str)] : List Str).map (fun y_ : Str => (D.v (V.str y_))))), (D.dct [(Sum.inr ("b" : Str) : Key)] [(D.v (V.int (3 : Int)))]), (D.v (V.int (-((10 : Int) ^ Int.toNat (20 : Int))))), (D.tup [(D.v (V.str (("x" : Str), (3 : Int)).1)), (D.v (V.int (("x" : Str), (3 : Int)).2))]), (D.lst (([((0 : Int), (1 : Int)), ((0 : Int), (2 : Int))] : List (Int × Int)).map (fun y_ : (Int × Int) => (D.tup [(D.v (V.int y_.1)), (D.v (V.int y_.2))])))), (D.v (V.int ((10 : Int) ^ Int.toNat (29 : Int))))]
def okB (l : List D) : Bool := plainX (D.lst l) && (pyX (D.lst l)).showable && decide ((pyX (D.lst l)).depth ≤ 60) && decide ((pyX (D.lst l)).shown.length ≤ 16777216)
theorem menu_fin : (menuX.all fun a => menuX.all fun b => okB [a, b] && okB [a] && okB []) = true := by decide +kernel
theorem okB_ok {l : List D} (h : okB l = true) : plainX (D.lst (l.map (fun y_ : D => y_))) = true ∧ (pyX (D.lst (l.map (fun y_ : D => y_)))).showable = true ∧ (pyX (D.lst (l.map (fun y_ : D => y_)))).depth ≤ 60 ∧ (pyX (D.lst (l.map (fun y_ : D => y_)))).shown.length ≤ sizeLine := by
  rw [show (l.map fun y_ : D => y_) = l from List.map_id l, sizeLine_eq]
  simp only [okB, Bool.and_eq_true, decide_eq_true_eq] at h
  obtain ⟨⟨⟨h1, h2⟩, h3⟩, h4⟩ := h
  exact ⟨h1, h2, h3, h4⟩
theorem kept_fin {a b : D} (ha : a ∈ menuX) (hb : b ∈ menuX) (k : Nat) : okB (keptX k a b) = true := by
  have h := List.all_eq_true.mp (List.all_eq_true.mp menu_fin a ha) b hb
  simp only [Bool.and_eq_true] at h
  obtain ⟨⟨h1, h2⟩, h3⟩ := h
  unfold keptX
  by_cases c1 : k < 24
  · rw [if_pos c1]; exact h2
  rw [if_neg c1]
  by_cases c2 : k < 28
  · rw [if_pos c2]; exact h1
  · rw [if_neg c2]; exact h3
theorem two_of {α : Type} {ys : List α} {n : Nat} (h : ys.length = n) (hn : n = 2) : ∃ a b, ys = [a, b] := by
  subst hn
  match ys, h with
  | [a, b], _ => exact ⟨a, b, rfl⟩
theorem pick_okX {k' : D → Prop} (h : ∀ y, y ∈ menuX → k' y) : M_pick menuX fun r => k' r := by
  unfold M_pick M_draw
  refine ⟨⟨by decide, by decide⟩, fun d d0 d1 => ⟨d0, by omega, fun x e => h x (by rw [e]; exact List.getElem_mem _)⟩⟩
theorem zip3 : (rangeI 0 (([((30, []) : Nat × List D), ((31, []) : Nat × List D), ((32, []) : Nat × List D)] : List (Nat × List D)).length : Int)).zip ([((30, []) : Nat × List D), ((31, []) : Nat × List D), ((32, []) : Nat × List D)] : List (Nat × List D)) = (List.range 3).map (fun (j : Nat) => ((j : Int), ((30 + j, []) : Nat × List D))) := rfl
theorem right_true : M_right fun r => r = true := by
  unfold M_right
  have l2 : (rangeI 0 2).length = 2 := by rw [rangeI_len]; rfl
  refine ⟨by rw [rangeI_len]; decide, mapC_any (fun d => d ∈ menuX) (fun x _ k' hk => pick_okX hk) fun ys hl hp => ?_⟩
  obtain ⟨a, b, rfl⟩ := two_of hl l2
  refine ⟨by rw [rangeI_len]; decide, mapC_any (fun d => d ∈ menuX) (fun x _ k' hk => pick_okX hk) fun ys hl2 hp2 => ?_⟩
  obtain ⟨c, d, rfl⟩ := two_of hl2 l2
  simp only [List.nil_append]
  refine ⟨by decide, by simp, fun a' ea => ⟨by decide, by simp, fun b' eb => ?_⟩⟩
  obtain rfl : a' = a := ea
  obtain rfl : b' = b := eb
  refine all_okX ?_
  refine ⟨by decide, by simp, fun c' ec => ⟨by decide, by simp, fun d' ed => ?_⟩⟩
  obtain rfl : c' = c := ec
  obtain rfl : d' = d := ed
  refine named_okX ?_
  refine forC_ok (fun _ => True) (fun x hx s k' _ hk => ?_) trivial fun s _ => ?_
  · obtain ⟨a, b, ha, hb, rfl⟩ : ∃ a b : D, a ∈ menuX ∧ b ∈ menuX ∧ x = (allX a b, [a, b]) := by
      rcases List.mem_cons.mp hx with rfl | hx
      · exact ⟨_, _, hp _ (by simp), hp _ (by simp), rfl⟩
      · rcases List.mem_cons.mp hx with rfl | hx
        · exact ⟨_, _, hp2 _ (by simp), hp2 _ (by simp), rfl⟩
        · cases hx
    dsimp only
    refine forC_ok (fun _ => True) (fun y hy s2 k2 _ hk2 => ?_) trivial fun s2 _ => hk () trivial
    rw [zipX] at hy
    obtain ⟨k, hkm, rfl⟩ := List.mem_map.mp hy
    have h30 : k < 30 := List.mem_range.mp hkm
    dsimp only
    refine kept_okX h30 ⟨okB_ok (kept_fin ha hb k), width_okX ?_⟩
    rw [cut_keptX]
    refine ⟨okB_ok (kept_fin ha hb k), ifn (by simp) (flags_okX ⟨by rw [rangeI_len]; decide, mapC_ok (fun x => decide (x = (k : Int))) (fun x _ k' q => by rw [eqI]; exact q) ?_⟩)⟩
    refine eqB_ok (fl_fin k h30) (grounds_okX (ground_okX (due_okX (eqB_ok (gr_fin k h30) (hk2 () trivial)))))
  · refine forC_ok (fun _ => True) (fun y hy s2 k2 _ hk2 => ?_) trivial fun s2 _ => trivial
    rw [zip3] at hy
    obtain ⟨j, hj, rfl⟩ := List.mem_map.mp hy
    have h3 : j < 3 := List.mem_range.mp hj
    dsimp only
    refine flags_okX (ifn ?_ (grounds_okX (due_okX (eqB_ok (gr_fin3 j h3) (hk2 () trivial)))))
    have h := List.all_eq_true.mp (fl_fin3 j h3)
    unfold inV
    apply Bool.eq_false_iff.mpr
    intro z
    simp at z
    rcases z with ⟨_, z⟩ | ⟨z, _⟩
    · exact absurd z (by decide)
    · have := h true z
      cases this

def sp_law (K : PySem.W.Frag) : Sp := fun vs H Q _ => ∃ (a : Addr) (ns : List Int), vs = [.ref a] ∧ SqL K H a (ns.map V.int) ∧ ns.length ≤ 63 ∧ ∀ H1 : Hp, Q (.bl true) H1
theorem law_enter {K : PySem.W.Frag} {H : Hp} {a : Addr} {ns : List Int} (hl : ns.length ≤ 63) (_ : Only H) (hS : SqL K H a (ns.map V.int)) : sp_law K [.ref a] H (fun v _ => v = .bl true) fun _ _ _ => False := ⟨a, ns, rfl, hS, hl, fun _ => rfl⟩
theorem sq_keep {K : PySem.W.Frag} {H H1 : Hp} {a : Addr} {xs : List V} (k : ∀ b o, H b = some o → H1 b = some o) (h : SqL K H a xs) : SqL K H1 a xs := by
  rcases h with (h | ⟨o, h⟩) | h
  · exact .inl (.inl (k _ _ h))
  · exact .inl (.inr ⟨o, k _ _ h⟩)
  · exact .inr h
theorem ok_law {P : Program} {w : World} {K : PySem.W.Frag} {mg : Str → Option Value} {base : Heap} {A : Ad} (T : Txt w K mg A) : FnG P w K mg base 5 A.a_law A.d_law ["_law_script"] (sp_law K) := by
  refine okG T.F_law sc_law (fun vs H Q E h => ?_) (fun cdv A_ outer s_ H_0 vs Q E gu hr h => ?_)
  · obtain ⟨a, ns, rfl, _⟩ := h
    rfl
  · obtain ⟨a, ns, rfl, hS, hl, hQ⟩ := h
    refine ⟨_, pss_one (ps_ret (pe_callB (cr_all rfl) (by rfl) T.z_all (by decide +kernel) (pa_cons (pe_lc (own := [("_law_k", 1)]) (g := gName 1) rfl sc_law.nd
      (pi_range1 (by rfl) T.z_range (pa_cons (pe_callB (call_max2 rfl) (by rfl) T.z_max (by decide +kernel) (pa_cons pe_int (pa_cons (pe_callB (call_min2 rfl) (by rfl) T.z_min (by decide +kernel) (pa_cons (pe_callB call_len (by rfl) T.z_len PySem.boot_len (pa_cons (pv 0) pa_nil)) (pa_cons pe_int pa_nil))) pa_nil))) pa_nil))
      (blkOk_by (N := ["_law_script", "_law_k"]) (sc := defScope s_law) (by decide +kernel)) (fun _ _ _ _ _ => pg_name (i := 1) sc_law.nd rfl (by first | exact Or.inl rfl | exact Or.inr rfl)) (fun _ _ _ _ _ => pts_nil)
      (fun _ _ _ _ _ => pe_callG (ok_right T) gu (hr.mono (by decide)) (by rfl) T.g_right T.F_right.kp T.b_right (pa_cons (pe_call (ok_pot T) (hr.mono (by decide)) (by rfl) T.g_pot T.F_pot.kp T.b_pot .nil pass0 (pa_cons (pv 0) (pa_cons (pv 1) pa_nil))) pa_nil))) pa_nil))), ?_⟩
    refine ⟨_, rfl, _, ns.length, rfl, .inl ⟨_, hS, by rw [List.length_map]⟩, _, _, rfl, _, _, rfl, _, rfl, ?_, ?_, fun L nl => ?_⟩
    · split <;> split <;> omega
    · split <;> split <;> omega
    have hsq : ∀ H : Hp, (∀ o, H_0 a = some o → H a = some o) → SqL K H a (ns.map V.int) := fun H k => by
      rcases hS with (h | ⟨o, h⟩) | h
      · exact .inl (.inl (k _ h))
      · exact .inl (.inr ⟨o, k _ h⟩)
      · exact .inr h
    refine lc_range (lo := 0) (fun i H => (∀ o, H_0 a = some o → H a = some o) ∧ ∃ n, n ≤ i ∧ H L = some (.lst (List.replicate n (.bl true)))) ⟨fun o h => (Rx.Ext.new nl).keep h, 0, Nat.le_refl _, upd_same⟩ (fun i H hi ⟨hS1, n, hn, hL⟩ => ?_) (fun H ⟨hS1, n, hn, hL⟩ => ?_)
    · refine ⟨rfl, ?_⟩
      refine tyes_of ?_
      have hi4 : i < 64 := by
        refine Nat.lt_of_lt_of_le hi ?_
        split <;> split <;> omega
      refine ⟨_, rfl, _, rfl, a, ns, 0 + (i : Int), rfl, hsq H hS1, hl, by omega, by omega, fun p H1 i1 j1 np e1 hp hj => ?_⟩
      refine ⟨[p], p, fun r => r = true, rfl, ⟨fun _ _ _ h => h, fun _ h => h, fun m hm => ?_, fun b hb => ?_, fun b hb => hb, fun c hc => absurd hc List.not_mem_nil⟩, right_true, fun r u H2 hr2 e2 hu => ?_⟩
      · rw [List.mem_singleton.mp hm, hp]
        exact fun z => nomatch z
      · rw [List.mem_singleton.mp hb]
        exact (⟨i1, j1, hp, hj⟩ : PotH _ _)
      · obtain rfl := of_v hu
        have e3 : ∀ b o, H b = some o → H2 b = some o := fun b o h => e2.kp b o (fun z => by
          rw [(List.mem_singleton.mp z : b = p), np] at h
          cases h) (e1.keep h)
        refine ⟨_, e3 _ _ hL, ?_, fun o h => ?_, n + 1, Nat.succ_le_succ hn, by rw [upd_same, hr2, List.replicate_succ']⟩
        · rw [List.length_replicate]
          exact Nat.lt_of_le_of_lt (show n ≤ 64 by omega) (by decide)
        · rw [upd_ne (ne_of_none h nl)]
          exact e3 _ _ (hS1 _ h)
    · refine ⟨L, List.replicate n true, rfl, .inl (.inl (by rw [List.map_replicate]; exact hL)), ?_⟩
      have : (List.replicate n true).all id = true := by
        rw [List.all_eq_true]
        intro x hx
        rw [(List.mem_replicate.mp hx).2]
        rfl
      rw [this]
      exact hQ _

def hdB (K : PySem.W.Frag) (C : Addr) : Bool := (PySem.W.clsIn K C).any (fun cd => cd.hasDict)
theorem all_mk {l : PySem.W.OpenLaw} {w : World} {K : PySem.W.Frag} {h : Heap} {mg : Str → Option Value} {fa Adraw Apick Aall Anamed Akept Awidth Aflags Agrounds Aground Adue_grounds Aright Apot Alaw ACommandFailed_init AInvalidCells_init AInvalidClaim_init AInvalidCommand_init AInvalidCount_init AInvalidFirst_init AInvalidFixed_init AInvalidGauge_init AInvalidLegs_init AInvalidLot_init AInvalidMarks_init AInvalidNumber_init AInvalidPlace_init AInvalidRound_init AInvalidRounds_init AInvalidRows_init AInvalidSize_init AInvalidStander_init AInvalidStep_init AInvalidTeam_init AInvalidText_init AInvalidTurned_init AInvalidValues_init ANoRound_init ANotOpen_init ANotRight_init ANotSingle_init ANothingToUndo_init ATooMany_init AUnplayed_init CCommandFailed CInvalidCells CInvalidClaim CInvalidCommand CInvalidCount CInvalidFirst CInvalidFixed CInvalidGauge CInvalidLegs CInvalidLot CInvalidMarks CInvalidNumber CInvalidPlace CInvalidRound CInvalidRounds CInvalidRows CInvalidSize CInvalidStander CInvalidStep CInvalidTeam CInvalidText CInvalidTurned CInvalidValues CLeagueError CLimitError CNoRound CNotOpen CNotRight CNotSingle CNothingToUndo CStateError CTooMany CUnplayed : Addr} (X : K.In h) (G : h.Ns mainGlobals mg) (hfa : mg "law" = some (.ref fa))
    {oddraw andraw : Option Addr} {sldraw : Array (Option Value)} {ocdraw kVdraw dcdraw pmdraw cddraw ctdraw : Value}
    {odpick anpick : Option Addr} {slpick : Array (Option Value)} {ocpick kVpick dcpick pmpick cdpick ctpick : Value}
    {odall anall : Option Addr} {slall : Array (Option Value)} {ocall kVall dcall pmall cdall ctall : Value}
    {odnamed annamed : Option Addr} {slnamed : Array (Option Value)} {ocnamed kVnamed dcnamed pmnamed cdnamed ctnamed : Value}
    {odkept ankept : Option Addr} {slkept : Array (Option Value)} {ockept kVkept dckept pmkept cdkept ctkept : Value}
    {odwidth anwidth : Option Addr} {slwidth : Array (Option Value)} {ocwidth kVwidth dcwidth pmwidth cdwidth ctwidth : Value}
    {odflags anflags : Option Addr} {slflags : Array (Option Value)} {ocflags kVflags dcflags pmflags cdflags ctflags : Value}
    {odgrounds angrounds : Option Addr} {slgrounds : Array (Option Value)} {ocgrounds kVgrounds dcgrounds pmgrounds cdgrounds ctgrounds : Value}
    {odground anground : Option Addr} {slground : Array (Option Value)} {ocground kVground dcground pmground cdground ctground : Value}
    {oddue_grounds andue_grounds : Option Addr} {sldue_grounds : Array (Option Value)} {ocdue_grounds kVdue_grounds dcdue_grounds pmdue_grounds cddue_grounds ctdue_grounds : Value}
    {odright anright : Option Addr} {slright : Array (Option Value)} {ocright kVright dcright pmright cdright ctright : Value}
    {odpot anpot : Option Addr} {slpot : Array (Option Value)} {ocpot kVpot dcpot pmpot cdpot ctpot : Value}
    {odlaw anlaw : Option Addr} {sllaw : Array (Option Value)} {oclaw kVlaw dclaw pmlaw cdlaw ctlaw : Value}
    {odCommandFailed_init anCommandFailed_init : Option Addr} {slCommandFailed_init : Array (Option Value)} {ocCommandFailed_init kVCommandFailed_init dcCommandFailed_init pmCommandFailed_init cdCommandFailed_init ctCommandFailed_init : Value}
    {odInvalidCells_init anInvalidCells_init : Option Addr} {slInvalidCells_init : Array (Option Value)} {ocInvalidCells_init kVInvalidCells_init dcInvalidCells_init pmInvalidCells_init cdInvalidCells_init ctInvalidCells_init : Value}
    {odInvalidClaim_init anInvalidClaim_init : Option Addr} {slInvalidClaim_init : Array (Option Value)} {ocInvalidClaim_init kVInvalidClaim_init dcInvalidClaim_init pmInvalidClaim_init cdInvalidClaim_init ctInvalidClaim_init : Value}
    {odInvalidCommand_init anInvalidCommand_init : Option Addr} {slInvalidCommand_init : Array (Option Value)} {ocInvalidCommand_init kVInvalidCommand_init dcInvalidCommand_init pmInvalidCommand_init cdInvalidCommand_init ctInvalidCommand_init : Value}
    {odInvalidCount_init anInvalidCount_init : Option Addr} {slInvalidCount_init : Array (Option Value)} {ocInvalidCount_init kVInvalidCount_init dcInvalidCount_init pmInvalidCount_init cdInvalidCount_init ctInvalidCount_init : Value}
    {odInvalidFirst_init anInvalidFirst_init : Option Addr} {slInvalidFirst_init : Array (Option Value)} {ocInvalidFirst_init kVInvalidFirst_init dcInvalidFirst_init pmInvalidFirst_init cdInvalidFirst_init ctInvalidFirst_init : Value}
    {odInvalidFixed_init anInvalidFixed_init : Option Addr} {slInvalidFixed_init : Array (Option Value)} {ocInvalidFixed_init kVInvalidFixed_init dcInvalidFixed_init pmInvalidFixed_init cdInvalidFixed_init ctInvalidFixed_init : Value}
    {odInvalidGauge_init anInvalidGauge_init : Option Addr} {slInvalidGauge_init : Array (Option Value)} {ocInvalidGauge_init kVInvalidGauge_init dcInvalidGauge_init pmInvalidGauge_init cdInvalidGauge_init ctInvalidGauge_init : Value}
    {odInvalidLegs_init anInvalidLegs_init : Option Addr} {slInvalidLegs_init : Array (Option Value)} {ocInvalidLegs_init kVInvalidLegs_init dcInvalidLegs_init pmInvalidLegs_init cdInvalidLegs_init ctInvalidLegs_init : Value}
    {odInvalidLot_init anInvalidLot_init : Option Addr} {slInvalidLot_init : Array (Option Value)} {ocInvalidLot_init kVInvalidLot_init dcInvalidLot_init pmInvalidLot_init cdInvalidLot_init ctInvalidLot_init : Value}
    {odInvalidMarks_init anInvalidMarks_init : Option Addr} {slInvalidMarks_init : Array (Option Value)} {ocInvalidMarks_init kVInvalidMarks_init dcInvalidMarks_init pmInvalidMarks_init cdInvalidMarks_init ctInvalidMarks_init : Value}
    {odInvalidNumber_init anInvalidNumber_init : Option Addr} {slInvalidNumber_init : Array (Option Value)} {ocInvalidNumber_init kVInvalidNumber_init dcInvalidNumber_init pmInvalidNumber_init cdInvalidNumber_init ctInvalidNumber_init : Value}
    {odInvalidPlace_init anInvalidPlace_init : Option Addr} {slInvalidPlace_init : Array (Option Value)} {ocInvalidPlace_init kVInvalidPlace_init dcInvalidPlace_init pmInvalidPlace_init cdInvalidPlace_init ctInvalidPlace_init : Value}
    {odInvalidRound_init anInvalidRound_init : Option Addr} {slInvalidRound_init : Array (Option Value)} {ocInvalidRound_init kVInvalidRound_init dcInvalidRound_init pmInvalidRound_init cdInvalidRound_init ctInvalidRound_init : Value}
    {odInvalidRounds_init anInvalidRounds_init : Option Addr} {slInvalidRounds_init : Array (Option Value)} {ocInvalidRounds_init kVInvalidRounds_init dcInvalidRounds_init pmInvalidRounds_init cdInvalidRounds_init ctInvalidRounds_init : Value}
    {odInvalidRows_init anInvalidRows_init : Option Addr} {slInvalidRows_init : Array (Option Value)} {ocInvalidRows_init kVInvalidRows_init dcInvalidRows_init pmInvalidRows_init cdInvalidRows_init ctInvalidRows_init : Value}
    {odInvalidSize_init anInvalidSize_init : Option Addr} {slInvalidSize_init : Array (Option Value)} {ocInvalidSize_init kVInvalidSize_init dcInvalidSize_init pmInvalidSize_init cdInvalidSize_init ctInvalidSize_init : Value}
    {odInvalidStander_init anInvalidStander_init : Option Addr} {slInvalidStander_init : Array (Option Value)} {ocInvalidStander_init kVInvalidStander_init dcInvalidStander_init pmInvalidStander_init cdInvalidStander_init ctInvalidStander_init : Value}
    {odInvalidStep_init anInvalidStep_init : Option Addr} {slInvalidStep_init : Array (Option Value)} {ocInvalidStep_init kVInvalidStep_init dcInvalidStep_init pmInvalidStep_init cdInvalidStep_init ctInvalidStep_init : Value}
    {odInvalidTeam_init anInvalidTeam_init : Option Addr} {slInvalidTeam_init : Array (Option Value)} {ocInvalidTeam_init kVInvalidTeam_init dcInvalidTeam_init pmInvalidTeam_init cdInvalidTeam_init ctInvalidTeam_init : Value}
    {odInvalidText_init anInvalidText_init : Option Addr} {slInvalidText_init : Array (Option Value)} {ocInvalidText_init kVInvalidText_init dcInvalidText_init pmInvalidText_init cdInvalidText_init ctInvalidText_init : Value}
    {odInvalidTurned_init anInvalidTurned_init : Option Addr} {slInvalidTurned_init : Array (Option Value)} {ocInvalidTurned_init kVInvalidTurned_init dcInvalidTurned_init pmInvalidTurned_init cdInvalidTurned_init ctInvalidTurned_init : Value}
    {odInvalidValues_init anInvalidValues_init : Option Addr} {slInvalidValues_init : Array (Option Value)} {ocInvalidValues_init kVInvalidValues_init dcInvalidValues_init pmInvalidValues_init cdInvalidValues_init ctInvalidValues_init : Value}
    {odNoRound_init anNoRound_init : Option Addr} {slNoRound_init : Array (Option Value)} {ocNoRound_init kVNoRound_init dcNoRound_init pmNoRound_init cdNoRound_init ctNoRound_init : Value}
    {odNotOpen_init anNotOpen_init : Option Addr} {slNotOpen_init : Array (Option Value)} {ocNotOpen_init kVNotOpen_init dcNotOpen_init pmNotOpen_init cdNotOpen_init ctNotOpen_init : Value}
    {odNotRight_init anNotRight_init : Option Addr} {slNotRight_init : Array (Option Value)} {ocNotRight_init kVNotRight_init dcNotRight_init pmNotRight_init cdNotRight_init ctNotRight_init : Value}
    {odNotSingle_init anNotSingle_init : Option Addr} {slNotSingle_init : Array (Option Value)} {ocNotSingle_init kVNotSingle_init dcNotSingle_init pmNotSingle_init cdNotSingle_init ctNotSingle_init : Value}
    {odNothingToUndo_init anNothingToUndo_init : Option Addr} {slNothingToUndo_init : Array (Option Value)} {ocNothingToUndo_init kVNothingToUndo_init dcNothingToUndo_init pmNothingToUndo_init cdNothingToUndo_init ctNothingToUndo_init : Value}
    {odTooMany_init anTooMany_init : Option Addr} {slTooMany_init : Array (Option Value)} {ocTooMany_init kVTooMany_init dcTooMany_init pmTooMany_init cdTooMany_init ctTooMany_init : Value}
    {odUnplayed_init anUnplayed_init : Option Addr} {slUnplayed_init : Array (Option Value)} {ocUnplayed_init kVUnplayed_init dcUnplayed_init pmUnplayed_init cdUnplayed_init ctUnplayed_init : Value}
    (a_draw : PySem.W.nsIn K mainGlobals "_law_draw" = some (some (.ref Adraw)))
    (l_draw : K.lookup Adraw = some ⟨ocdraw, oddraw, .func (PySem.W.fnOf "_law_draw" "_law_draw" (defArgs s_draw) (defBody s_draw) (defScope s_draw) .none kVdraw dcdraw pmdraw andraw cddraw ctdraw), sldraw⟩)
    (o_draw : PySem.W.codeIn K cddraw "_law_draw" = true)
    (k_draw : PySem.W.keepIn K (.ref Adraw) = true)
    (a_pick : PySem.W.nsIn K mainGlobals "_law_pick" = some (some (.ref Apick)))
    (l_pick : K.lookup Apick = some ⟨ocpick, odpick, .func (PySem.W.fnOf "_law_pick" "_law_pick" (defArgs s_pick) (defBody s_pick) (defScope s_pick) .none kVpick dcpick pmpick anpick cdpick ctpick), slpick⟩)
    (o_pick : PySem.W.codeIn K cdpick "_law_pick" = true)
    (k_pick : PySem.W.keepIn K (.ref Apick) = true)
    (a_all : PySem.W.nsIn K mainGlobals "_law_all" = some (some (.ref Aall)))
    (l_all : K.lookup Aall = some ⟨ocall, odall, .func (PySem.W.fnOf "_law_all" "_law_all" (defArgs s_all) (defBody s_all) (defScope s_all) .none kVall dcall pmall anall cdall ctall), slall⟩)
    (o_all : PySem.W.codeIn K cdall "_law_all" = true)
    (k_all : PySem.W.keepIn K (.ref Aall) = true)
    (a_named : PySem.W.nsIn K mainGlobals "_law_named" = some (some (.ref Anamed)))
    (l_named : K.lookup Anamed = some ⟨ocnamed, odnamed, .func (PySem.W.fnOf "_law_named" "_law_named" (defArgs s_named) (defBody s_named) (defScope s_named) .none kVnamed dcnamed pmnamed annamed cdnamed ctnamed), slnamed⟩)
    (o_named : PySem.W.codeIn K cdnamed "_law_named" = true)
    (k_named : PySem.W.keepIn K (.ref Anamed) = true)
    (a_kept : PySem.W.nsIn K mainGlobals "_law_kept" = some (some (.ref Akept)))
    (l_kept : K.lookup Akept = some ⟨ockept, odkept, .func (PySem.W.fnOf "_law_kept" "_law_kept" (defArgs s_kept) (defBody s_kept) (defScope s_kept) .none kVkept dckept pmkept ankept cdkept ctkept), slkept⟩)
    (o_kept : PySem.W.codeIn K cdkept "_law_kept" = true)
    (k_kept : PySem.W.keepIn K (.ref Akept) = true)
    (a_width : PySem.W.nsIn K mainGlobals "_law_width" = some (some (.ref Awidth)))
    (l_width : K.lookup Awidth = some ⟨ocwidth, odwidth, .func (PySem.W.fnOf "_law_width" "_law_width" (defArgs s_width) (defBody s_width) (defScope s_width) .none kVwidth dcwidth pmwidth anwidth cdwidth ctwidth), slwidth⟩)
    (o_width : PySem.W.codeIn K cdwidth "_law_width" = true)
    (k_width : PySem.W.keepIn K (.ref Awidth) = true)
    (a_flags : PySem.W.nsIn K mainGlobals "_law_flags" = some (some (.ref Aflags)))
    (l_flags : K.lookup Aflags = some ⟨ocflags, odflags, .func (PySem.W.fnOf "_law_flags" "_law_flags" (defArgs s_flags) (defBody s_flags) (defScope s_flags) .none kVflags dcflags pmflags anflags cdflags ctflags), slflags⟩)
    (o_flags : PySem.W.codeIn K cdflags "_law_flags" = true)
    (k_flags : PySem.W.keepIn K (.ref Aflags) = true)
    (a_grounds : PySem.W.nsIn K mainGlobals "_law_grounds" = some (some (.ref Agrounds)))
    (l_grounds : K.lookup Agrounds = some ⟨ocgrounds, odgrounds, .func (PySem.W.fnOf "_law_grounds" "_law_grounds" (defArgs s_grounds) (defBody s_grounds) (defScope s_grounds) .none kVgrounds dcgrounds pmgrounds angrounds cdgrounds ctgrounds), slgrounds⟩)
    (o_grounds : PySem.W.codeIn K cdgrounds "_law_grounds" = true)
    (k_grounds : PySem.W.keepIn K (.ref Agrounds) = true)
    (a_ground : PySem.W.nsIn K mainGlobals "_law_ground" = some (some (.ref Aground)))
    (l_ground : K.lookup Aground = some ⟨ocground, odground, .func (PySem.W.fnOf "_law_ground" "_law_ground" (defArgs s_ground) (defBody s_ground) (defScope s_ground) .none kVground dcground pmground anground cdground ctground), slground⟩)
    (o_ground : PySem.W.codeIn K cdground "_law_ground" = true)
    (k_ground : PySem.W.keepIn K (.ref Aground) = true)
    (a_due_grounds : PySem.W.nsIn K mainGlobals "_law_due_grounds" = some (some (.ref Adue_grounds)))
    (l_due_grounds : K.lookup Adue_grounds = some ⟨ocdue_grounds, oddue_grounds, .func (PySem.W.fnOf "_law_due_grounds" "_law_due_grounds" (defArgs s_due_grounds) (defBody s_due_grounds) (defScope s_due_grounds) .none kVdue_grounds dcdue_grounds pmdue_grounds andue_grounds cddue_grounds ctdue_grounds), sldue_grounds⟩)
    (o_due_grounds : PySem.W.codeIn K cddue_grounds "_law_due_grounds" = true)
    (k_due_grounds : PySem.W.keepIn K (.ref Adue_grounds) = true)
    (a_right : PySem.W.nsIn K mainGlobals "_law_right" = some (some (.ref Aright)))
    (l_right : K.lookup Aright = some ⟨ocright, odright, .func (PySem.W.fnOf "_law_right" "_law_right" (defArgs s_right) (defBody s_right) (defScope s_right) .none kVright dcright pmright anright cdright ctright), slright⟩)
    (o_right : PySem.W.codeIn K cdright "_law_right" = true)
    (k_right : PySem.W.keepIn K (.ref Aright) = true)
    (a_pot : PySem.W.nsIn K mainGlobals "_law_pot" = some (some (.ref Apot)))
    (l_pot : K.lookup Apot = some ⟨ocpot, odpot, .func (PySem.W.fnOf "_law_pot" "_law_pot" (defArgs s_pot) (defBody s_pot) (defScope s_pot) .none kVpot dcpot pmpot anpot cdpot ctpot), slpot⟩)
    (o_pot : PySem.W.codeIn K cdpot "_law_pot" = true)
    (k_pot : PySem.W.keepIn K (.ref Apot) = true)
    (a_law : PySem.W.nsIn K mainGlobals "law" = some (some (.ref Alaw)))
    (l_law : K.lookup Alaw = some ⟨oclaw, odlaw, .func (PySem.W.fnOf "law" "law" (defArgs s_law) (defBody s_law) (defScope s_law) .none kVlaw dclaw pmlaw anlaw cdlaw ctlaw), sllaw⟩)
    (o_law : PySem.W.codeIn K cdlaw "law" = true)
    (k_law : PySem.W.keepIn K (.ref Alaw) = true)
    (a_CommandFailed_init : PySem.W.findIn K (.ref CCommandFailed) "__init__" = some (some (.ref ACommandFailed_init)))
    (i_CommandFailed_init : PySem.W.isFn K (.ref ACommandFailed_init) = true)
    (l_CommandFailed_init : K.lookup ACommandFailed_init = some ⟨ocCommandFailed_init, odCommandFailed_init, .func (PySem.W.fnOf "__init__" "CommandFailed.__init__" (defArgs s_CommandFailed_init) (defBody s_CommandFailed_init) (defScope s_CommandFailed_init) .none kVCommandFailed_init dcCommandFailed_init pmCommandFailed_init anCommandFailed_init cdCommandFailed_init ctCommandFailed_init), slCommandFailed_init⟩)
    (o_CommandFailed_init : PySem.W.codeIn K cdCommandFailed_init "CommandFailed.__init__" = true)
    (k_CommandFailed_init : PySem.W.keepIn K (.ref ACommandFailed_init) = true)
    (a_InvalidCells_init : PySem.W.findIn K (.ref CInvalidCells) "__init__" = some (some (.ref AInvalidCells_init)))
    (i_InvalidCells_init : PySem.W.isFn K (.ref AInvalidCells_init) = true)
    (l_InvalidCells_init : K.lookup AInvalidCells_init = some ⟨ocInvalidCells_init, odInvalidCells_init, .func (PySem.W.fnOf "__init__" "InvalidCells.__init__" (defArgs s_InvalidCells_init) (defBody s_InvalidCells_init) (defScope s_InvalidCells_init) .none kVInvalidCells_init dcInvalidCells_init pmInvalidCells_init anInvalidCells_init cdInvalidCells_init ctInvalidCells_init), slInvalidCells_init⟩)
    (o_InvalidCells_init : PySem.W.codeIn K cdInvalidCells_init "InvalidCells.__init__" = true)
    (k_InvalidCells_init : PySem.W.keepIn K (.ref AInvalidCells_init) = true)
    (a_InvalidClaim_init : PySem.W.findIn K (.ref CInvalidClaim) "__init__" = some (some (.ref AInvalidClaim_init)))
    (i_InvalidClaim_init : PySem.W.isFn K (.ref AInvalidClaim_init) = true)
    (l_InvalidClaim_init : K.lookup AInvalidClaim_init = some ⟨ocInvalidClaim_init, odInvalidClaim_init, .func (PySem.W.fnOf "__init__" "InvalidClaim.__init__" (defArgs s_InvalidClaim_init) (defBody s_InvalidClaim_init) (defScope s_InvalidClaim_init) .none kVInvalidClaim_init dcInvalidClaim_init pmInvalidClaim_init anInvalidClaim_init cdInvalidClaim_init ctInvalidClaim_init), slInvalidClaim_init⟩)
    (o_InvalidClaim_init : PySem.W.codeIn K cdInvalidClaim_init "InvalidClaim.__init__" = true)
    (k_InvalidClaim_init : PySem.W.keepIn K (.ref AInvalidClaim_init) = true)
    (a_InvalidCommand_init : PySem.W.findIn K (.ref CInvalidCommand) "__init__" = some (some (.ref AInvalidCommand_init)))
    (i_InvalidCommand_init : PySem.W.isFn K (.ref AInvalidCommand_init) = true)
    (l_InvalidCommand_init : K.lookup AInvalidCommand_init = some ⟨ocInvalidCommand_init, odInvalidCommand_init, .func (PySem.W.fnOf "__init__" "InvalidCommand.__init__" (defArgs s_InvalidCommand_init) (defBody s_InvalidCommand_init) (defScope s_InvalidCommand_init) .none kVInvalidCommand_init dcInvalidCommand_init pmInvalidCommand_init anInvalidCommand_init cdInvalidCommand_init ctInvalidCommand_init), slInvalidCommand_init⟩)
    (o_InvalidCommand_init : PySem.W.codeIn K cdInvalidCommand_init "InvalidCommand.__init__" = true)
    (k_InvalidCommand_init : PySem.W.keepIn K (.ref AInvalidCommand_init) = true)
    (a_InvalidCount_init : PySem.W.findIn K (.ref CInvalidCount) "__init__" = some (some (.ref AInvalidCount_init)))
    (i_InvalidCount_init : PySem.W.isFn K (.ref AInvalidCount_init) = true)
    (l_InvalidCount_init : K.lookup AInvalidCount_init = some ⟨ocInvalidCount_init, odInvalidCount_init, .func (PySem.W.fnOf "__init__" "InvalidCount.__init__" (defArgs s_InvalidCount_init) (defBody s_InvalidCount_init) (defScope s_InvalidCount_init) .none kVInvalidCount_init dcInvalidCount_init pmInvalidCount_init anInvalidCount_init cdInvalidCount_init ctInvalidCount_init), slInvalidCount_init⟩)
    (o_InvalidCount_init : PySem.W.codeIn K cdInvalidCount_init "InvalidCount.__init__" = true)
    (k_InvalidCount_init : PySem.W.keepIn K (.ref AInvalidCount_init) = true)
    (a_InvalidFirst_init : PySem.W.findIn K (.ref CInvalidFirst) "__init__" = some (some (.ref AInvalidFirst_init)))
    (i_InvalidFirst_init : PySem.W.isFn K (.ref AInvalidFirst_init) = true)
    (l_InvalidFirst_init : K.lookup AInvalidFirst_init = some ⟨ocInvalidFirst_init, odInvalidFirst_init, .func (PySem.W.fnOf "__init__" "InvalidFirst.__init__" (defArgs s_InvalidFirst_init) (defBody s_InvalidFirst_init) (defScope s_InvalidFirst_init) .none kVInvalidFirst_init dcInvalidFirst_init pmInvalidFirst_init anInvalidFirst_init cdInvalidFirst_init ctInvalidFirst_init), slInvalidFirst_init⟩)
    (o_InvalidFirst_init : PySem.W.codeIn K cdInvalidFirst_init "InvalidFirst.__init__" = true)
    (k_InvalidFirst_init : PySem.W.keepIn K (.ref AInvalidFirst_init) = true)
    (a_InvalidFixed_init : PySem.W.findIn K (.ref CInvalidFixed) "__init__" = some (some (.ref AInvalidFixed_init)))
    (i_InvalidFixed_init : PySem.W.isFn K (.ref AInvalidFixed_init) = true)
    (l_InvalidFixed_init : K.lookup AInvalidFixed_init = some ⟨ocInvalidFixed_init, odInvalidFixed_init, .func (PySem.W.fnOf "__init__" "InvalidFixed.__init__" (defArgs s_InvalidFixed_init) (defBody s_InvalidFixed_init) (defScope s_InvalidFixed_init) .none kVInvalidFixed_init dcInvalidFixed_init pmInvalidFixed_init anInvalidFixed_init cdInvalidFixed_init ctInvalidFixed_init), slInvalidFixed_init⟩)
    (o_InvalidFixed_init : PySem.W.codeIn K cdInvalidFixed_init "InvalidFixed.__init__" = true)
    (k_InvalidFixed_init : PySem.W.keepIn K (.ref AInvalidFixed_init) = true)
    (a_InvalidGauge_init : PySem.W.findIn K (.ref CInvalidGauge) "__init__" = some (some (.ref AInvalidGauge_init)))
    (i_InvalidGauge_init : PySem.W.isFn K (.ref AInvalidGauge_init) = true)
    (l_InvalidGauge_init : K.lookup AInvalidGauge_init = some ⟨ocInvalidGauge_init, odInvalidGauge_init, .func (PySem.W.fnOf "__init__" "InvalidGauge.__init__" (defArgs s_InvalidGauge_init) (defBody s_InvalidGauge_init) (defScope s_InvalidGauge_init) .none kVInvalidGauge_init dcInvalidGauge_init pmInvalidGauge_init anInvalidGauge_init cdInvalidGauge_init ctInvalidGauge_init), slInvalidGauge_init⟩)
    (o_InvalidGauge_init : PySem.W.codeIn K cdInvalidGauge_init "InvalidGauge.__init__" = true)
    (k_InvalidGauge_init : PySem.W.keepIn K (.ref AInvalidGauge_init) = true)
    (a_InvalidLegs_init : PySem.W.findIn K (.ref CInvalidLegs) "__init__" = some (some (.ref AInvalidLegs_init)))
    (i_InvalidLegs_init : PySem.W.isFn K (.ref AInvalidLegs_init) = true)
    (l_InvalidLegs_init : K.lookup AInvalidLegs_init = some ⟨ocInvalidLegs_init, odInvalidLegs_init, .func (PySem.W.fnOf "__init__" "InvalidLegs.__init__" (defArgs s_InvalidLegs_init) (defBody s_InvalidLegs_init) (defScope s_InvalidLegs_init) .none kVInvalidLegs_init dcInvalidLegs_init pmInvalidLegs_init anInvalidLegs_init cdInvalidLegs_init ctInvalidLegs_init), slInvalidLegs_init⟩)
    (o_InvalidLegs_init : PySem.W.codeIn K cdInvalidLegs_init "InvalidLegs.__init__" = true)
    (k_InvalidLegs_init : PySem.W.keepIn K (.ref AInvalidLegs_init) = true)
    (a_InvalidLot_init : PySem.W.findIn K (.ref CInvalidLot) "__init__" = some (some (.ref AInvalidLot_init)))
    (i_InvalidLot_init : PySem.W.isFn K (.ref AInvalidLot_init) = true)
    (l_InvalidLot_init : K.lookup AInvalidLot_init = some ⟨ocInvalidLot_init, odInvalidLot_init, .func (PySem.W.fnOf "__init__" "InvalidLot.__init__" (defArgs s_InvalidLot_init) (defBody s_InvalidLot_init) (defScope s_InvalidLot_init) .none kVInvalidLot_init dcInvalidLot_init pmInvalidLot_init anInvalidLot_init cdInvalidLot_init ctInvalidLot_init), slInvalidLot_init⟩)
    (o_InvalidLot_init : PySem.W.codeIn K cdInvalidLot_init "InvalidLot.__init__" = true)
    (k_InvalidLot_init : PySem.W.keepIn K (.ref AInvalidLot_init) = true)
    (a_InvalidMarks_init : PySem.W.findIn K (.ref CInvalidMarks) "__init__" = some (some (.ref AInvalidMarks_init)))
    (i_InvalidMarks_init : PySem.W.isFn K (.ref AInvalidMarks_init) = true)
    (l_InvalidMarks_init : K.lookup AInvalidMarks_init = some ⟨ocInvalidMarks_init, odInvalidMarks_init, .func (PySem.W.fnOf "__init__" "InvalidMarks.__init__" (defArgs s_InvalidMarks_init) (defBody s_InvalidMarks_init) (defScope s_InvalidMarks_init) .none kVInvalidMarks_init dcInvalidMarks_init pmInvalidMarks_init anInvalidMarks_init cdInvalidMarks_init ctInvalidMarks_init), slInvalidMarks_init⟩)
    (o_InvalidMarks_init : PySem.W.codeIn K cdInvalidMarks_init "InvalidMarks.__init__" = true)
    (k_InvalidMarks_init : PySem.W.keepIn K (.ref AInvalidMarks_init) = true)
    (a_InvalidNumber_init : PySem.W.findIn K (.ref CInvalidNumber) "__init__" = some (some (.ref AInvalidNumber_init)))
    (i_InvalidNumber_init : PySem.W.isFn K (.ref AInvalidNumber_init) = true)
    (l_InvalidNumber_init : K.lookup AInvalidNumber_init = some ⟨ocInvalidNumber_init, odInvalidNumber_init, .func (PySem.W.fnOf "__init__" "InvalidNumber.__init__" (defArgs s_InvalidNumber_init) (defBody s_InvalidNumber_init) (defScope s_InvalidNumber_init) .none kVInvalidNumber_init dcInvalidNumber_init pmInvalidNumber_init anInvalidNumber_init cdInvalidNumber_init ctInvalidNumber_init), slInvalidNumber_init⟩)
    (o_InvalidNumber_init : PySem.W.codeIn K cdInvalidNumber_init "InvalidNumber.__init__" = true)
    (k_InvalidNumber_init : PySem.W.keepIn K (.ref AInvalidNumber_init) = true)
    (a_InvalidPlace_init : PySem.W.findIn K (.ref CInvalidPlace) "__init__" = some (some (.ref AInvalidPlace_init)))
    (i_InvalidPlace_init : PySem.W.isFn K (.ref AInvalidPlace_init) = true)
    (l_InvalidPlace_init : K.lookup AInvalidPlace_init = some ⟨ocInvalidPlace_init, odInvalidPlace_init, .func (PySem.W.fnOf "__init__" "InvalidPlace.__init__" (defArgs s_InvalidPlace_init) (defBody s_InvalidPlace_init) (defScope s_InvalidPlace_init) .none kVInvalidPlace_init dcInvalidPlace_init pmInvalidPlace_init anInvalidPlace_init cdInvalidPlace_init ctInvalidPlace_init), slInvalidPlace_init⟩)
    (o_InvalidPlace_init : PySem.W.codeIn K cdInvalidPlace_init "InvalidPlace.__init__" = true)
    (k_InvalidPlace_init : PySem.W.keepIn K (.ref AInvalidPlace_init) = true)
    (a_InvalidRound_init : PySem.W.findIn K (.ref CInvalidRound) "__init__" = some (some (.ref AInvalidRound_init)))
    (i_InvalidRound_init : PySem.W.isFn K (.ref AInvalidRound_init) = true)
    (l_InvalidRound_init : K.lookup AInvalidRound_init = some ⟨ocInvalidRound_init, odInvalidRound_init, .func (PySem.W.fnOf "__init__" "InvalidRound.__init__" (defArgs s_InvalidRound_init) (defBody s_InvalidRound_init) (defScope s_InvalidRound_init) .none kVInvalidRound_init dcInvalidRound_init pmInvalidRound_init anInvalidRound_init cdInvalidRound_init ctInvalidRound_init), slInvalidRound_init⟩)
    (o_InvalidRound_init : PySem.W.codeIn K cdInvalidRound_init "InvalidRound.__init__" = true)
    (k_InvalidRound_init : PySem.W.keepIn K (.ref AInvalidRound_init) = true)
    (a_InvalidRounds_init : PySem.W.findIn K (.ref CInvalidRounds) "__init__" = some (some (.ref AInvalidRounds_init)))
    (i_InvalidRounds_init : PySem.W.isFn K (.ref AInvalidRounds_init) = true)
    (l_InvalidRounds_init : K.lookup AInvalidRounds_init = some ⟨ocInvalidRounds_init, odInvalidRounds_init, .func (PySem.W.fnOf "__init__" "InvalidRounds.__init__" (defArgs s_InvalidRounds_init) (defBody s_InvalidRounds_init) (defScope s_InvalidRounds_init) .none kVInvalidRounds_init dcInvalidRounds_init pmInvalidRounds_init anInvalidRounds_init cdInvalidRounds_init ctInvalidRounds_init), slInvalidRounds_init⟩)
    (o_InvalidRounds_init : PySem.W.codeIn K cdInvalidRounds_init "InvalidRounds.__init__" = true)
    (k_InvalidRounds_init : PySem.W.keepIn K (.ref AInvalidRounds_init) = true)
    (a_InvalidRows_init : PySem.W.findIn K (.ref CInvalidRows) "__init__" = some (some (.ref AInvalidRows_init)))
    (i_InvalidRows_init : PySem.W.isFn K (.ref AInvalidRows_init) = true)
    (l_InvalidRows_init : K.lookup AInvalidRows_init = some ⟨ocInvalidRows_init, odInvalidRows_init, .func (PySem.W.fnOf "__init__" "InvalidRows.__init__" (defArgs s_InvalidRows_init) (defBody s_InvalidRows_init) (defScope s_InvalidRows_init) .none kVInvalidRows_init dcInvalidRows_init pmInvalidRows_init anInvalidRows_init cdInvalidRows_init ctInvalidRows_init), slInvalidRows_init⟩)
    (o_InvalidRows_init : PySem.W.codeIn K cdInvalidRows_init "InvalidRows.__init__" = true)
    (k_InvalidRows_init : PySem.W.keepIn K (.ref AInvalidRows_init) = true)
    (a_InvalidSize_init : PySem.W.findIn K (.ref CInvalidSize) "__init__" = some (some (.ref AInvalidSize_init)))
    (i_InvalidSize_init : PySem.W.isFn K (.ref AInvalidSize_init) = true)
    (l_InvalidSize_init : K.lookup AInvalidSize_init = some ⟨ocInvalidSize_init, odInvalidSize_init, .func (PySem.W.fnOf "__init__" "InvalidSize.__init__" (defArgs s_InvalidSize_init) (defBody s_InvalidSize_init) (defScope s_InvalidSize_init) .none kVInvalidSize_init dcInvalidSize_init pmInvalidSize_init anInvalidSize_init cdInvalidSize_init ctInvalidSize_init), slInvalidSize_init⟩)
    (o_InvalidSize_init : PySem.W.codeIn K cdInvalidSize_init "InvalidSize.__init__" = true)
    (k_InvalidSize_init : PySem.W.keepIn K (.ref AInvalidSize_init) = true)
    (a_InvalidStander_init : PySem.W.findIn K (.ref CInvalidStander) "__init__" = some (some (.ref AInvalidStander_init)))
    (i_InvalidStander_init : PySem.W.isFn K (.ref AInvalidStander_init) = true)
    (l_InvalidStander_init : K.lookup AInvalidStander_init = some ⟨ocInvalidStander_init, odInvalidStander_init, .func (PySem.W.fnOf "__init__" "InvalidStander.__init__" (defArgs s_InvalidStander_init) (defBody s_InvalidStander_init) (defScope s_InvalidStander_init) .none kVInvalidStander_init dcInvalidStander_init pmInvalidStander_init anInvalidStander_init cdInvalidStander_init ctInvalidStander_init), slInvalidStander_init⟩)
    (o_InvalidStander_init : PySem.W.codeIn K cdInvalidStander_init "InvalidStander.__init__" = true)
    (k_InvalidStander_init : PySem.W.keepIn K (.ref AInvalidStander_init) = true)
    (a_InvalidStep_init : PySem.W.findIn K (.ref CInvalidStep) "__init__" = some (some (.ref AInvalidStep_init)))
    (i_InvalidStep_init : PySem.W.isFn K (.ref AInvalidStep_init) = true)
    (l_InvalidStep_init : K.lookup AInvalidStep_init = some ⟨ocInvalidStep_init, odInvalidStep_init, .func (PySem.W.fnOf "__init__" "InvalidStep.__init__" (defArgs s_InvalidStep_init) (defBody s_InvalidStep_init) (defScope s_InvalidStep_init) .none kVInvalidStep_init dcInvalidStep_init pmInvalidStep_init anInvalidStep_init cdInvalidStep_init ctInvalidStep_init), slInvalidStep_init⟩)
    (o_InvalidStep_init : PySem.W.codeIn K cdInvalidStep_init "InvalidStep.__init__" = true)
    (k_InvalidStep_init : PySem.W.keepIn K (.ref AInvalidStep_init) = true)
    (a_InvalidTeam_init : PySem.W.findIn K (.ref CInvalidTeam) "__init__" = some (some (.ref AInvalidTeam_init)))
    (i_InvalidTeam_init : PySem.W.isFn K (.ref AInvalidTeam_init) = true)
    (l_InvalidTeam_init : K.lookup AInvalidTeam_init = some ⟨ocInvalidTeam_init, odInvalidTeam_init, .func (PySem.W.fnOf "__init__" "InvalidTeam.__init__" (defArgs s_InvalidTeam_init) (defBody s_InvalidTeam_init) (defScope s_InvalidTeam_init) .none kVInvalidTeam_init dcInvalidTeam_init pmInvalidTeam_init anInvalidTeam_init cdInvalidTeam_init ctInvalidTeam_init), slInvalidTeam_init⟩)
    (o_InvalidTeam_init : PySem.W.codeIn K cdInvalidTeam_init "InvalidTeam.__init__" = true)
    (k_InvalidTeam_init : PySem.W.keepIn K (.ref AInvalidTeam_init) = true)
    (a_InvalidText_init : PySem.W.findIn K (.ref CInvalidText) "__init__" = some (some (.ref AInvalidText_init)))
    (i_InvalidText_init : PySem.W.isFn K (.ref AInvalidText_init) = true)
    (l_InvalidText_init : K.lookup AInvalidText_init = some ⟨ocInvalidText_init, odInvalidText_init, .func (PySem.W.fnOf "__init__" "InvalidText.__init__" (defArgs s_InvalidText_init) (defBody s_InvalidText_init) (defScope s_InvalidText_init) .none kVInvalidText_init dcInvalidText_init pmInvalidText_init anInvalidText_init cdInvalidText_init ctInvalidText_init), slInvalidText_init⟩)
    (o_InvalidText_init : PySem.W.codeIn K cdInvalidText_init "InvalidText.__init__" = true)
    (k_InvalidText_init : PySem.W.keepIn K (.ref AInvalidText_init) = true)
    (a_InvalidTurned_init : PySem.W.findIn K (.ref CInvalidTurned) "__init__" = some (some (.ref AInvalidTurned_init)))
    (i_InvalidTurned_init : PySem.W.isFn K (.ref AInvalidTurned_init) = true)
    (l_InvalidTurned_init : K.lookup AInvalidTurned_init = some ⟨ocInvalidTurned_init, odInvalidTurned_init, .func (PySem.W.fnOf "__init__" "InvalidTurned.__init__" (defArgs s_InvalidTurned_init) (defBody s_InvalidTurned_init) (defScope s_InvalidTurned_init) .none kVInvalidTurned_init dcInvalidTurned_init pmInvalidTurned_init anInvalidTurned_init cdInvalidTurned_init ctInvalidTurned_init), slInvalidTurned_init⟩)
    (o_InvalidTurned_init : PySem.W.codeIn K cdInvalidTurned_init "InvalidTurned.__init__" = true)
    (k_InvalidTurned_init : PySem.W.keepIn K (.ref AInvalidTurned_init) = true)
    (a_InvalidValues_init : PySem.W.findIn K (.ref CInvalidValues) "__init__" = some (some (.ref AInvalidValues_init)))
    (i_InvalidValues_init : PySem.W.isFn K (.ref AInvalidValues_init) = true)
    (l_InvalidValues_init : K.lookup AInvalidValues_init = some ⟨ocInvalidValues_init, odInvalidValues_init, .func (PySem.W.fnOf "__init__" "InvalidValues.__init__" (defArgs s_InvalidValues_init) (defBody s_InvalidValues_init) (defScope s_InvalidValues_init) .none kVInvalidValues_init dcInvalidValues_init pmInvalidValues_init anInvalidValues_init cdInvalidValues_init ctInvalidValues_init), slInvalidValues_init⟩)
    (o_InvalidValues_init : PySem.W.codeIn K cdInvalidValues_init "InvalidValues.__init__" = true)
    (k_InvalidValues_init : PySem.W.keepIn K (.ref AInvalidValues_init) = true)
    (a_NoRound_init : PySem.W.findIn K (.ref CNoRound) "__init__" = some (some (.ref ANoRound_init)))
    (i_NoRound_init : PySem.W.isFn K (.ref ANoRound_init) = true)
    (l_NoRound_init : K.lookup ANoRound_init = some ⟨ocNoRound_init, odNoRound_init, .func (PySem.W.fnOf "__init__" "NoRound.__init__" (defArgs s_NoRound_init) (defBody s_NoRound_init) (defScope s_NoRound_init) .none kVNoRound_init dcNoRound_init pmNoRound_init anNoRound_init cdNoRound_init ctNoRound_init), slNoRound_init⟩)
    (o_NoRound_init : PySem.W.codeIn K cdNoRound_init "NoRound.__init__" = true)
    (k_NoRound_init : PySem.W.keepIn K (.ref ANoRound_init) = true)
    (a_NotOpen_init : PySem.W.findIn K (.ref CNotOpen) "__init__" = some (some (.ref ANotOpen_init)))
    (i_NotOpen_init : PySem.W.isFn K (.ref ANotOpen_init) = true)
    (l_NotOpen_init : K.lookup ANotOpen_init = some ⟨ocNotOpen_init, odNotOpen_init, .func (PySem.W.fnOf "__init__" "NotOpen.__init__" (defArgs s_NotOpen_init) (defBody s_NotOpen_init) (defScope s_NotOpen_init) .none kVNotOpen_init dcNotOpen_init pmNotOpen_init anNotOpen_init cdNotOpen_init ctNotOpen_init), slNotOpen_init⟩)
    (o_NotOpen_init : PySem.W.codeIn K cdNotOpen_init "NotOpen.__init__" = true)
    (k_NotOpen_init : PySem.W.keepIn K (.ref ANotOpen_init) = true)
    (a_NotRight_init : PySem.W.findIn K (.ref CNotRight) "__init__" = some (some (.ref ANotRight_init)))
    (i_NotRight_init : PySem.W.isFn K (.ref ANotRight_init) = true)
    (l_NotRight_init : K.lookup ANotRight_init = some ⟨ocNotRight_init, odNotRight_init, .func (PySem.W.fnOf "__init__" "NotRight.__init__" (defArgs s_NotRight_init) (defBody s_NotRight_init) (defScope s_NotRight_init) .none kVNotRight_init dcNotRight_init pmNotRight_init anNotRight_init cdNotRight_init ctNotRight_init), slNotRight_init⟩)
    (o_NotRight_init : PySem.W.codeIn K cdNotRight_init "NotRight.__init__" = true)
    (k_NotRight_init : PySem.W.keepIn K (.ref ANotRight_init) = true)
    (a_NotSingle_init : PySem.W.findIn K (.ref CNotSingle) "__init__" = some (some (.ref ANotSingle_init)))
    (i_NotSingle_init : PySem.W.isFn K (.ref ANotSingle_init) = true)
    (l_NotSingle_init : K.lookup ANotSingle_init = some ⟨ocNotSingle_init, odNotSingle_init, .func (PySem.W.fnOf "__init__" "NotSingle.__init__" (defArgs s_NotSingle_init) (defBody s_NotSingle_init) (defScope s_NotSingle_init) .none kVNotSingle_init dcNotSingle_init pmNotSingle_init anNotSingle_init cdNotSingle_init ctNotSingle_init), slNotSingle_init⟩)
    (o_NotSingle_init : PySem.W.codeIn K cdNotSingle_init "NotSingle.__init__" = true)
    (k_NotSingle_init : PySem.W.keepIn K (.ref ANotSingle_init) = true)
    (a_NothingToUndo_init : PySem.W.findIn K (.ref CNothingToUndo) "__init__" = some (some (.ref ANothingToUndo_init)))
    (i_NothingToUndo_init : PySem.W.isFn K (.ref ANothingToUndo_init) = true)
    (l_NothingToUndo_init : K.lookup ANothingToUndo_init = some ⟨ocNothingToUndo_init, odNothingToUndo_init, .func (PySem.W.fnOf "__init__" "NothingToUndo.__init__" (defArgs s_NothingToUndo_init) (defBody s_NothingToUndo_init) (defScope s_NothingToUndo_init) .none kVNothingToUndo_init dcNothingToUndo_init pmNothingToUndo_init anNothingToUndo_init cdNothingToUndo_init ctNothingToUndo_init), slNothingToUndo_init⟩)
    (o_NothingToUndo_init : PySem.W.codeIn K cdNothingToUndo_init "NothingToUndo.__init__" = true)
    (k_NothingToUndo_init : PySem.W.keepIn K (.ref ANothingToUndo_init) = true)
    (a_TooMany_init : PySem.W.findIn K (.ref CTooMany) "__init__" = some (some (.ref ATooMany_init)))
    (i_TooMany_init : PySem.W.isFn K (.ref ATooMany_init) = true)
    (l_TooMany_init : K.lookup ATooMany_init = some ⟨ocTooMany_init, odTooMany_init, .func (PySem.W.fnOf "__init__" "TooMany.__init__" (defArgs s_TooMany_init) (defBody s_TooMany_init) (defScope s_TooMany_init) .none kVTooMany_init dcTooMany_init pmTooMany_init anTooMany_init cdTooMany_init ctTooMany_init), slTooMany_init⟩)
    (o_TooMany_init : PySem.W.codeIn K cdTooMany_init "TooMany.__init__" = true)
    (k_TooMany_init : PySem.W.keepIn K (.ref ATooMany_init) = true)
    (a_Unplayed_init : PySem.W.findIn K (.ref CUnplayed) "__init__" = some (some (.ref AUnplayed_init)))
    (i_Unplayed_init : PySem.W.isFn K (.ref AUnplayed_init) = true)
    (l_Unplayed_init : K.lookup AUnplayed_init = some ⟨ocUnplayed_init, odUnplayed_init, .func (PySem.W.fnOf "__init__" "Unplayed.__init__" (defArgs s_Unplayed_init) (defBody s_Unplayed_init) (defScope s_Unplayed_init) .none kVUnplayed_init dcUnplayed_init pmUnplayed_init anUnplayed_init cdUnplayed_init ctUnplayed_init), slUnplayed_init⟩)
    (o_Unplayed_init : PySem.W.codeIn K cdUnplayed_init "Unplayed.__init__" = true)
    (k_Unplayed_init : PySem.W.keepIn K (.ref AUnplayed_init) = true)
    (aC_CommandFailed : PySem.W.nsIn K mainGlobals "CommandFailed" = some (some (.ref CCommandFailed)))
    (aC_InvalidCells : PySem.W.nsIn K mainGlobals "InvalidCells" = some (some (.ref CInvalidCells)))
    (aC_InvalidClaim : PySem.W.nsIn K mainGlobals "InvalidClaim" = some (some (.ref CInvalidClaim)))
    (aC_InvalidCommand : PySem.W.nsIn K mainGlobals "InvalidCommand" = some (some (.ref CInvalidCommand)))
    (aC_InvalidCount : PySem.W.nsIn K mainGlobals "InvalidCount" = some (some (.ref CInvalidCount)))
    (aC_InvalidFirst : PySem.W.nsIn K mainGlobals "InvalidFirst" = some (some (.ref CInvalidFirst)))
    (aC_InvalidFixed : PySem.W.nsIn K mainGlobals "InvalidFixed" = some (some (.ref CInvalidFixed)))
    (aC_InvalidGauge : PySem.W.nsIn K mainGlobals "InvalidGauge" = some (some (.ref CInvalidGauge)))
    (aC_InvalidLegs : PySem.W.nsIn K mainGlobals "InvalidLegs" = some (some (.ref CInvalidLegs)))
    (aC_InvalidLot : PySem.W.nsIn K mainGlobals "InvalidLot" = some (some (.ref CInvalidLot)))
    (aC_InvalidMarks : PySem.W.nsIn K mainGlobals "InvalidMarks" = some (some (.ref CInvalidMarks)))
    (aC_InvalidNumber : PySem.W.nsIn K mainGlobals "InvalidNumber" = some (some (.ref CInvalidNumber)))
    (aC_InvalidPlace : PySem.W.nsIn K mainGlobals "InvalidPlace" = some (some (.ref CInvalidPlace)))
    (aC_InvalidRound : PySem.W.nsIn K mainGlobals "InvalidRound" = some (some (.ref CInvalidRound)))
    (aC_InvalidRounds : PySem.W.nsIn K mainGlobals "InvalidRounds" = some (some (.ref CInvalidRounds)))
    (aC_InvalidRows : PySem.W.nsIn K mainGlobals "InvalidRows" = some (some (.ref CInvalidRows)))
    (aC_InvalidSize : PySem.W.nsIn K mainGlobals "InvalidSize" = some (some (.ref CInvalidSize)))
    (aC_InvalidStander : PySem.W.nsIn K mainGlobals "InvalidStander" = some (some (.ref CInvalidStander)))
    (aC_InvalidStep : PySem.W.nsIn K mainGlobals "InvalidStep" = some (some (.ref CInvalidStep)))
    (aC_InvalidTeam : PySem.W.nsIn K mainGlobals "InvalidTeam" = some (some (.ref CInvalidTeam)))
    (aC_InvalidText : PySem.W.nsIn K mainGlobals "InvalidText" = some (some (.ref CInvalidText)))
    (aC_InvalidTurned : PySem.W.nsIn K mainGlobals "InvalidTurned" = some (some (.ref CInvalidTurned)))
    (aC_InvalidValues : PySem.W.nsIn K mainGlobals "InvalidValues" = some (some (.ref CInvalidValues)))
    (aC_LeagueError : PySem.W.nsIn K mainGlobals "LeagueError" = some (some (.ref CLeagueError)))
    (aC_LimitError : PySem.W.nsIn K mainGlobals "LimitError" = some (some (.ref CLimitError)))
    (aC_NoRound : PySem.W.nsIn K mainGlobals "NoRound" = some (some (.ref CNoRound)))
    (aC_NotOpen : PySem.W.nsIn K mainGlobals "NotOpen" = some (some (.ref CNotOpen)))
    (aC_NotRight : PySem.W.nsIn K mainGlobals "NotRight" = some (some (.ref CNotRight)))
    (aC_NotSingle : PySem.W.nsIn K mainGlobals "NotSingle" = some (some (.ref CNotSingle)))
    (aC_NothingToUndo : PySem.W.nsIn K mainGlobals "NothingToUndo" = some (some (.ref CNothingToUndo)))
    (aC_StateError : PySem.W.nsIn K mainGlobals "StateError" = some (some (.ref CStateError)))
    (aC_TooMany : PySem.W.nsIn K mainGlobals "TooMany" = some (some (.ref CTooMany)))
    (aC_Unplayed : PySem.W.nsIn K mainGlobals "Unplayed" = some (some (.ref CUnplayed)))
    (xg1_CommandFailed : PySem.W.excInitIn K CCommandFailed [.type "RuntimeError", .type "Exception", .type "BaseException", .type "object"] "RuntimeError.__new__" = true)
    (xg2_CommandFailed : PySem.W.excOver K CCommandFailed [.type "RuntimeError", .type "Exception", .type "BaseException", .type "object"] = true)
    (xg3_CommandFailed : hdB K CCommandFailed = true)
    (xs_CommandFailed : PySem.W.findIn K (.ref CCommandFailed) "__setattr__" = some (some (.builtin "object.__setattr__")))
    (xe_CommandFailed : PySem.W.subIn K (.ref CCommandFailed) (.type "BaseException") = some true)
    (xt_CommandFailed : PySem.W.typeIn K (.ref CCommandFailed) = some (.type "type"))
    (xp_CommandFailed : PySem.W.keepIn K (.ref CCommandFailed) = true)
    (no_CommandFailed_position : PySem.W.findIn K (.ref CCommandFailed) "position" = some none)
    (xg1_InvalidCells : PySem.W.excInitIn K CInvalidCells [.type "ValueError", .type "Exception", .type "BaseException", .type "object"] "ValueError.__new__" = true)
    (xg2_InvalidCells : PySem.W.excOver K CInvalidCells [.type "ValueError", .type "Exception", .type "BaseException", .type "object"] = true)
    (xg3_InvalidCells : hdB K CInvalidCells = true)
    (xs_InvalidCells : PySem.W.findIn K (.ref CInvalidCells) "__setattr__" = some (some (.builtin "object.__setattr__")))
    (xe_InvalidCells : PySem.W.subIn K (.ref CInvalidCells) (.type "BaseException") = some true)
    (xt_InvalidCells : PySem.W.typeIn K (.ref CInvalidCells) = some (.type "type"))
    (xp_InvalidCells : PySem.W.keepIn K (.ref CInvalidCells) = true)
    (no_InvalidCells_position : PySem.W.findIn K (.ref CInvalidCells) "position" = some none)
    (xg1_InvalidClaim : PySem.W.excInitIn K CInvalidClaim [.type "ValueError", .type "Exception", .type "BaseException", .type "object"] "ValueError.__new__" = true)
    (xg2_InvalidClaim : PySem.W.excOver K CInvalidClaim [.type "ValueError", .type "Exception", .type "BaseException", .type "object"] = true)
    (xg3_InvalidClaim : hdB K CInvalidClaim = true)
    (xs_InvalidClaim : PySem.W.findIn K (.ref CInvalidClaim) "__setattr__" = some (some (.builtin "object.__setattr__")))
    (xe_InvalidClaim : PySem.W.subIn K (.ref CInvalidClaim) (.type "BaseException") = some true)
    (xt_InvalidClaim : PySem.W.typeIn K (.ref CInvalidClaim) = some (.type "type"))
    (xp_InvalidClaim : PySem.W.keepIn K (.ref CInvalidClaim) = true)
    (no_InvalidClaim_value : PySem.W.findIn K (.ref CInvalidClaim) "value" = some none)
    (xg1_InvalidCommand : PySem.W.excInitIn K CInvalidCommand [.type "ValueError", .type "Exception", .type "BaseException", .type "object"] "ValueError.__new__" = true)
    (xg2_InvalidCommand : PySem.W.excOver K CInvalidCommand [.type "ValueError", .type "Exception", .type "BaseException", .type "object"] = true)
    (xg3_InvalidCommand : hdB K CInvalidCommand = true)
    (xs_InvalidCommand : PySem.W.findIn K (.ref CInvalidCommand) "__setattr__" = some (some (.builtin "object.__setattr__")))
    (xe_InvalidCommand : PySem.W.subIn K (.ref CInvalidCommand) (.type "BaseException") = some true)
    (xt_InvalidCommand : PySem.W.typeIn K (.ref CInvalidCommand) = some (.type "type"))
    (xp_InvalidCommand : PySem.W.keepIn K (.ref CInvalidCommand) = true)
    (no_InvalidCommand_value : PySem.W.findIn K (.ref CInvalidCommand) "value" = some none)
    (xg1_InvalidCount : PySem.W.excInitIn K CInvalidCount [.type "ValueError", .type "Exception", .type "BaseException", .type "object"] "ValueError.__new__" = true)
    (xg2_InvalidCount : PySem.W.excOver K CInvalidCount [.type "ValueError", .type "Exception", .type "BaseException", .type "object"] = true)
    (xg3_InvalidCount : hdB K CInvalidCount = true)
    (xs_InvalidCount : PySem.W.findIn K (.ref CInvalidCount) "__setattr__" = some (some (.builtin "object.__setattr__")))
    (xe_InvalidCount : PySem.W.subIn K (.ref CInvalidCount) (.type "BaseException") = some true)
    (xt_InvalidCount : PySem.W.typeIn K (.ref CInvalidCount) = some (.type "type"))
    (xp_InvalidCount : PySem.W.keepIn K (.ref CInvalidCount) = true)
    (no_InvalidCount_value : PySem.W.findIn K (.ref CInvalidCount) "value" = some none)
    (xg1_InvalidFirst : PySem.W.excInitIn K CInvalidFirst [.type "ValueError", .type "Exception", .type "BaseException", .type "object"] "ValueError.__new__" = true)
    (xg2_InvalidFirst : PySem.W.excOver K CInvalidFirst [.type "ValueError", .type "Exception", .type "BaseException", .type "object"] = true)
    (xg3_InvalidFirst : hdB K CInvalidFirst = true)
    (xs_InvalidFirst : PySem.W.findIn K (.ref CInvalidFirst) "__setattr__" = some (some (.builtin "object.__setattr__")))
    (xe_InvalidFirst : PySem.W.subIn K (.ref CInvalidFirst) (.type "BaseException") = some true)
    (xt_InvalidFirst : PySem.W.typeIn K (.ref CInvalidFirst) = some (.type "type"))
    (xp_InvalidFirst : PySem.W.keepIn K (.ref CInvalidFirst) = true)
    (no_InvalidFirst_value : PySem.W.findIn K (.ref CInvalidFirst) "value" = some none)
    (xg1_InvalidFixed : PySem.W.excInitIn K CInvalidFixed [.type "ValueError", .type "Exception", .type "BaseException", .type "object"] "ValueError.__new__" = true)
    (xg2_InvalidFixed : PySem.W.excOver K CInvalidFixed [.type "ValueError", .type "Exception", .type "BaseException", .type "object"] = true)
    (xg3_InvalidFixed : hdB K CInvalidFixed = true)
    (xs_InvalidFixed : PySem.W.findIn K (.ref CInvalidFixed) "__setattr__" = some (some (.builtin "object.__setattr__")))
    (xe_InvalidFixed : PySem.W.subIn K (.ref CInvalidFixed) (.type "BaseException") = some true)
    (xt_InvalidFixed : PySem.W.typeIn K (.ref CInvalidFixed) = some (.type "type"))
    (xp_InvalidFixed : PySem.W.keepIn K (.ref CInvalidFixed) = true)
    (no_InvalidFixed_position : PySem.W.findIn K (.ref CInvalidFixed) "position" = some none)
    (xg1_InvalidGauge : PySem.W.excInitIn K CInvalidGauge [.type "ValueError", .type "Exception", .type "BaseException", .type "object"] "ValueError.__new__" = true)
    (xg2_InvalidGauge : PySem.W.excOver K CInvalidGauge [.type "ValueError", .type "Exception", .type "BaseException", .type "object"] = true)
    (xg3_InvalidGauge : hdB K CInvalidGauge = true)
    (xs_InvalidGauge : PySem.W.findIn K (.ref CInvalidGauge) "__setattr__" = some (some (.builtin "object.__setattr__")))
    (xe_InvalidGauge : PySem.W.subIn K (.ref CInvalidGauge) (.type "BaseException") = some true)
    (xt_InvalidGauge : PySem.W.typeIn K (.ref CInvalidGauge) = some (.type "type"))
    (xp_InvalidGauge : PySem.W.keepIn K (.ref CInvalidGauge) = true)
    (no_InvalidGauge_position : PySem.W.findIn K (.ref CInvalidGauge) "position" = some none)
    (xg1_InvalidLegs : PySem.W.excInitIn K CInvalidLegs [.type "ValueError", .type "Exception", .type "BaseException", .type "object"] "ValueError.__new__" = true)
    (xg2_InvalidLegs : PySem.W.excOver K CInvalidLegs [.type "ValueError", .type "Exception", .type "BaseException", .type "object"] = true)
    (xg3_InvalidLegs : hdB K CInvalidLegs = true)
    (xs_InvalidLegs : PySem.W.findIn K (.ref CInvalidLegs) "__setattr__" = some (some (.builtin "object.__setattr__")))
    (xe_InvalidLegs : PySem.W.subIn K (.ref CInvalidLegs) (.type "BaseException") = some true)
    (xt_InvalidLegs : PySem.W.typeIn K (.ref CInvalidLegs) = some (.type "type"))
    (xp_InvalidLegs : PySem.W.keepIn K (.ref CInvalidLegs) = true)
    (no_InvalidLegs_position : PySem.W.findIn K (.ref CInvalidLegs) "position" = some none)
    (xg1_InvalidLot : PySem.W.excInitIn K CInvalidLot [.type "ValueError", .type "Exception", .type "BaseException", .type "object"] "ValueError.__new__" = true)
    (xg2_InvalidLot : PySem.W.excOver K CInvalidLot [.type "ValueError", .type "Exception", .type "BaseException", .type "object"] = true)
    (xg3_InvalidLot : hdB K CInvalidLot = true)
    (xs_InvalidLot : PySem.W.findIn K (.ref CInvalidLot) "__setattr__" = some (some (.builtin "object.__setattr__")))
    (xe_InvalidLot : PySem.W.subIn K (.ref CInvalidLot) (.type "BaseException") = some true)
    (xt_InvalidLot : PySem.W.typeIn K (.ref CInvalidLot) = some (.type "type"))
    (xp_InvalidLot : PySem.W.keepIn K (.ref CInvalidLot) = true)
    (no_InvalidLot_position : PySem.W.findIn K (.ref CInvalidLot) "position" = some none)
    (xg1_InvalidMarks : PySem.W.excInitIn K CInvalidMarks [.type "ValueError", .type "Exception", .type "BaseException", .type "object"] "ValueError.__new__" = true)
    (xg2_InvalidMarks : PySem.W.excOver K CInvalidMarks [.type "ValueError", .type "Exception", .type "BaseException", .type "object"] = true)
    (xg3_InvalidMarks : hdB K CInvalidMarks = true)
    (xs_InvalidMarks : PySem.W.findIn K (.ref CInvalidMarks) "__setattr__" = some (some (.builtin "object.__setattr__")))
    (xe_InvalidMarks : PySem.W.subIn K (.ref CInvalidMarks) (.type "BaseException") = some true)
    (xt_InvalidMarks : PySem.W.typeIn K (.ref CInvalidMarks) = some (.type "type"))
    (xp_InvalidMarks : PySem.W.keepIn K (.ref CInvalidMarks) = true)
    (no_InvalidMarks_value : PySem.W.findIn K (.ref CInvalidMarks) "value" = some none)
    (xg1_InvalidNumber : PySem.W.excInitIn K CInvalidNumber [.type "ValueError", .type "Exception", .type "BaseException", .type "object"] "ValueError.__new__" = true)
    (xg2_InvalidNumber : PySem.W.excOver K CInvalidNumber [.type "ValueError", .type "Exception", .type "BaseException", .type "object"] = true)
    (xg3_InvalidNumber : hdB K CInvalidNumber = true)
    (xs_InvalidNumber : PySem.W.findIn K (.ref CInvalidNumber) "__setattr__" = some (some (.builtin "object.__setattr__")))
    (xe_InvalidNumber : PySem.W.subIn K (.ref CInvalidNumber) (.type "BaseException") = some true)
    (xt_InvalidNumber : PySem.W.typeIn K (.ref CInvalidNumber) = some (.type "type"))
    (xp_InvalidNumber : PySem.W.keepIn K (.ref CInvalidNumber) = true)
    (no_InvalidNumber_value : PySem.W.findIn K (.ref CInvalidNumber) "value" = some none)
    (xg1_InvalidPlace : PySem.W.excInitIn K CInvalidPlace [.type "ValueError", .type "Exception", .type "BaseException", .type "object"] "ValueError.__new__" = true)
    (xg2_InvalidPlace : PySem.W.excOver K CInvalidPlace [.type "ValueError", .type "Exception", .type "BaseException", .type "object"] = true)
    (xg3_InvalidPlace : hdB K CInvalidPlace = true)
    (xs_InvalidPlace : PySem.W.findIn K (.ref CInvalidPlace) "__setattr__" = some (some (.builtin "object.__setattr__")))
    (xe_InvalidPlace : PySem.W.subIn K (.ref CInvalidPlace) (.type "BaseException") = some true)
    (xt_InvalidPlace : PySem.W.typeIn K (.ref CInvalidPlace) = some (.type "type"))
    (xp_InvalidPlace : PySem.W.keepIn K (.ref CInvalidPlace) = true)
    (no_InvalidPlace_value : PySem.W.findIn K (.ref CInvalidPlace) "value" = some none)
    (xg1_InvalidRound : PySem.W.excInitIn K CInvalidRound [.type "ValueError", .type "Exception", .type "BaseException", .type "object"] "ValueError.__new__" = true)
    (xg2_InvalidRound : PySem.W.excOver K CInvalidRound [.type "ValueError", .type "Exception", .type "BaseException", .type "object"] = true)
    (xg3_InvalidRound : hdB K CInvalidRound = true)
    (xs_InvalidRound : PySem.W.findIn K (.ref CInvalidRound) "__setattr__" = some (some (.builtin "object.__setattr__")))
    (xe_InvalidRound : PySem.W.subIn K (.ref CInvalidRound) (.type "BaseException") = some true)
    (xt_InvalidRound : PySem.W.typeIn K (.ref CInvalidRound) = some (.type "type"))
    (xp_InvalidRound : PySem.W.keepIn K (.ref CInvalidRound) = true)
    (no_InvalidRound_value : PySem.W.findIn K (.ref CInvalidRound) "value" = some none)
    (xg1_InvalidRounds : PySem.W.excInitIn K CInvalidRounds [.type "ValueError", .type "Exception", .type "BaseException", .type "object"] "ValueError.__new__" = true)
    (xg2_InvalidRounds : PySem.W.excOver K CInvalidRounds [.type "ValueError", .type "Exception", .type "BaseException", .type "object"] = true)
    (xg3_InvalidRounds : hdB K CInvalidRounds = true)
    (xs_InvalidRounds : PySem.W.findIn K (.ref CInvalidRounds) "__setattr__" = some (some (.builtin "object.__setattr__")))
    (xe_InvalidRounds : PySem.W.subIn K (.ref CInvalidRounds) (.type "BaseException") = some true)
    (xt_InvalidRounds : PySem.W.typeIn K (.ref CInvalidRounds) = some (.type "type"))
    (xp_InvalidRounds : PySem.W.keepIn K (.ref CInvalidRounds) = true)
    (no_InvalidRounds_position : PySem.W.findIn K (.ref CInvalidRounds) "position" = some none)
    (xg1_InvalidRows : PySem.W.excInitIn K CInvalidRows [.type "ValueError", .type "Exception", .type "BaseException", .type "object"] "ValueError.__new__" = true)
    (xg2_InvalidRows : PySem.W.excOver K CInvalidRows [.type "ValueError", .type "Exception", .type "BaseException", .type "object"] = true)
    (xg3_InvalidRows : hdB K CInvalidRows = true)
    (xs_InvalidRows : PySem.W.findIn K (.ref CInvalidRows) "__setattr__" = some (some (.builtin "object.__setattr__")))
    (xe_InvalidRows : PySem.W.subIn K (.ref CInvalidRows) (.type "BaseException") = some true)
    (xt_InvalidRows : PySem.W.typeIn K (.ref CInvalidRows) = some (.type "type"))
    (xp_InvalidRows : PySem.W.keepIn K (.ref CInvalidRows) = true)
    (no_InvalidRows_position : PySem.W.findIn K (.ref CInvalidRows) "position" = some none)
    (xg1_InvalidSize : PySem.W.excInitIn K CInvalidSize [.type "ValueError", .type "Exception", .type "BaseException", .type "object"] "ValueError.__new__" = true)
    (xg2_InvalidSize : PySem.W.excOver K CInvalidSize [.type "ValueError", .type "Exception", .type "BaseException", .type "object"] = true)
    (xg3_InvalidSize : hdB K CInvalidSize = true)
    (xs_InvalidSize : PySem.W.findIn K (.ref CInvalidSize) "__setattr__" = some (some (.builtin "object.__setattr__")))
    (xe_InvalidSize : PySem.W.subIn K (.ref CInvalidSize) (.type "BaseException") = some true)
    (xt_InvalidSize : PySem.W.typeIn K (.ref CInvalidSize) = some (.type "type"))
    (xp_InvalidSize : PySem.W.keepIn K (.ref CInvalidSize) = true)
    (no_InvalidSize_value : PySem.W.findIn K (.ref CInvalidSize) "value" = some none)
    (xg1_InvalidStander : PySem.W.excInitIn K CInvalidStander [.type "ValueError", .type "Exception", .type "BaseException", .type "object"] "ValueError.__new__" = true)
    (xg2_InvalidStander : PySem.W.excOver K CInvalidStander [.type "ValueError", .type "Exception", .type "BaseException", .type "object"] = true)
    (xg3_InvalidStander : hdB K CInvalidStander = true)
    (xs_InvalidStander : PySem.W.findIn K (.ref CInvalidStander) "__setattr__" = some (some (.builtin "object.__setattr__")))
    (xe_InvalidStander : PySem.W.subIn K (.ref CInvalidStander) (.type "BaseException") = some true)
    (xt_InvalidStander : PySem.W.typeIn K (.ref CInvalidStander) = some (.type "type"))
    (xp_InvalidStander : PySem.W.keepIn K (.ref CInvalidStander) = true)
    (no_InvalidStander_value : PySem.W.findIn K (.ref CInvalidStander) "value" = some none)
    (xg1_InvalidStep : PySem.W.excInitIn K CInvalidStep [.type "ValueError", .type "Exception", .type "BaseException", .type "object"] "ValueError.__new__" = true)
    (xg2_InvalidStep : PySem.W.excOver K CInvalidStep [.type "ValueError", .type "Exception", .type "BaseException", .type "object"] = true)
    (xg3_InvalidStep : hdB K CInvalidStep = true)
    (xs_InvalidStep : PySem.W.findIn K (.ref CInvalidStep) "__setattr__" = some (some (.builtin "object.__setattr__")))
    (xe_InvalidStep : PySem.W.subIn K (.ref CInvalidStep) (.type "BaseException") = some true)
    (xt_InvalidStep : PySem.W.typeIn K (.ref CInvalidStep) = some (.type "type"))
    (xp_InvalidStep : PySem.W.keepIn K (.ref CInvalidStep) = true)
    (no_InvalidStep_value : PySem.W.findIn K (.ref CInvalidStep) "value" = some none)
    (xg1_InvalidTeam : PySem.W.excInitIn K CInvalidTeam [.type "ValueError", .type "Exception", .type "BaseException", .type "object"] "ValueError.__new__" = true)
    (xg2_InvalidTeam : PySem.W.excOver K CInvalidTeam [.type "ValueError", .type "Exception", .type "BaseException", .type "object"] = true)
    (xg3_InvalidTeam : hdB K CInvalidTeam = true)
    (xs_InvalidTeam : PySem.W.findIn K (.ref CInvalidTeam) "__setattr__" = some (some (.builtin "object.__setattr__")))
    (xe_InvalidTeam : PySem.W.subIn K (.ref CInvalidTeam) (.type "BaseException") = some true)
    (xt_InvalidTeam : PySem.W.typeIn K (.ref CInvalidTeam) = some (.type "type"))
    (xp_InvalidTeam : PySem.W.keepIn K (.ref CInvalidTeam) = true)
    (no_InvalidTeam_value : PySem.W.findIn K (.ref CInvalidTeam) "value" = some none)
    (xg1_InvalidText : PySem.W.excInitIn K CInvalidText [.type "ValueError", .type "Exception", .type "BaseException", .type "object"] "ValueError.__new__" = true)
    (xg2_InvalidText : PySem.W.excOver K CInvalidText [.type "ValueError", .type "Exception", .type "BaseException", .type "object"] = true)
    (xg3_InvalidText : hdB K CInvalidText = true)
    (xs_InvalidText : PySem.W.findIn K (.ref CInvalidText) "__setattr__" = some (some (.builtin "object.__setattr__")))
    (xe_InvalidText : PySem.W.subIn K (.ref CInvalidText) (.type "BaseException") = some true)
    (xt_InvalidText : PySem.W.typeIn K (.ref CInvalidText) = some (.type "type"))
    (xp_InvalidText : PySem.W.keepIn K (.ref CInvalidText) = true)
    (no_InvalidText_line : PySem.W.findIn K (.ref CInvalidText) "line" = some none)
    (xg1_InvalidTurned : PySem.W.excInitIn K CInvalidTurned [.type "ValueError", .type "Exception", .type "BaseException", .type "object"] "ValueError.__new__" = true)
    (xg2_InvalidTurned : PySem.W.excOver K CInvalidTurned [.type "ValueError", .type "Exception", .type "BaseException", .type "object"] = true)
    (xg3_InvalidTurned : hdB K CInvalidTurned = true)
    (xs_InvalidTurned : PySem.W.findIn K (.ref CInvalidTurned) "__setattr__" = some (some (.builtin "object.__setattr__")))
    (xe_InvalidTurned : PySem.W.subIn K (.ref CInvalidTurned) (.type "BaseException") = some true)
    (xt_InvalidTurned : PySem.W.typeIn K (.ref CInvalidTurned) = some (.type "type"))
    (xp_InvalidTurned : PySem.W.keepIn K (.ref CInvalidTurned) = true)
    (no_InvalidTurned_value : PySem.W.findIn K (.ref CInvalidTurned) "value" = some none)
    (xg1_InvalidValues : PySem.W.excInitIn K CInvalidValues [.type "ValueError", .type "Exception", .type "BaseException", .type "object"] "ValueError.__new__" = true)
    (xg2_InvalidValues : PySem.W.excOver K CInvalidValues [.type "ValueError", .type "Exception", .type "BaseException", .type "object"] = true)
    (xg3_InvalidValues : hdB K CInvalidValues = true)
    (xs_InvalidValues : PySem.W.findIn K (.ref CInvalidValues) "__setattr__" = some (some (.builtin "object.__setattr__")))
    (xe_InvalidValues : PySem.W.subIn K (.ref CInvalidValues) (.type "BaseException") = some true)
    (xt_InvalidValues : PySem.W.typeIn K (.ref CInvalidValues) = some (.type "type"))
    (xp_InvalidValues : PySem.W.keepIn K (.ref CInvalidValues) = true)
    (no_InvalidValues_position : PySem.W.findIn K (.ref CInvalidValues) "position" = some none)
    (xg1_NoRound : PySem.W.excInitIn K CNoRound [.type "RuntimeError", .type "Exception", .type "BaseException", .type "object"] "RuntimeError.__new__" = true)
    (xg2_NoRound : PySem.W.excOver K CNoRound [.type "RuntimeError", .type "Exception", .type "BaseException", .type "object"] = true)
    (xg3_NoRound : hdB K CNoRound = true)
    (xs_NoRound : PySem.W.findIn K (.ref CNoRound) "__setattr__" = some (some (.builtin "object.__setattr__")))
    (xe_NoRound : PySem.W.subIn K (.ref CNoRound) (.type "BaseException") = some true)
    (xt_NoRound : PySem.W.typeIn K (.ref CNoRound) = some (.type "type"))
    (xp_NoRound : PySem.W.keepIn K (.ref CNoRound) = true)
    (xg1_NotOpen : PySem.W.excInitIn K CNotOpen [.type "RuntimeError", .type "Exception", .type "BaseException", .type "object"] "RuntimeError.__new__" = true)
    (xg2_NotOpen : PySem.W.excOver K CNotOpen [.type "RuntimeError", .type "Exception", .type "BaseException", .type "object"] = true)
    (xg3_NotOpen : hdB K CNotOpen = true)
    (xs_NotOpen : PySem.W.findIn K (.ref CNotOpen) "__setattr__" = some (some (.builtin "object.__setattr__")))
    (xe_NotOpen : PySem.W.subIn K (.ref CNotOpen) (.type "BaseException") = some true)
    (xt_NotOpen : PySem.W.typeIn K (.ref CNotOpen) = some (.type "type"))
    (xp_NotOpen : PySem.W.keepIn K (.ref CNotOpen) = true)
    (no_NotOpen_home : PySem.W.findIn K (.ref CNotOpen) "home" = some none)
    (no_NotOpen_away : PySem.W.findIn K (.ref CNotOpen) "away" = some none)
    (xg1_NotRight : PySem.W.excInitIn K CNotRight [.type "RuntimeError", .type "Exception", .type "BaseException", .type "object"] "RuntimeError.__new__" = true)
    (xg2_NotRight : PySem.W.excOver K CNotRight [.type "RuntimeError", .type "Exception", .type "BaseException", .type "object"] = true)
    (xg3_NotRight : hdB K CNotRight = true)
    (xs_NotRight : PySem.W.findIn K (.ref CNotRight) "__setattr__" = some (some (.builtin "object.__setattr__")))
    (xe_NotRight : PySem.W.subIn K (.ref CNotRight) (.type "BaseException") = some true)
    (xt_NotRight : PySem.W.typeIn K (.ref CNotRight) = some (.type "type"))
    (xp_NotRight : PySem.W.keepIn K (.ref CNotRight) = true)
    (no_NotRight_size : PySem.W.findIn K (.ref CNotRight) "size" = some none)
    (xg1_NotSingle : PySem.W.excInitIn K CNotSingle [.type "RuntimeError", .type "Exception", .type "BaseException", .type "object"] "RuntimeError.__new__" = true)
    (xg2_NotSingle : PySem.W.excOver K CNotSingle [.type "RuntimeError", .type "Exception", .type "BaseException", .type "object"] = true)
    (xg3_NotSingle : hdB K CNotSingle = true)
    (xs_NotSingle : PySem.W.findIn K (.ref CNotSingle) "__setattr__" = some (some (.builtin "object.__setattr__")))
    (xe_NotSingle : PySem.W.subIn K (.ref CNotSingle) (.type "BaseException") = some true)
    (xt_NotSingle : PySem.W.typeIn K (.ref CNotSingle) = some (.type "type"))
    (xp_NotSingle : PySem.W.keepIn K (.ref CNotSingle) = true)
    (no_NotSingle_one : PySem.W.findIn K (.ref CNotSingle) "one" = some none)
    (no_NotSingle_other : PySem.W.findIn K (.ref CNotSingle) "other" = some none)
    (xg1_NothingToUndo : PySem.W.excInitIn K CNothingToUndo [.type "RuntimeError", .type "Exception", .type "BaseException", .type "object"] "RuntimeError.__new__" = true)
    (xg2_NothingToUndo : PySem.W.excOver K CNothingToUndo [.type "RuntimeError", .type "Exception", .type "BaseException", .type "object"] = true)
    (xg3_NothingToUndo : hdB K CNothingToUndo = true)
    (xs_NothingToUndo : PySem.W.findIn K (.ref CNothingToUndo) "__setattr__" = some (some (.builtin "object.__setattr__")))
    (xe_NothingToUndo : PySem.W.subIn K (.ref CNothingToUndo) (.type "BaseException") = some true)
    (xt_NothingToUndo : PySem.W.typeIn K (.ref CNothingToUndo) = some (.type "type"))
    (xp_NothingToUndo : PySem.W.keepIn K (.ref CNothingToUndo) = true)
    (xg1_TooMany : PySem.W.excInitIn K CTooMany [.type "ArithmeticError", .type "Exception", .type "BaseException", .type "object"] "ArithmeticError.__new__" = true)
    (xg2_TooMany : PySem.W.excOver K CTooMany [.type "ArithmeticError", .type "Exception", .type "BaseException", .type "object"] = true)
    (xg3_TooMany : hdB K CTooMany = true)
    (xs_TooMany : PySem.W.findIn K (.ref CTooMany) "__setattr__" = some (some (.builtin "object.__setattr__")))
    (xe_TooMany : PySem.W.subIn K (.ref CTooMany) (.type "BaseException") = some true)
    (xt_TooMany : PySem.W.typeIn K (.ref CTooMany) = some (.type "type"))
    (xp_TooMany : PySem.W.keepIn K (.ref CTooMany) = true)
    (no_TooMany_what : PySem.W.findIn K (.ref CTooMany) "what" = some none)
    (no_TooMany_limit : PySem.W.findIn K (.ref CTooMany) "limit" = some none)
    (xg1_Unplayed : PySem.W.excInitIn K CUnplayed [.type "RuntimeError", .type "Exception", .type "BaseException", .type "object"] "RuntimeError.__new__" = true)
    (xg2_Unplayed : PySem.W.excOver K CUnplayed [.type "RuntimeError", .type "Exception", .type "BaseException", .type "object"] = true)
    (xg3_Unplayed : hdB K CUnplayed = true)
    (xs_Unplayed : PySem.W.findIn K (.ref CUnplayed) "__setattr__" = some (some (.builtin "object.__setattr__")))
    (xe_Unplayed : PySem.W.subIn K (.ref CUnplayed) (.type "BaseException") = some true)
    (xt_Unplayed : PySem.W.typeIn K (.ref CUnplayed) = some (.type "type"))
    (xp_Unplayed : PySem.W.keepIn K (.ref CUnplayed) = true)
    (no_Unplayed_home : PySem.W.findIn K (.ref CUnplayed) "home" = some none)
    (no_Unplayed_away : PySem.W.findIn K (.ref CUnplayed) "away" = some none)
    (xva1 : List.all [CInvalidFirst, CInvalidNumber, CInvalidPlace, CInvalidMarks, CInvalidStep, CInvalidStander, CInvalidTurned, CInvalidSize, CInvalidTeam, CInvalidRound, CInvalidCount, CInvalidClaim, CInvalidCommand, CInvalidValues, CInvalidRows, CInvalidRounds, CInvalidCells, CInvalidLegs, CInvalidLot, CInvalidFixed, CInvalidGauge, CInvalidText, CCommandFailed, CNotRight, CNotSingle, CNotOpen, CUnplayed, CTooMany, CNoRound, CNothingToUndo, CLeagueError, CStateError, CLimitError] (xvB K ["away", "home", "limit", "line", "one", "other", "position", "size", "value", "what"]) = true)
    (xva2 : PySem.W.specialIn K (.builtin "object.__class__") "__get__" = some (some (.builtin "getset_descriptor.__get__")))
    (xva3 : PySem.W.takesIn K (.builtin "object.__class__") = some true)
    (xk_ArithmeticError : kitA K (.type "ArithmeticError") [CInvalidFirst, CInvalidNumber, CInvalidPlace, CInvalidMarks, CInvalidStep, CInvalidStander, CInvalidTurned, CInvalidSize, CInvalidTeam, CInvalidRound, CInvalidCount, CInvalidClaim, CInvalidCommand, CInvalidValues, CInvalidRows, CInvalidRounds, CInvalidCells, CInvalidLegs, CInvalidLot, CInvalidFixed, CInvalidGauge, CInvalidText, CCommandFailed, CNotRight, CNotSingle, CNotOpen, CUnplayed, CTooMany, CNoRound, CNothingToUndo, CLeagueError, CStateError, CLimitError] xtb_ArithmeticError = true)
    (xd_ArithmeticError : PySem.W.kitOne K (.ref CInvalidFirst) (.type "ArithmeticError") = some false)
    (xk_CommandFailed : kitA K (.ref CCommandFailed) [CInvalidFirst, CInvalidNumber, CInvalidPlace, CInvalidMarks, CInvalidStep, CInvalidStander, CInvalidTurned, CInvalidSize, CInvalidTeam, CInvalidRound, CInvalidCount, CInvalidClaim, CInvalidCommand, CInvalidValues, CInvalidRows, CInvalidRounds, CInvalidCells, CInvalidLegs, CInvalidLot, CInvalidFixed, CInvalidGauge, CInvalidText, CCommandFailed, CNotRight, CNotSingle, CNotOpen, CUnplayed, CTooMany, CNoRound, CNothingToUndo, CLeagueError, CStateError, CLimitError] xtb_CommandFailed = true)
    (xd_CommandFailed : PySem.W.kitOne K (.ref CInvalidFirst) (.ref CCommandFailed) = some false)
    (xk_InvalidCells : kitA K (.ref CInvalidCells) [CInvalidFirst, CInvalidNumber, CInvalidPlace, CInvalidMarks, CInvalidStep, CInvalidStander, CInvalidTurned, CInvalidSize, CInvalidTeam, CInvalidRound, CInvalidCount, CInvalidClaim, CInvalidCommand, CInvalidValues, CInvalidRows, CInvalidRounds, CInvalidCells, CInvalidLegs, CInvalidLot, CInvalidFixed, CInvalidGauge, CInvalidText, CCommandFailed, CNotRight, CNotSingle, CNotOpen, CUnplayed, CTooMany, CNoRound, CNothingToUndo, CLeagueError, CStateError, CLimitError] xtb_InvalidCells = true)
    (xd_InvalidCells : PySem.W.kitOne K (.ref CInvalidFirst) (.ref CInvalidCells) = some false)
    (xk_InvalidClaim : kitA K (.ref CInvalidClaim) [CInvalidFirst, CInvalidNumber, CInvalidPlace, CInvalidMarks, CInvalidStep, CInvalidStander, CInvalidTurned, CInvalidSize, CInvalidTeam, CInvalidRound, CInvalidCount, CInvalidClaim, CInvalidCommand, CInvalidValues, CInvalidRows, CInvalidRounds, CInvalidCells, CInvalidLegs, CInvalidLot, CInvalidFixed, CInvalidGauge, CInvalidText, CCommandFailed, CNotRight, CNotSingle, CNotOpen, CUnplayed, CTooMany, CNoRound, CNothingToUndo, CLeagueError, CStateError, CLimitError] xtb_InvalidClaim = true)
    (xd_InvalidClaim : PySem.W.kitOne K (.ref CInvalidFirst) (.ref CInvalidClaim) = some false)
    (xk_InvalidCommand : kitA K (.ref CInvalidCommand) [CInvalidFirst, CInvalidNumber, CInvalidPlace, CInvalidMarks, CInvalidStep, CInvalidStander, CInvalidTurned, CInvalidSize, CInvalidTeam, CInvalidRound, CInvalidCount, CInvalidClaim, CInvalidCommand, CInvalidValues, CInvalidRows, CInvalidRounds, CInvalidCells, CInvalidLegs, CInvalidLot, CInvalidFixed, CInvalidGauge, CInvalidText, CCommandFailed, CNotRight, CNotSingle, CNotOpen, CUnplayed, CTooMany, CNoRound, CNothingToUndo, CLeagueError, CStateError, CLimitError] xtb_InvalidCommand = true)
    (xd_InvalidCommand : PySem.W.kitOne K (.ref CInvalidFirst) (.ref CInvalidCommand) = some false)
    (xk_InvalidCount : kitA K (.ref CInvalidCount) [CInvalidFirst, CInvalidNumber, CInvalidPlace, CInvalidMarks, CInvalidStep, CInvalidStander, CInvalidTurned, CInvalidSize, CInvalidTeam, CInvalidRound, CInvalidCount, CInvalidClaim, CInvalidCommand, CInvalidValues, CInvalidRows, CInvalidRounds, CInvalidCells, CInvalidLegs, CInvalidLot, CInvalidFixed, CInvalidGauge, CInvalidText, CCommandFailed, CNotRight, CNotSingle, CNotOpen, CUnplayed, CTooMany, CNoRound, CNothingToUndo, CLeagueError, CStateError, CLimitError] xtb_InvalidCount = true)
    (xd_InvalidCount : PySem.W.kitOne K (.ref CInvalidFirst) (.ref CInvalidCount) = some false)
    (xk_InvalidFirst : kitA K (.ref CInvalidFirst) [CInvalidFirst, CInvalidNumber, CInvalidPlace, CInvalidMarks, CInvalidStep, CInvalidStander, CInvalidTurned, CInvalidSize, CInvalidTeam, CInvalidRound, CInvalidCount, CInvalidClaim, CInvalidCommand, CInvalidValues, CInvalidRows, CInvalidRounds, CInvalidCells, CInvalidLegs, CInvalidLot, CInvalidFixed, CInvalidGauge, CInvalidText, CCommandFailed, CNotRight, CNotSingle, CNotOpen, CUnplayed, CTooMany, CNoRound, CNothingToUndo, CLeagueError, CStateError, CLimitError] xtb_InvalidFirst = true)
    (xd_InvalidFirst : PySem.W.kitOne K (.ref CInvalidFirst) (.ref CInvalidFirst) = some true)
    (xk_InvalidFixed : kitA K (.ref CInvalidFixed) [CInvalidFirst, CInvalidNumber, CInvalidPlace, CInvalidMarks, CInvalidStep, CInvalidStander, CInvalidTurned, CInvalidSize, CInvalidTeam, CInvalidRound, CInvalidCount, CInvalidClaim, CInvalidCommand, CInvalidValues, CInvalidRows, CInvalidRounds, CInvalidCells, CInvalidLegs, CInvalidLot, CInvalidFixed, CInvalidGauge, CInvalidText, CCommandFailed, CNotRight, CNotSingle, CNotOpen, CUnplayed, CTooMany, CNoRound, CNothingToUndo, CLeagueError, CStateError, CLimitError] xtb_InvalidFixed = true)
    (xd_InvalidFixed : PySem.W.kitOne K (.ref CInvalidFirst) (.ref CInvalidFixed) = some false)
    (xk_InvalidGauge : kitA K (.ref CInvalidGauge) [CInvalidFirst, CInvalidNumber, CInvalidPlace, CInvalidMarks, CInvalidStep, CInvalidStander, CInvalidTurned, CInvalidSize, CInvalidTeam, CInvalidRound, CInvalidCount, CInvalidClaim, CInvalidCommand, CInvalidValues, CInvalidRows, CInvalidRounds, CInvalidCells, CInvalidLegs, CInvalidLot, CInvalidFixed, CInvalidGauge, CInvalidText, CCommandFailed, CNotRight, CNotSingle, CNotOpen, CUnplayed, CTooMany, CNoRound, CNothingToUndo, CLeagueError, CStateError, CLimitError] xtb_InvalidGauge = true)
    (xd_InvalidGauge : PySem.W.kitOne K (.ref CInvalidFirst) (.ref CInvalidGauge) = some false)
    (xk_InvalidLegs : kitA K (.ref CInvalidLegs) [CInvalidFirst, CInvalidNumber, CInvalidPlace, CInvalidMarks, CInvalidStep, CInvalidStander, CInvalidTurned, CInvalidSize, CInvalidTeam, CInvalidRound, CInvalidCount, CInvalidClaim, CInvalidCommand, CInvalidValues, CInvalidRows, CInvalidRounds, CInvalidCells, CInvalidLegs, CInvalidLot, CInvalidFixed, CInvalidGauge, CInvalidText, CCommandFailed, CNotRight, CNotSingle, CNotOpen, CUnplayed, CTooMany, CNoRound, CNothingToUndo, CLeagueError, CStateError, CLimitError] xtb_InvalidLegs = true)
    (xd_InvalidLegs : PySem.W.kitOne K (.ref CInvalidFirst) (.ref CInvalidLegs) = some false)
    (xk_InvalidLot : kitA K (.ref CInvalidLot) [CInvalidFirst, CInvalidNumber, CInvalidPlace, CInvalidMarks, CInvalidStep, CInvalidStander, CInvalidTurned, CInvalidSize, CInvalidTeam, CInvalidRound, CInvalidCount, CInvalidClaim, CInvalidCommand, CInvalidValues, CInvalidRows, CInvalidRounds, CInvalidCells, CInvalidLegs, CInvalidLot, CInvalidFixed, CInvalidGauge, CInvalidText, CCommandFailed, CNotRight, CNotSingle, CNotOpen, CUnplayed, CTooMany, CNoRound, CNothingToUndo, CLeagueError, CStateError, CLimitError] xtb_InvalidLot = true)
    (xd_InvalidLot : PySem.W.kitOne K (.ref CInvalidFirst) (.ref CInvalidLot) = some false)
    (xk_InvalidMarks : kitA K (.ref CInvalidMarks) [CInvalidFirst, CInvalidNumber, CInvalidPlace, CInvalidMarks, CInvalidStep, CInvalidStander, CInvalidTurned, CInvalidSize, CInvalidTeam, CInvalidRound, CInvalidCount, CInvalidClaim, CInvalidCommand, CInvalidValues, CInvalidRows, CInvalidRounds, CInvalidCells, CInvalidLegs, CInvalidLot, CInvalidFixed, CInvalidGauge, CInvalidText, CCommandFailed, CNotRight, CNotSingle, CNotOpen, CUnplayed, CTooMany, CNoRound, CNothingToUndo, CLeagueError, CStateError, CLimitError] xtb_InvalidMarks = true)
    (xd_InvalidMarks : PySem.W.kitOne K (.ref CInvalidFirst) (.ref CInvalidMarks) = some false)
    (xk_InvalidNumber : kitA K (.ref CInvalidNumber) [CInvalidFirst, CInvalidNumber, CInvalidPlace, CInvalidMarks, CInvalidStep, CInvalidStander, CInvalidTurned, CInvalidSize, CInvalidTeam, CInvalidRound, CInvalidCount, CInvalidClaim, CInvalidCommand, CInvalidValues, CInvalidRows, CInvalidRounds, CInvalidCells, CInvalidLegs, CInvalidLot, CInvalidFixed, CInvalidGauge, CInvalidText, CCommandFailed, CNotRight, CNotSingle, CNotOpen, CUnplayed, CTooMany, CNoRound, CNothingToUndo, CLeagueError, CStateError, CLimitError] xtb_InvalidNumber = true)
    (xd_InvalidNumber : PySem.W.kitOne K (.ref CInvalidFirst) (.ref CInvalidNumber) = some false)
    (xk_InvalidPlace : kitA K (.ref CInvalidPlace) [CInvalidFirst, CInvalidNumber, CInvalidPlace, CInvalidMarks, CInvalidStep, CInvalidStander, CInvalidTurned, CInvalidSize, CInvalidTeam, CInvalidRound, CInvalidCount, CInvalidClaim, CInvalidCommand, CInvalidValues, CInvalidRows, CInvalidRounds, CInvalidCells, CInvalidLegs, CInvalidLot, CInvalidFixed, CInvalidGauge, CInvalidText, CCommandFailed, CNotRight, CNotSingle, CNotOpen, CUnplayed, CTooMany, CNoRound, CNothingToUndo, CLeagueError, CStateError, CLimitError] xtb_InvalidPlace = true)
    (xd_InvalidPlace : PySem.W.kitOne K (.ref CInvalidFirst) (.ref CInvalidPlace) = some false)
    (xk_InvalidRound : kitA K (.ref CInvalidRound) [CInvalidFirst, CInvalidNumber, CInvalidPlace, CInvalidMarks, CInvalidStep, CInvalidStander, CInvalidTurned, CInvalidSize, CInvalidTeam, CInvalidRound, CInvalidCount, CInvalidClaim, CInvalidCommand, CInvalidValues, CInvalidRows, CInvalidRounds, CInvalidCells, CInvalidLegs, CInvalidLot, CInvalidFixed, CInvalidGauge, CInvalidText, CCommandFailed, CNotRight, CNotSingle, CNotOpen, CUnplayed, CTooMany, CNoRound, CNothingToUndo, CLeagueError, CStateError, CLimitError] xtb_InvalidRound = true)
    (xd_InvalidRound : PySem.W.kitOne K (.ref CInvalidFirst) (.ref CInvalidRound) = some false)
    (xk_InvalidRounds : kitA K (.ref CInvalidRounds) [CInvalidFirst, CInvalidNumber, CInvalidPlace, CInvalidMarks, CInvalidStep, CInvalidStander, CInvalidTurned, CInvalidSize, CInvalidTeam, CInvalidRound, CInvalidCount, CInvalidClaim, CInvalidCommand, CInvalidValues, CInvalidRows, CInvalidRounds, CInvalidCells, CInvalidLegs, CInvalidLot, CInvalidFixed, CInvalidGauge, CInvalidText, CCommandFailed, CNotRight, CNotSingle, CNotOpen, CUnplayed, CTooMany, CNoRound, CNothingToUndo, CLeagueError, CStateError, CLimitError] xtb_InvalidRounds = true)
    (xd_InvalidRounds : PySem.W.kitOne K (.ref CInvalidFirst) (.ref CInvalidRounds) = some false)
    (xk_InvalidRows : kitA K (.ref CInvalidRows) [CInvalidFirst, CInvalidNumber, CInvalidPlace, CInvalidMarks, CInvalidStep, CInvalidStander, CInvalidTurned, CInvalidSize, CInvalidTeam, CInvalidRound, CInvalidCount, CInvalidClaim, CInvalidCommand, CInvalidValues, CInvalidRows, CInvalidRounds, CInvalidCells, CInvalidLegs, CInvalidLot, CInvalidFixed, CInvalidGauge, CInvalidText, CCommandFailed, CNotRight, CNotSingle, CNotOpen, CUnplayed, CTooMany, CNoRound, CNothingToUndo, CLeagueError, CStateError, CLimitError] xtb_InvalidRows = true)
    (xd_InvalidRows : PySem.W.kitOne K (.ref CInvalidFirst) (.ref CInvalidRows) = some false)
    (xk_InvalidSize : kitA K (.ref CInvalidSize) [CInvalidFirst, CInvalidNumber, CInvalidPlace, CInvalidMarks, CInvalidStep, CInvalidStander, CInvalidTurned, CInvalidSize, CInvalidTeam, CInvalidRound, CInvalidCount, CInvalidClaim, CInvalidCommand, CInvalidValues, CInvalidRows, CInvalidRounds, CInvalidCells, CInvalidLegs, CInvalidLot, CInvalidFixed, CInvalidGauge, CInvalidText, CCommandFailed, CNotRight, CNotSingle, CNotOpen, CUnplayed, CTooMany, CNoRound, CNothingToUndo, CLeagueError, CStateError, CLimitError] xtb_InvalidSize = true)
    (xd_InvalidSize : PySem.W.kitOne K (.ref CInvalidFirst) (.ref CInvalidSize) = some false)
    (xk_InvalidStander : kitA K (.ref CInvalidStander) [CInvalidFirst, CInvalidNumber, CInvalidPlace, CInvalidMarks, CInvalidStep, CInvalidStander, CInvalidTurned, CInvalidSize, CInvalidTeam, CInvalidRound, CInvalidCount, CInvalidClaim, CInvalidCommand, CInvalidValues, CInvalidRows, CInvalidRounds, CInvalidCells, CInvalidLegs, CInvalidLot, CInvalidFixed, CInvalidGauge, CInvalidText, CCommandFailed, CNotRight, CNotSingle, CNotOpen, CUnplayed, CTooMany, CNoRound, CNothingToUndo, CLeagueError, CStateError, CLimitError] xtb_InvalidStander = true)
    (xd_InvalidStander : PySem.W.kitOne K (.ref CInvalidFirst) (.ref CInvalidStander) = some false)
    (xk_InvalidStep : kitA K (.ref CInvalidStep) [CInvalidFirst, CInvalidNumber, CInvalidPlace, CInvalidMarks, CInvalidStep, CInvalidStander, CInvalidTurned, CInvalidSize, CInvalidTeam, CInvalidRound, CInvalidCount, CInvalidClaim, CInvalidCommand, CInvalidValues, CInvalidRows, CInvalidRounds, CInvalidCells, CInvalidLegs, CInvalidLot, CInvalidFixed, CInvalidGauge, CInvalidText, CCommandFailed, CNotRight, CNotSingle, CNotOpen, CUnplayed, CTooMany, CNoRound, CNothingToUndo, CLeagueError, CStateError, CLimitError] xtb_InvalidStep = true)
    (xd_InvalidStep : PySem.W.kitOne K (.ref CInvalidFirst) (.ref CInvalidStep) = some false)
    (xk_InvalidTeam : kitA K (.ref CInvalidTeam) [CInvalidFirst, CInvalidNumber, CInvalidPlace, CInvalidMarks, CInvalidStep, CInvalidStander, CInvalidTurned, CInvalidSize, CInvalidTeam, CInvalidRound, CInvalidCount, CInvalidClaim, CInvalidCommand, CInvalidValues, CInvalidRows, CInvalidRounds, CInvalidCells, CInvalidLegs, CInvalidLot, CInvalidFixed, CInvalidGauge, CInvalidText, CCommandFailed, CNotRight, CNotSingle, CNotOpen, CUnplayed, CTooMany, CNoRound, CNothingToUndo, CLeagueError, CStateError, CLimitError] xtb_InvalidTeam = true)
    (xd_InvalidTeam : PySem.W.kitOne K (.ref CInvalidFirst) (.ref CInvalidTeam) = some false)
    (xk_InvalidText : kitA K (.ref CInvalidText) [CInvalidFirst, CInvalidNumber, CInvalidPlace, CInvalidMarks, CInvalidStep, CInvalidStander, CInvalidTurned, CInvalidSize, CInvalidTeam, CInvalidRound, CInvalidCount, CInvalidClaim, CInvalidCommand, CInvalidValues, CInvalidRows, CInvalidRounds, CInvalidCells, CInvalidLegs, CInvalidLot, CInvalidFixed, CInvalidGauge, CInvalidText, CCommandFailed, CNotRight, CNotSingle, CNotOpen, CUnplayed, CTooMany, CNoRound, CNothingToUndo, CLeagueError, CStateError, CLimitError] xtb_InvalidText = true)
    (xd_InvalidText : PySem.W.kitOne K (.ref CInvalidFirst) (.ref CInvalidText) = some false)
    (xk_InvalidTurned : kitA K (.ref CInvalidTurned) [CInvalidFirst, CInvalidNumber, CInvalidPlace, CInvalidMarks, CInvalidStep, CInvalidStander, CInvalidTurned, CInvalidSize, CInvalidTeam, CInvalidRound, CInvalidCount, CInvalidClaim, CInvalidCommand, CInvalidValues, CInvalidRows, CInvalidRounds, CInvalidCells, CInvalidLegs, CInvalidLot, CInvalidFixed, CInvalidGauge, CInvalidText, CCommandFailed, CNotRight, CNotSingle, CNotOpen, CUnplayed, CTooMany, CNoRound, CNothingToUndo, CLeagueError, CStateError, CLimitError] xtb_InvalidTurned = true)
    (xd_InvalidTurned : PySem.W.kitOne K (.ref CInvalidFirst) (.ref CInvalidTurned) = some false)
    (xk_InvalidValues : kitA K (.ref CInvalidValues) [CInvalidFirst, CInvalidNumber, CInvalidPlace, CInvalidMarks, CInvalidStep, CInvalidStander, CInvalidTurned, CInvalidSize, CInvalidTeam, CInvalidRound, CInvalidCount, CInvalidClaim, CInvalidCommand, CInvalidValues, CInvalidRows, CInvalidRounds, CInvalidCells, CInvalidLegs, CInvalidLot, CInvalidFixed, CInvalidGauge, CInvalidText, CCommandFailed, CNotRight, CNotSingle, CNotOpen, CUnplayed, CTooMany, CNoRound, CNothingToUndo, CLeagueError, CStateError, CLimitError] xtb_InvalidValues = true)
    (xd_InvalidValues : PySem.W.kitOne K (.ref CInvalidFirst) (.ref CInvalidValues) = some false)
    (xk_LeagueError : kitA K (.ref CLeagueError) [CInvalidFirst, CInvalidNumber, CInvalidPlace, CInvalidMarks, CInvalidStep, CInvalidStander, CInvalidTurned, CInvalidSize, CInvalidTeam, CInvalidRound, CInvalidCount, CInvalidClaim, CInvalidCommand, CInvalidValues, CInvalidRows, CInvalidRounds, CInvalidCells, CInvalidLegs, CInvalidLot, CInvalidFixed, CInvalidGauge, CInvalidText, CCommandFailed, CNotRight, CNotSingle, CNotOpen, CUnplayed, CTooMany, CNoRound, CNothingToUndo, CLeagueError, CStateError, CLimitError] xtb_LeagueError = true)
    (xd_LeagueError : PySem.W.kitOne K (.ref CInvalidFirst) (.ref CLeagueError) = some true)
    (xk_LimitError : kitA K (.ref CLimitError) [CInvalidFirst, CInvalidNumber, CInvalidPlace, CInvalidMarks, CInvalidStep, CInvalidStander, CInvalidTurned, CInvalidSize, CInvalidTeam, CInvalidRound, CInvalidCount, CInvalidClaim, CInvalidCommand, CInvalidValues, CInvalidRows, CInvalidRounds, CInvalidCells, CInvalidLegs, CInvalidLot, CInvalidFixed, CInvalidGauge, CInvalidText, CCommandFailed, CNotRight, CNotSingle, CNotOpen, CUnplayed, CTooMany, CNoRound, CNothingToUndo, CLeagueError, CStateError, CLimitError] xtb_LimitError = true)
    (xd_LimitError : PySem.W.kitOne K (.ref CInvalidFirst) (.ref CLimitError) = some false)
    (xk_LookupError : kitA K (.type "LookupError") [CInvalidFirst, CInvalidNumber, CInvalidPlace, CInvalidMarks, CInvalidStep, CInvalidStander, CInvalidTurned, CInvalidSize, CInvalidTeam, CInvalidRound, CInvalidCount, CInvalidClaim, CInvalidCommand, CInvalidValues, CInvalidRows, CInvalidRounds, CInvalidCells, CInvalidLegs, CInvalidLot, CInvalidFixed, CInvalidGauge, CInvalidText, CCommandFailed, CNotRight, CNotSingle, CNotOpen, CUnplayed, CTooMany, CNoRound, CNothingToUndo, CLeagueError, CStateError, CLimitError] xtb_LookupError = true)
    (xd_LookupError : PySem.W.kitOne K (.ref CInvalidFirst) (.type "LookupError") = some false)
    (xk_NoRound : kitA K (.ref CNoRound) [CInvalidFirst, CInvalidNumber, CInvalidPlace, CInvalidMarks, CInvalidStep, CInvalidStander, CInvalidTurned, CInvalidSize, CInvalidTeam, CInvalidRound, CInvalidCount, CInvalidClaim, CInvalidCommand, CInvalidValues, CInvalidRows, CInvalidRounds, CInvalidCells, CInvalidLegs, CInvalidLot, CInvalidFixed, CInvalidGauge, CInvalidText, CCommandFailed, CNotRight, CNotSingle, CNotOpen, CUnplayed, CTooMany, CNoRound, CNothingToUndo, CLeagueError, CStateError, CLimitError] xtb_NoRound = true)
    (xd_NoRound : PySem.W.kitOne K (.ref CInvalidFirst) (.ref CNoRound) = some false)
    (xk_NotOpen : kitA K (.ref CNotOpen) [CInvalidFirst, CInvalidNumber, CInvalidPlace, CInvalidMarks, CInvalidStep, CInvalidStander, CInvalidTurned, CInvalidSize, CInvalidTeam, CInvalidRound, CInvalidCount, CInvalidClaim, CInvalidCommand, CInvalidValues, CInvalidRows, CInvalidRounds, CInvalidCells, CInvalidLegs, CInvalidLot, CInvalidFixed, CInvalidGauge, CInvalidText, CCommandFailed, CNotRight, CNotSingle, CNotOpen, CUnplayed, CTooMany, CNoRound, CNothingToUndo, CLeagueError, CStateError, CLimitError] xtb_NotOpen = true)
    (xd_NotOpen : PySem.W.kitOne K (.ref CInvalidFirst) (.ref CNotOpen) = some false)
    (xk_NotRight : kitA K (.ref CNotRight) [CInvalidFirst, CInvalidNumber, CInvalidPlace, CInvalidMarks, CInvalidStep, CInvalidStander, CInvalidTurned, CInvalidSize, CInvalidTeam, CInvalidRound, CInvalidCount, CInvalidClaim, CInvalidCommand, CInvalidValues, CInvalidRows, CInvalidRounds, CInvalidCells, CInvalidLegs, CInvalidLot, CInvalidFixed, CInvalidGauge, CInvalidText, CCommandFailed, CNotRight, CNotSingle, CNotOpen, CUnplayed, CTooMany, CNoRound, CNothingToUndo, CLeagueError, CStateError, CLimitError] xtb_NotRight = true)
    (xd_NotRight : PySem.W.kitOne K (.ref CInvalidFirst) (.ref CNotRight) = some false)
    (xk_NotSingle : kitA K (.ref CNotSingle) [CInvalidFirst, CInvalidNumber, CInvalidPlace, CInvalidMarks, CInvalidStep, CInvalidStander, CInvalidTurned, CInvalidSize, CInvalidTeam, CInvalidRound, CInvalidCount, CInvalidClaim, CInvalidCommand, CInvalidValues, CInvalidRows, CInvalidRounds, CInvalidCells, CInvalidLegs, CInvalidLot, CInvalidFixed, CInvalidGauge, CInvalidText, CCommandFailed, CNotRight, CNotSingle, CNotOpen, CUnplayed, CTooMany, CNoRound, CNothingToUndo, CLeagueError, CStateError, CLimitError] xtb_NotSingle = true)
    (xd_NotSingle : PySem.W.kitOne K (.ref CInvalidFirst) (.ref CNotSingle) = some false)
    (xk_NothingToUndo : kitA K (.ref CNothingToUndo) [CInvalidFirst, CInvalidNumber, CInvalidPlace, CInvalidMarks, CInvalidStep, CInvalidStander, CInvalidTurned, CInvalidSize, CInvalidTeam, CInvalidRound, CInvalidCount, CInvalidClaim, CInvalidCommand, CInvalidValues, CInvalidRows, CInvalidRounds, CInvalidCells, CInvalidLegs, CInvalidLot, CInvalidFixed, CInvalidGauge, CInvalidText, CCommandFailed, CNotRight, CNotSingle, CNotOpen, CUnplayed, CTooMany, CNoRound, CNothingToUndo, CLeagueError, CStateError, CLimitError] xtb_NothingToUndo = true)
    (xd_NothingToUndo : PySem.W.kitOne K (.ref CInvalidFirst) (.ref CNothingToUndo) = some false)
    (xk_RuntimeError : kitA K (.type "RuntimeError") [CInvalidFirst, CInvalidNumber, CInvalidPlace, CInvalidMarks, CInvalidStep, CInvalidStander, CInvalidTurned, CInvalidSize, CInvalidTeam, CInvalidRound, CInvalidCount, CInvalidClaim, CInvalidCommand, CInvalidValues, CInvalidRows, CInvalidRounds, CInvalidCells, CInvalidLegs, CInvalidLot, CInvalidFixed, CInvalidGauge, CInvalidText, CCommandFailed, CNotRight, CNotSingle, CNotOpen, CUnplayed, CTooMany, CNoRound, CNothingToUndo, CLeagueError, CStateError, CLimitError] xtb_RuntimeError = true)
    (xd_RuntimeError : PySem.W.kitOne K (.ref CInvalidFirst) (.type "RuntimeError") = some false)
    (xk_StateError : kitA K (.ref CStateError) [CInvalidFirst, CInvalidNumber, CInvalidPlace, CInvalidMarks, CInvalidStep, CInvalidStander, CInvalidTurned, CInvalidSize, CInvalidTeam, CInvalidRound, CInvalidCount, CInvalidClaim, CInvalidCommand, CInvalidValues, CInvalidRows, CInvalidRounds, CInvalidCells, CInvalidLegs, CInvalidLot, CInvalidFixed, CInvalidGauge, CInvalidText, CCommandFailed, CNotRight, CNotSingle, CNotOpen, CUnplayed, CTooMany, CNoRound, CNothingToUndo, CLeagueError, CStateError, CLimitError] xtb_StateError = true)
    (xd_StateError : PySem.W.kitOne K (.ref CInvalidFirst) (.ref CStateError) = some false)
    (xk_TooMany : kitA K (.ref CTooMany) [CInvalidFirst, CInvalidNumber, CInvalidPlace, CInvalidMarks, CInvalidStep, CInvalidStander, CInvalidTurned, CInvalidSize, CInvalidTeam, CInvalidRound, CInvalidCount, CInvalidClaim, CInvalidCommand, CInvalidValues, CInvalidRows, CInvalidRounds, CInvalidCells, CInvalidLegs, CInvalidLot, CInvalidFixed, CInvalidGauge, CInvalidText, CCommandFailed, CNotRight, CNotSingle, CNotOpen, CUnplayed, CTooMany, CNoRound, CNothingToUndo, CLeagueError, CStateError, CLimitError] xtb_TooMany = true)
    (xd_TooMany : PySem.W.kitOne K (.ref CInvalidFirst) (.ref CTooMany) = some false)
    (xk_TypeError : kitA K (.type "TypeError") [CInvalidFirst, CInvalidNumber, CInvalidPlace, CInvalidMarks, CInvalidStep, CInvalidStander, CInvalidTurned, CInvalidSize, CInvalidTeam, CInvalidRound, CInvalidCount, CInvalidClaim, CInvalidCommand, CInvalidValues, CInvalidRows, CInvalidRounds, CInvalidCells, CInvalidLegs, CInvalidLot, CInvalidFixed, CInvalidGauge, CInvalidText, CCommandFailed, CNotRight, CNotSingle, CNotOpen, CUnplayed, CTooMany, CNoRound, CNothingToUndo, CLeagueError, CStateError, CLimitError] xtb_TypeError = true)
    (xd_TypeError : PySem.W.kitOne K (.ref CInvalidFirst) (.type "TypeError") = some false)
    (xk_Unplayed : kitA K (.ref CUnplayed) [CInvalidFirst, CInvalidNumber, CInvalidPlace, CInvalidMarks, CInvalidStep, CInvalidStander, CInvalidTurned, CInvalidSize, CInvalidTeam, CInvalidRound, CInvalidCount, CInvalidClaim, CInvalidCommand, CInvalidValues, CInvalidRows, CInvalidRounds, CInvalidCells, CInvalidLegs, CInvalidLot, CInvalidFixed, CInvalidGauge, CInvalidText, CCommandFailed, CNotRight, CNotSingle, CNotOpen, CUnplayed, CTooMany, CNoRound, CNothingToUndo, CLeagueError, CStateError, CLimitError] xtb_Unplayed = true)
    (xd_Unplayed : PySem.W.kitOne K (.ref CInvalidFirst) (.ref CUnplayed) = some false)
    (xk_ValueError : kitA K (.type "ValueError") [CInvalidFirst, CInvalidNumber, CInvalidPlace, CInvalidMarks, CInvalidStep, CInvalidStander, CInvalidTurned, CInvalidSize, CInvalidTeam, CInvalidRound, CInvalidCount, CInvalidClaim, CInvalidCommand, CInvalidValues, CInvalidRows, CInvalidRounds, CInvalidCells, CInvalidLegs, CInvalidLot, CInvalidFixed, CInvalidGauge, CInvalidText, CCommandFailed, CNotRight, CNotSingle, CNotOpen, CUnplayed, CTooMany, CNoRound, CNothingToUndo, CLeagueError, CStateError, CLimitError] xtb_ValueError = true)
    (xd_ValueError : PySem.W.kitOne K (.ref CInvalidFirst) (.type "ValueError") = some true)
    (xk_ZeroDivisionError : kitA K (.type "ZeroDivisionError") [CInvalidFirst, CInvalidNumber, CInvalidPlace, CInvalidMarks, CInvalidStep, CInvalidStander, CInvalidTurned, CInvalidSize, CInvalidTeam, CInvalidRound, CInvalidCount, CInvalidClaim, CInvalidCommand, CInvalidValues, CInvalidRows, CInvalidRounds, CInvalidCells, CInvalidLegs, CInvalidLot, CInvalidFixed, CInvalidGauge, CInvalidText, CCommandFailed, CNotRight, CNotSingle, CNotOpen, CUnplayed, CTooMany, CNoRound, CNothingToUndo, CLeagueError, CStateError, CLimitError] xtb_ZeroDivisionError = true)
    (xd_ZeroDivisionError : PySem.W.kitOne K (.ref CInvalidFirst) (.type "ZeroDivisionError") = some false)
    (x0_LeagueError : PySem.W.excIn K CLeagueError [.type "ValueError", .type "Exception", .type "BaseException", .type "object"] "ValueError.__new__" = true)
    (kp_LeagueError : PySem.W.keepIn K (.ref CLeagueError) = true)
    (x0_LimitError : PySem.W.excIn K CLimitError [.type "ArithmeticError", .type "Exception", .type "BaseException", .type "object"] "ArithmeticError.__new__" = true)
    (kp_LimitError : PySem.W.keepIn K (.ref CLimitError) = true)
    (x0_StateError : PySem.W.excIn K CStateError [.type "RuntimeError", .type "Exception", .type "BaseException", .type "object"] "RuntimeError.__new__" = true)
    (kp_StateError : PySem.W.keepIn K (.ref CStateError) = true)
    (z_ArithmeticError : PySem.W.nsIn K mainGlobals "ArithmeticError" = some none)
    (z_LookupError : PySem.W.nsIn K mainGlobals "LookupError" = some none)
    (z_RuntimeError : PySem.W.nsIn K mainGlobals "RuntimeError" = some none)
    (z_TypeError : PySem.W.nsIn K mainGlobals "TypeError" = some none)
    (z_ValueError : PySem.W.nsIn K mainGlobals "ValueError" = some none)
    (z_ZeroDivisionError : PySem.W.nsIn K mainGlobals "ZeroDivisionError" = some none)
    (z_abs : PySem.W.nsIn K mainGlobals "abs" = some none)
    (z_all : PySem.W.nsIn K mainGlobals "all" = some none)
    (z_dict : PySem.W.nsIn K mainGlobals "dict" = some none)
    (z_divmod : PySem.W.nsIn K mainGlobals "divmod" = some none)
    (z_enumerate : PySem.W.nsIn K mainGlobals "enumerate" = some none)
    (z_int : PySem.W.nsIn K mainGlobals "int" = some none)
    (z_isinstance : PySem.W.nsIn K mainGlobals "isinstance" = some none)
    (z_len : PySem.W.nsIn K mainGlobals "len" = some none)
    (z_list : PySem.W.nsIn K mainGlobals "list" = some none)
    (z_max : PySem.W.nsIn K mainGlobals "max" = some none)
    (z_min : PySem.W.nsIn K mainGlobals "min" = some none)
    (z_range : PySem.W.nsIn K mainGlobals "range" = some none)
    (z_repr : PySem.W.nsIn K mainGlobals "repr" = some none)
    (z_tuple : PySem.W.nsIn K mainGlobals "tuple" = some none)
    (z_zip : PySem.W.nsIn K mainGlobals "zip" = some none) :
    ∃ fd : FuncData, (∀ (s : Shared) (v : Value), BindsTo s fd ⟨[v], []⟩ [("_law_script", v)]) ∧ ∀ base : Heap, K.In base → base.Ns mainGlobals mg → FnG l.prog w K mg base 5 fa fd ["_law_script"] (sp_law K) := by
  have e := hfa.symm.trans (PySem.W.mg_of X G a_law)
  cases e
  have T : Txt w K mg ⟨Adraw, (PySem.W.fnOf "_law_draw" "_law_draw" (defArgs s_draw) (defBody s_draw) (defScope s_draw) .none kVdraw dcdraw pmdraw andraw cddraw ctdraw), Apick, (PySem.W.fnOf "_law_pick" "_law_pick" (defArgs s_pick) (defBody s_pick) (defScope s_pick) .none kVpick dcpick pmpick anpick cdpick ctpick), Aall, (PySem.W.fnOf "_law_all" "_law_all" (defArgs s_all) (defBody s_all) (defScope s_all) .none kVall dcall pmall anall cdall ctall), Anamed, (PySem.W.fnOf "_law_named" "_law_named" (defArgs s_named) (defBody s_named) (defScope s_named) .none kVnamed dcnamed pmnamed annamed cdnamed ctnamed), Akept, (PySem.W.fnOf "_law_kept" "_law_kept" (defArgs s_kept) (defBody s_kept) (defScope s_kept) .none kVkept dckept pmkept ankept cdkept ctkept), Awidth, (PySem.W.fnOf "_law_width" "_law_width" (defArgs s_width) (defBody s_width) (defScope s_width) .none kVwidth dcwidth pmwidth anwidth cdwidth ctwidth), Aflags, (PySem.W.fnOf "_law_flags" "_law_flags" (defArgs s_flags) (defBody s_flags) (defScope s_flags) .none kVflags dcflags pmflags anflags cdflags ctflags), Agrounds, (PySem.W.fnOf "_law_grounds" "_law_grounds" (defArgs s_grounds) (defBody s_grounds) (defScope s_grounds) .none kVgrounds dcgrounds pmgrounds angrounds cdgrounds ctgrounds), Aground, (PySem.W.fnOf "_law_ground" "_law_ground" (defArgs s_ground) (defBody s_ground) (defScope s_ground) .none kVground dcground pmground anground cdground ctground), Adue_grounds, (PySem.W.fnOf "_law_due_grounds" "_law_due_grounds" (defArgs s_due_grounds) (defBody s_due_grounds) (defScope s_due_grounds) .none kVdue_grounds dcdue_grounds pmdue_grounds andue_grounds cddue_grounds ctdue_grounds), Aright, (PySem.W.fnOf "_law_right" "_law_right" (defArgs s_right) (defBody s_right) (defScope s_right) .none kVright dcright pmright anright cdright ctright), Apot, (PySem.W.fnOf "_law_pot" "_law_pot" (defArgs s_pot) (defBody s_pot) (defScope s_pot) .none kVpot dcpot pmpot anpot cdpot ctpot), fa, (PySem.W.fnOf "law" "law" (defArgs s_law) (defBody s_law) (defScope s_law) .none kVlaw dclaw pmlaw anlaw cdlaw ctlaw), ACommandFailed_init, (PySem.W.fnOf "__init__" "CommandFailed.__init__" (defArgs s_CommandFailed_init) (defBody s_CommandFailed_init) (defScope s_CommandFailed_init) .none kVCommandFailed_init dcCommandFailed_init pmCommandFailed_init anCommandFailed_init cdCommandFailed_init ctCommandFailed_init), AInvalidCells_init, (PySem.W.fnOf "__init__" "InvalidCells.__init__" (defArgs s_InvalidCells_init) (defBody s_InvalidCells_init) (defScope s_InvalidCells_init) .none kVInvalidCells_init dcInvalidCells_init pmInvalidCells_init anInvalidCells_init cdInvalidCells_init ctInvalidCells_init), AInvalidClaim_init, (PySem.W.fnOf "__init__" "InvalidClaim.__init__" (defArgs s_InvalidClaim_init) (defBody s_InvalidClaim_init) (defScope s_InvalidClaim_init) .none kVInvalidClaim_init dcInvalidClaim_init pmInvalidClaim_init anInvalidClaim_init cdInvalidClaim_init ctInvalidClaim_init), AInvalidCommand_init, (PySem.W.fnOf "__init__" "InvalidCommand.__init__" (defArgs s_InvalidCommand_init) (defBody s_InvalidCommand_init) (defScope s_InvalidCommand_init) .none kVInvalidCommand_init dcInvalidCommand_init pmInvalidCommand_init anInvalidCommand_init cdInvalidCommand_init ctInvalidCommand_init), AInvalidCount_init, (PySem.W.fnOf "__init__" "InvalidCount.__init__" (defArgs s_InvalidCount_init) (defBody s_InvalidCount_init) (defScope s_InvalidCount_init) .none kVInvalidCount_init dcInvalidCount_init pmInvalidCount_init anInvalidCount_init cdInvalidCount_init ctInvalidCount_init), AInvalidFirst_init, (PySem.W.fnOf "__init__" "InvalidFirst.__init__" (defArgs s_InvalidFirst_init) (defBody s_InvalidFirst_init) (defScope s_InvalidFirst_init) .none kVInvalidFirst_init dcInvalidFirst_init pmInvalidFirst_init anInvalidFirst_init cdInvalidFirst_init ctInvalidFirst_init), AInvalidFixed_init, (PySem.W.fnOf "__init__" "InvalidFixed.__init__" (defArgs s_InvalidFixed_init) (defBody s_InvalidFixed_init) (defScope s_InvalidFixed_init) .none kVInvalidFixed_init dcInvalidFixed_init pmInvalidFixed_init anInvalidFixed_init cdInvalidFixed_init ctInvalidFixed_init), AInvalidGauge_init, (PySem.W.fnOf "__init__" "InvalidGauge.__init__" (defArgs s_InvalidGauge_init) (defBody s_InvalidGauge_init) (defScope s_InvalidGauge_init) .none kVInvalidGauge_init dcInvalidGauge_init pmInvalidGauge_init anInvalidGauge_init cdInvalidGauge_init ctInvalidGauge_init), AInvalidLegs_init, (PySem.W.fnOf "__init__" "InvalidLegs.__init__" (defArgs s_InvalidLegs_init) (defBody s_InvalidLegs_init) (defScope s_InvalidLegs_init) .none kVInvalidLegs_init dcInvalidLegs_init pmInvalidLegs_init anInvalidLegs_init cdInvalidLegs_init ctInvalidLegs_init), AInvalidLot_init, (PySem.W.fnOf "__init__" "InvalidLot.__init__" (defArgs s_InvalidLot_init) (defBody s_InvalidLot_init) (defScope s_InvalidLot_init) .none kVInvalidLot_init dcInvalidLot_init pmInvalidLot_init anInvalidLot_init cdInvalidLot_init ctInvalidLot_init), AInvalidMarks_init, (PySem.W.fnOf "__init__" "InvalidMarks.__init__" (defArgs s_InvalidMarks_init) (defBody s_InvalidMarks_init) (defScope s_InvalidMarks_init) .none kVInvalidMarks_init dcInvalidMarks_init pmInvalidMarks_init anInvalidMarks_init cdInvalidMarks_init ctInvalidMarks_init), AInvalidNumber_init, (PySem.W.fnOf "__init__" "InvalidNumber.__init__" (defArgs s_InvalidNumber_init) (defBody s_InvalidNumber_init) (defScope s_InvalidNumber_init) .none kVInvalidNumber_init dcInvalidNumber_init pmInvalidNumber_init anInvalidNumber_init cdInvalidNumber_init ctInvalidNumber_init), AInvalidPlace_init, (PySem.W.fnOf "__init__" "InvalidPlace.__init__" (defArgs s_InvalidPlace_init) (defBody s_InvalidPlace_init) (defScope s_InvalidPlace_init) .none kVInvalidPlace_init dcInvalidPlace_init pmInvalidPlace_init anInvalidPlace_init cdInvalidPlace_init ctInvalidPlace_init), AInvalidRound_init, (PySem.W.fnOf "__init__" "InvalidRound.__init__" (defArgs s_InvalidRound_init) (defBody s_InvalidRound_init) (defScope s_InvalidRound_init) .none kVInvalidRound_init dcInvalidRound_init pmInvalidRound_init anInvalidRound_init cdInvalidRound_init ctInvalidRound_init), AInvalidRounds_init, (PySem.W.fnOf "__init__" "InvalidRounds.__init__" (defArgs s_InvalidRounds_init) (defBody s_InvalidRounds_init) (defScope s_InvalidRounds_init) .none kVInvalidRounds_init dcInvalidRounds_init pmInvalidRounds_init anInvalidRounds_init cdInvalidRounds_init ctInvalidRounds_init), AInvalidRows_init, (PySem.W.fnOf "__init__" "InvalidRows.__init__" (defArgs s_InvalidRows_init) (defBody s_InvalidRows_init) (defScope s_InvalidRows_init) .none kVInvalidRows_init dcInvalidRows_init pmInvalidRows_init anInvalidRows_init cdInvalidRows_init ctInvalidRows_init), AInvalidSize_init, (PySem.W.fnOf "__init__" "InvalidSize.__init__" (defArgs s_InvalidSize_init) (defBody s_InvalidSize_init) (defScope s_InvalidSize_init) .none kVInvalidSize_init dcInvalidSize_init pmInvalidSize_init anInvalidSize_init cdInvalidSize_init ctInvalidSize_init), AInvalidStander_init, (PySem.W.fnOf "__init__" "InvalidStander.__init__" (defArgs s_InvalidStander_init) (defBody s_InvalidStander_init) (defScope s_InvalidStander_init) .none kVInvalidStander_init dcInvalidStander_init pmInvalidStander_init anInvalidStander_init cdInvalidStander_init ctInvalidStander_init), AInvalidStep_init, (PySem.W.fnOf "__init__" "InvalidStep.__init__" (defArgs s_InvalidStep_init) (defBody s_InvalidStep_init) (defScope s_InvalidStep_init) .none kVInvalidStep_init dcInvalidStep_init pmInvalidStep_init anInvalidStep_init cdInvalidStep_init ctInvalidStep_init), AInvalidTeam_init, (PySem.W.fnOf "__init__" "InvalidTeam.__init__" (defArgs s_InvalidTeam_init) (defBody s_InvalidTeam_init) (defScope s_InvalidTeam_init) .none kVInvalidTeam_init dcInvalidTeam_init pmInvalidTeam_init anInvalidTeam_init cdInvalidTeam_init ctInvalidTeam_init), AInvalidText_init, (PySem.W.fnOf "__init__" "InvalidText.__init__" (defArgs s_InvalidText_init) (defBody s_InvalidText_init) (defScope s_InvalidText_init) .none kVInvalidText_init dcInvalidText_init pmInvalidText_init anInvalidText_init cdInvalidText_init ctInvalidText_init), AInvalidTurned_init, (PySem.W.fnOf "__init__" "InvalidTurned.__init__" (defArgs s_InvalidTurned_init) (defBody s_InvalidTurned_init) (defScope s_InvalidTurned_init) .none kVInvalidTurned_init dcInvalidTurned_init pmInvalidTurned_init anInvalidTurned_init cdInvalidTurned_init ctInvalidTurned_init), AInvalidValues_init, (PySem.W.fnOf "__init__" "InvalidValues.__init__" (defArgs s_InvalidValues_init) (defBody s_InvalidValues_init) (defScope s_InvalidValues_init) .none kVInvalidValues_init dcInvalidValues_init pmInvalidValues_init anInvalidValues_init cdInvalidValues_init ctInvalidValues_init), ANoRound_init, (PySem.W.fnOf "__init__" "NoRound.__init__" (defArgs s_NoRound_init) (defBody s_NoRound_init) (defScope s_NoRound_init) .none kVNoRound_init dcNoRound_init pmNoRound_init anNoRound_init cdNoRound_init ctNoRound_init), ANotOpen_init, (PySem.W.fnOf "__init__" "NotOpen.__init__" (defArgs s_NotOpen_init) (defBody s_NotOpen_init) (defScope s_NotOpen_init) .none kVNotOpen_init dcNotOpen_init pmNotOpen_init anNotOpen_init cdNotOpen_init ctNotOpen_init), ANotRight_init, (PySem.W.fnOf "__init__" "NotRight.__init__" (defArgs s_NotRight_init) (defBody s_NotRight_init) (defScope s_NotRight_init) .none kVNotRight_init dcNotRight_init pmNotRight_init anNotRight_init cdNotRight_init ctNotRight_init), ANotSingle_init, (PySem.W.fnOf "__init__" "NotSingle.__init__" (defArgs s_NotSingle_init) (defBody s_NotSingle_init) (defScope s_NotSingle_init) .none kVNotSingle_init dcNotSingle_init pmNotSingle_init anNotSingle_init cdNotSingle_init ctNotSingle_init), ANothingToUndo_init, (PySem.W.fnOf "__init__" "NothingToUndo.__init__" (defArgs s_NothingToUndo_init) (defBody s_NothingToUndo_init) (defScope s_NothingToUndo_init) .none kVNothingToUndo_init dcNothingToUndo_init pmNothingToUndo_init anNothingToUndo_init cdNothingToUndo_init ctNothingToUndo_init), ATooMany_init, (PySem.W.fnOf "__init__" "TooMany.__init__" (defArgs s_TooMany_init) (defBody s_TooMany_init) (defScope s_TooMany_init) .none kVTooMany_init dcTooMany_init pmTooMany_init anTooMany_init cdTooMany_init ctTooMany_init), AUnplayed_init, (PySem.W.fnOf "__init__" "Unplayed.__init__" (defArgs s_Unplayed_init) (defBody s_Unplayed_init) (defScope s_Unplayed_init) .none kVUnplayed_init dcUnplayed_init pmUnplayed_init anUnplayed_init cdUnplayed_init ctUnplayed_init), CCommandFailed, CInvalidCells, CInvalidClaim, CInvalidCommand, CInvalidCount, CInvalidFirst, CInvalidFixed, CInvalidGauge, CInvalidLegs, CInvalidLot, CInvalidMarks, CInvalidNumber, CInvalidPlace, CInvalidRound, CInvalidRounds, CInvalidRows, CInvalidSize, CInvalidStander, CInvalidStep, CInvalidTeam, CInvalidText, CInvalidTurned, CInvalidValues, CLeagueError, CLimitError, CNoRound, CNotOpen, CNotRight, CNotSingle, CNothingToUndo, CStateError, CTooMany, CUnplayed⟩ := ⟨⟨xva1, xva2, xva3⟩, xk_ArithmeticError, xd_ArithmeticError, xk_CommandFailed, xd_CommandFailed, xk_InvalidCells, xd_InvalidCells, xk_InvalidClaim, xd_InvalidClaim, xk_InvalidCommand, xd_InvalidCommand, xk_InvalidCount, xd_InvalidCount, xk_InvalidFirst, xd_InvalidFirst, xk_InvalidFixed, xd_InvalidFixed, xk_InvalidGauge, xd_InvalidGauge, xk_InvalidLegs, xd_InvalidLegs, xk_InvalidLot, xd_InvalidLot, xk_InvalidMarks, xd_InvalidMarks, xk_InvalidNumber, xd_InvalidNumber, xk_InvalidPlace, xd_InvalidPlace, xk_InvalidRound, xd_InvalidRound, xk_InvalidRounds, xd_InvalidRounds, xk_InvalidRows, xd_InvalidRows, xk_InvalidSize, xd_InvalidSize, xk_InvalidStander, xd_InvalidStander, xk_InvalidStep, xd_InvalidStep, xk_InvalidTeam, xd_InvalidTeam, xk_InvalidText, xd_InvalidText, xk_InvalidTurned, xd_InvalidTurned, xk_InvalidValues, xd_InvalidValues, xk_LeagueError, xd_LeagueError, xk_LimitError, xd_LimitError, xk_LookupError, xd_LookupError, xk_NoRound, xd_NoRound, xk_NotOpen, xd_NotOpen, xk_NotRight, xd_NotRight, xk_NotSingle, xd_NotSingle, xk_NothingToUndo, xd_NothingToUndo, xk_RuntimeError, xd_RuntimeError, xk_StateError, xd_StateError, xk_TooMany, xd_TooMany, xk_TypeError, xd_TypeError, xk_Unplayed, xd_Unplayed, xk_ValueError, xd_ValueError, xk_ZeroDivisionError, xd_ZeroDivisionError, x0_LeagueError, kp_LeagueError, x0_LimitError, kp_LimitError, x0_StateError, kp_StateError, PySem.W.mg_of X G aC_CommandFailed, PySem.W.mg_of X G aC_InvalidCells, PySem.W.mg_of X G aC_InvalidClaim, PySem.W.mg_of X G aC_InvalidCommand, PySem.W.mg_of X G aC_InvalidCount, PySem.W.mg_of X G aC_InvalidFirst, PySem.W.mg_of X G aC_InvalidFixed, PySem.W.mg_of X G aC_InvalidGauge, PySem.W.mg_of X G aC_InvalidLegs, PySem.W.mg_of X G aC_InvalidLot, PySem.W.mg_of X G aC_InvalidMarks, PySem.W.mg_of X G aC_InvalidNumber, PySem.W.mg_of X G aC_InvalidPlace, PySem.W.mg_of X G aC_InvalidRound, PySem.W.mg_of X G aC_InvalidRounds, PySem.W.mg_of X G aC_InvalidRows, PySem.W.mg_of X G aC_InvalidSize, PySem.W.mg_of X G aC_InvalidStander, PySem.W.mg_of X G aC_InvalidStep, PySem.W.mg_of X G aC_InvalidTeam, PySem.W.mg_of X G aC_InvalidText, PySem.W.mg_of X G aC_InvalidTurned, PySem.W.mg_of X G aC_InvalidValues, PySem.W.mg_of X G aC_LeagueError, PySem.W.mg_of X G aC_LimitError, PySem.W.mg_of X G aC_NoRound, PySem.W.mg_of X G aC_NotOpen, PySem.W.mg_of X G aC_NotRight, PySem.W.mg_of X G aC_NotSingle, PySem.W.mg_of X G aC_NothingToUndo, PySem.W.mg_of X G aC_StateError, PySem.W.mg_of X G aC_TooMany, PySem.W.mg_of X G aC_Unplayed, oexG_of PySem.F.excBase_RuntimeError PySem.F.store_RuntimeError xg1_CommandFailed xg2_CommandFailed xg3_CommandFailed xs_CommandFailed xe_CommandFailed xt_CommandFailed xp_CommandFailed, a_CommandFailed_init, beq_iff_eq.mp i_CommandFailed_init, no_CommandFailed_position, oexG_of PySem.F.excBase_ValueError PySem.F.store_ValueError xg1_InvalidCells xg2_InvalidCells xg3_InvalidCells xs_InvalidCells xe_InvalidCells xt_InvalidCells xp_InvalidCells, a_InvalidCells_init, beq_iff_eq.mp i_InvalidCells_init, no_InvalidCells_position, oexG_of PySem.F.excBase_ValueError PySem.F.store_ValueError xg1_InvalidClaim xg2_InvalidClaim xg3_InvalidClaim xs_InvalidClaim xe_InvalidClaim xt_InvalidClaim xp_InvalidClaim, a_InvalidClaim_init, beq_iff_eq.mp i_InvalidClaim_init, no_InvalidClaim_value, oexG_of PySem.F.excBase_ValueError PySem.F.store_ValueError xg1_InvalidCommand xg2_InvalidCommand xg3_InvalidCommand xs_InvalidCommand xe_InvalidCommand xt_InvalidCommand xp_InvalidCommand, a_InvalidCommand_init, beq_iff_eq.mp i_InvalidCommand_init, no_InvalidCommand_value, oexG_of PySem.F.excBase_ValueError PySem.F.store_ValueError xg1_InvalidCount xg2_InvalidCount xg3_InvalidCount xs_InvalidCount xe_InvalidCount xt_InvalidCount xp_InvalidCount, a_InvalidCount_init, beq_iff_eq.mp i_InvalidCount_init, no_InvalidCount_value, oexG_of PySem.F.excBase_ValueError PySem.F.store_ValueError xg1_InvalidFirst xg2_InvalidFirst xg3_InvalidFirst xs_InvalidFirst xe_InvalidFirst xt_InvalidFirst xp_InvalidFirst, a_InvalidFirst_init, beq_iff_eq.mp i_InvalidFirst_init, no_InvalidFirst_value, oexG_of PySem.F.excBase_ValueError PySem.F.store_ValueError xg1_InvalidFixed xg2_InvalidFixed xg3_InvalidFixed xs_InvalidFixed xe_InvalidFixed xt_InvalidFixed xp_InvalidFixed, a_InvalidFixed_init, beq_iff_eq.mp i_InvalidFixed_init, no_InvalidFixed_position, oexG_of PySem.F.excBase_ValueError PySem.F.store_ValueError xg1_InvalidGauge xg2_InvalidGauge xg3_InvalidGauge xs_InvalidGauge xe_InvalidGauge xt_InvalidGauge xp_InvalidGauge, a_InvalidGauge_init, beq_iff_eq.mp i_InvalidGauge_init, no_InvalidGauge_position, oexG_of PySem.F.excBase_ValueError PySem.F.store_ValueError xg1_InvalidLegs xg2_InvalidLegs xg3_InvalidLegs xs_InvalidLegs xe_InvalidLegs xt_InvalidLegs xp_InvalidLegs, a_InvalidLegs_init, beq_iff_eq.mp i_InvalidLegs_init, no_InvalidLegs_position, oexG_of PySem.F.excBase_ValueError PySem.F.store_ValueError xg1_InvalidLot xg2_InvalidLot xg3_InvalidLot xs_InvalidLot xe_InvalidLot xt_InvalidLot xp_InvalidLot, a_InvalidLot_init, beq_iff_eq.mp i_InvalidLot_init, no_InvalidLot_position, oexG_of PySem.F.excBase_ValueError PySem.F.store_ValueError xg1_InvalidMarks xg2_InvalidMarks xg3_InvalidMarks xs_InvalidMarks xe_InvalidMarks xt_InvalidMarks xp_InvalidMarks, a_InvalidMarks_init, beq_iff_eq.mp i_InvalidMarks_init, no_InvalidMarks_value, oexG_of PySem.F.excBase_ValueError PySem.F.store_ValueError xg1_InvalidNumber xg2_InvalidNumber xg3_InvalidNumber xs_InvalidNumber xe_InvalidNumber xt_InvalidNumber xp_InvalidNumber, a_InvalidNumber_init, beq_iff_eq.mp i_InvalidNumber_init, no_InvalidNumber_value, oexG_of PySem.F.excBase_ValueError PySem.F.store_ValueError xg1_InvalidPlace xg2_InvalidPlace xg3_InvalidPlace xs_InvalidPlace xe_InvalidPlace xt_InvalidPlace xp_InvalidPlace, a_InvalidPlace_init, beq_iff_eq.mp i_InvalidPlace_init, no_InvalidPlace_value, oexG_of PySem.F.excBase_ValueError PySem.F.store_ValueError xg1_InvalidRound xg2_InvalidRound xg3_InvalidRound xs_InvalidRound xe_InvalidRound xt_InvalidRound xp_InvalidRound, a_InvalidRound_init, beq_iff_eq.mp i_InvalidRound_init, no_InvalidRound_value, oexG_of PySem.F.excBase_ValueError PySem.F.store_ValueError xg1_InvalidRounds xg2_InvalidRounds xg3_InvalidRounds xs_InvalidRounds xe_InvalidRounds xt_InvalidRounds xp_InvalidRounds, a_InvalidRounds_init, beq_iff_eq.mp i_InvalidRounds_init, no_InvalidRounds_position, oexG_of PySem.F.excBase_ValueError PySem.F.store_ValueError xg1_InvalidRows xg2_InvalidRows xg3_InvalidRows xs_InvalidRows xe_InvalidRows xt_InvalidRows xp_InvalidRows, a_InvalidRows_init, beq_iff_eq.mp i_InvalidRows_init, no_InvalidRows_position, oexG_of PySem.F.excBase_ValueError PySem.F.store_ValueError xg1_InvalidSize xg2_InvalidSize xg3_InvalidSize xs_InvalidSize xe_InvalidSize xt_InvalidSize xp_InvalidSize, a_InvalidSize_init, beq_iff_eq.mp i_InvalidSize_init, no_InvalidSize_value, oexG_of PySem.F.excBase_ValueError PySem.F.store_ValueError xg1_InvalidStander xg2_InvalidStander xg3_InvalidStander xs_InvalidStander xe_InvalidStander xt_InvalidStander xp_InvalidStander, a_InvalidStander_init, beq_iff_eq.mp i_InvalidStander_init, no_InvalidStander_value, oexG_of PySem.F.excBase_ValueError PySem.F.store_ValueError xg1_InvalidStep xg2_InvalidStep xg3_InvalidStep xs_InvalidStep xe_InvalidStep xt_InvalidStep xp_InvalidStep, a_InvalidStep_init, beq_iff_eq.mp i_InvalidStep_init, no_InvalidStep_value, oexG_of PySem.F.excBase_ValueError PySem.F.store_ValueError xg1_InvalidTeam xg2_InvalidTeam xg3_InvalidTeam xs_InvalidTeam xe_InvalidTeam xt_InvalidTeam xp_InvalidTeam, a_InvalidTeam_init, beq_iff_eq.mp i_InvalidTeam_init, no_InvalidTeam_value, oexG_of PySem.F.excBase_ValueError PySem.F.store_ValueError xg1_InvalidText xg2_InvalidText xg3_InvalidText xs_InvalidText xe_InvalidText xt_InvalidText xp_InvalidText, a_InvalidText_init, beq_iff_eq.mp i_InvalidText_init, no_InvalidText_line, oexG_of PySem.F.excBase_ValueError PySem.F.store_ValueError xg1_InvalidTurned xg2_InvalidTurned xg3_InvalidTurned xs_InvalidTurned xe_InvalidTurned xt_InvalidTurned xp_InvalidTurned, a_InvalidTurned_init, beq_iff_eq.mp i_InvalidTurned_init, no_InvalidTurned_value, oexG_of PySem.F.excBase_ValueError PySem.F.store_ValueError xg1_InvalidValues xg2_InvalidValues xg3_InvalidValues xs_InvalidValues xe_InvalidValues xt_InvalidValues xp_InvalidValues, a_InvalidValues_init, beq_iff_eq.mp i_InvalidValues_init, no_InvalidValues_position, oexG_of PySem.F.excBase_RuntimeError PySem.F.store_RuntimeError xg1_NoRound xg2_NoRound xg3_NoRound xs_NoRound xe_NoRound xt_NoRound xp_NoRound, a_NoRound_init, beq_iff_eq.mp i_NoRound_init, oexG_of PySem.F.excBase_RuntimeError PySem.F.store_RuntimeError xg1_NotOpen xg2_NotOpen xg3_NotOpen xs_NotOpen xe_NotOpen xt_NotOpen xp_NotOpen, a_NotOpen_init, beq_iff_eq.mp i_NotOpen_init, no_NotOpen_home, no_NotOpen_away, oexG_of PySem.F.excBase_RuntimeError PySem.F.store_RuntimeError xg1_NotRight xg2_NotRight xg3_NotRight xs_NotRight xe_NotRight xt_NotRight xp_NotRight, a_NotRight_init, beq_iff_eq.mp i_NotRight_init, no_NotRight_size, oexG_of PySem.F.excBase_RuntimeError PySem.F.store_RuntimeError xg1_NotSingle xg2_NotSingle xg3_NotSingle xs_NotSingle xe_NotSingle xt_NotSingle xp_NotSingle, a_NotSingle_init, beq_iff_eq.mp i_NotSingle_init, no_NotSingle_one, no_NotSingle_other, oexG_of PySem.F.excBase_RuntimeError PySem.F.store_RuntimeError xg1_NothingToUndo xg2_NothingToUndo xg3_NothingToUndo xs_NothingToUndo xe_NothingToUndo xt_NothingToUndo xp_NothingToUndo, a_NothingToUndo_init, beq_iff_eq.mp i_NothingToUndo_init, oexG_of PySem.F.excBase_ArithmeticError PySem.F.store_ArithmeticError xg1_TooMany xg2_TooMany xg3_TooMany xs_TooMany xe_TooMany xt_TooMany xp_TooMany, a_TooMany_init, beq_iff_eq.mp i_TooMany_init, no_TooMany_what, no_TooMany_limit, oexG_of PySem.F.excBase_RuntimeError PySem.F.store_RuntimeError xg1_Unplayed xg2_Unplayed xg3_Unplayed xs_Unplayed xe_Unplayed xt_Unplayed xp_Unplayed, a_Unplayed_init, beq_iff_eq.mp i_Unplayed_init, no_Unplayed_home, no_Unplayed_away, fun_mk (st := s_draw) l_draw o_draw k_draw, (fun_mk (st := s_draw) l_draw o_draw k_draw).binds (ps := ["_law_pot_here", "_law_many"]) fun _ _ _ _ _ _ us hl => match us, hl with | [_, _], _ => rfl, PySem.W.mg_of X G a_draw, fun_mk (st := s_pick) l_pick o_pick k_pick, (fun_mk (st := s_pick) l_pick o_pick k_pick).binds (ps := ["_law_pot_here", "_law_some"]) fun _ _ _ _ _ _ us hl => match us, hl with | [_, _], _ => rfl, PySem.W.mg_of X G a_pick, fun_mk (st := s_all) l_all o_all k_all, (fun_mk (st := s_all) l_all o_all k_all).binds (ps := ["_law_a", "_law_b"]) fun _ _ _ _ _ _ us hl => match us, hl with | [_, _], _ => rfl, PySem.W.mg_of X G a_all, fun_mk (st := s_named) l_named o_named k_named, (fun_mk (st := s_named) l_named o_named k_named).binds (ps := ["_law_a", "_law_b"]) fun _ _ _ _ _ _ us hl => match us, hl with | [_, _], _ => rfl, PySem.W.mg_of X G a_named, fun_mk (st := s_kept) l_kept o_kept k_kept, (fun_mk (st := s_kept) l_kept o_kept k_kept).binds (ps := ["_law_k", "_law_e"]) fun _ _ _ _ _ _ us hl => match us, hl with | [_, _], _ => rfl, PySem.W.mg_of X G a_kept, fun_mk (st := s_width) l_width o_width k_width, (fun_mk (st := s_width) l_width o_width k_width).binds (ps := ["_law_k"]) fun _ _ _ _ _ _ us hl => match us, hl with | [_], _ => rfl, PySem.W.mg_of X G a_width, fun_mk (st := s_flags) l_flags o_flags k_flags, (fun_mk (st := s_flags) l_flags o_flags k_flags).binds (ps := ["_law_e"]) fun _ _ _ _ _ _ us hl => match us, hl with | [_], _ => rfl, PySem.W.mg_of X G a_flags, fun_mk (st := s_grounds) l_grounds o_grounds k_grounds, (fun_mk (st := s_grounds) l_grounds o_grounds k_grounds).binds (ps := ["_law_e"]) fun _ _ _ _ _ _ us hl => match us, hl with | [_], _ => rfl, PySem.W.mg_of X G a_grounds, fun_mk (st := s_ground) l_ground o_ground k_ground, (fun_mk (st := s_ground) l_ground o_ground k_ground).binds (ps := ["_law_k"]) fun _ _ _ _ _ _ us hl => match us, hl with | [_], _ => rfl, PySem.W.mg_of X G a_ground, fun_mk (st := s_due_grounds) l_due_grounds o_due_grounds k_due_grounds, (fun_mk (st := s_due_grounds) l_due_grounds o_due_grounds k_due_grounds).binds (ps := ["_law_ground_here"]) fun _ _ _ _ _ _ us hl => match us, hl with | [_], _ => rfl, PySem.W.mg_of X G a_due_grounds, fun_mk (st := s_right) l_right o_right k_right, (fun_mk (st := s_right) l_right o_right k_right).binds (ps := ["_law_pot_here"]) fun _ _ _ _ _ _ us hl => match us, hl with | [_], _ => rfl, PySem.W.mg_of X G a_right, fun_mk (st := s_pot) l_pot o_pot k_pot, (fun_mk (st := s_pot) l_pot o_pot k_pot).binds (ps := ["_law_script", "_law_k"]) fun _ _ _ _ _ _ us hl => match us, hl with | [_, _], _ => rfl, PySem.W.mg_of X G a_pot, fun_mk (st := s_law) l_law o_law k_law, (fun_mk (st := s_law) l_law o_law k_law).binds (ps := ["_law_script"]) fun _ _ _ _ _ _ us hl => match us, hl with | [_], _ => rfl, PySem.W.mg_of X G a_law, fun_mk (st := s_CommandFailed_init) l_CommandFailed_init o_CommandFailed_init k_CommandFailed_init, (fun_mk (st := s_CommandFailed_init) l_CommandFailed_init o_CommandFailed_init k_CommandFailed_init).binds (ps := ["self", "position"]) fun _ _ _ _ _ _ us hl => match us, hl with | [_, _], _ => rfl, fun_mk (st := s_InvalidCells_init) l_InvalidCells_init o_InvalidCells_init k_InvalidCells_init, (fun_mk (st := s_InvalidCells_init) l_InvalidCells_init o_InvalidCells_init k_InvalidCells_init).binds (ps := ["self", "position"]) fun _ _ _ _ _ _ us hl => match us, hl with | [_, _], _ => rfl, fun_mk (st := s_InvalidClaim_init) l_InvalidClaim_init o_InvalidClaim_init k_InvalidClaim_init, (fun_mk (st := s_InvalidClaim_init) l_InvalidClaim_init o_InvalidClaim_init k_InvalidClaim_init).binds (ps := ["self", "value"]) fun _ _ _ _ _ _ us hl => match us, hl with | [_, _], _ => rfl, fun_mk (st := s_InvalidCommand_init) l_InvalidCommand_init o_InvalidCommand_init k_InvalidCommand_init, (fun_mk (st := s_InvalidCommand_init) l_InvalidCommand_init o_InvalidCommand_init k_InvalidCommand_init).binds (ps := ["self", "value"]) fun _ _ _ _ _ _ us hl => match us, hl with | [_, _], _ => rfl, fun_mk (st := s_InvalidCount_init) l_InvalidCount_init o_InvalidCount_init k_InvalidCount_init, (fun_mk (st := s_InvalidCount_init) l_InvalidCount_init o_InvalidCount_init k_InvalidCount_init).binds (ps := ["self", "value"]) fun _ _ _ _ _ _ us hl => match us, hl with | [_, _], _ => rfl, fun_mk (st := s_InvalidFirst_init) l_InvalidFirst_init o_InvalidFirst_init k_InvalidFirst_init, (fun_mk (st := s_InvalidFirst_init) l_InvalidFirst_init o_InvalidFirst_init k_InvalidFirst_init).binds (ps := ["self", "value"]) fun _ _ _ _ _ _ us hl => match us, hl with | [_, _], _ => rfl, fun_mk (st := s_InvalidFixed_init) l_InvalidFixed_init o_InvalidFixed_init k_InvalidFixed_init, (fun_mk (st := s_InvalidFixed_init) l_InvalidFixed_init o_InvalidFixed_init k_InvalidFixed_init).binds (ps := ["self", "position"]) fun _ _ _ _ _ _ us hl => match us, hl with | [_, _], _ => rfl, fun_mk (st := s_InvalidGauge_init) l_InvalidGauge_init o_InvalidGauge_init k_InvalidGauge_init, (fun_mk (st := s_InvalidGauge_init) l_InvalidGauge_init o_InvalidGauge_init k_InvalidGauge_init).binds (ps := ["self", "position"]) fun _ _ _ _ _ _ us hl => match us, hl with | [_, _], _ => rfl, fun_mk (st := s_InvalidLegs_init) l_InvalidLegs_init o_InvalidLegs_init k_InvalidLegs_init, (fun_mk (st := s_InvalidLegs_init) l_InvalidLegs_init o_InvalidLegs_init k_InvalidLegs_init).binds (ps := ["self", "position"]) fun _ _ _ _ _ _ us hl => match us, hl with | [_, _], _ => rfl, fun_mk (st := s_InvalidLot_init) l_InvalidLot_init o_InvalidLot_init k_InvalidLot_init, (fun_mk (st := s_InvalidLot_init) l_InvalidLot_init o_InvalidLot_init k_InvalidLot_init).binds (ps := ["self", "position"]) fun _ _ _ _ _ _ us hl => match us, hl with | [_, _], _ => rfl, fun_mk (st := s_InvalidMarks_init) l_InvalidMarks_init o_InvalidMarks_init k_InvalidMarks_init, (fun_mk (st := s_InvalidMarks_init) l_InvalidMarks_init o_InvalidMarks_init k_InvalidMarks_init).binds (ps := ["self", "value"]) fun _ _ _ _ _ _ us hl => match us, hl with | [_, _], _ => rfl, fun_mk (st := s_InvalidNumber_init) l_InvalidNumber_init o_InvalidNumber_init k_InvalidNumber_init, (fun_mk (st := s_InvalidNumber_init) l_InvalidNumber_init o_InvalidNumber_init k_InvalidNumber_init).binds (ps := ["self", "value"]) fun _ _ _ _ _ _ us hl => match us, hl with | [_, _], _ => rfl, fun_mk (st := s_InvalidPlace_init) l_InvalidPlace_init o_InvalidPlace_init k_InvalidPlace_init, (fun_mk (st := s_InvalidPlace_init) l_InvalidPlace_init o_InvalidPlace_init k_InvalidPlace_init).binds (ps := ["self", "value"]) fun _ _ _ _ _ _ us hl => match us, hl with | [_, _], _ => rfl, fun_mk (st := s_InvalidRound_init) l_InvalidRound_init o_InvalidRound_init k_InvalidRound_init, (fun_mk (st := s_InvalidRound_init) l_InvalidRound_init o_InvalidRound_init k_InvalidRound_init).binds (ps := ["self", "value"]) fun _ _ _ _ _ _ us hl => match us, hl with | [_, _], _ => rfl, fun_mk (st := s_InvalidRounds_init) l_InvalidRounds_init o_InvalidRounds_init k_InvalidRounds_init, (fun_mk (st := s_InvalidRounds_init) l_InvalidRounds_init o_InvalidRounds_init k_InvalidRounds_init).binds (ps := ["self", "position"]) fun _ _ _ _ _ _ us hl => match us, hl with | [_, _], _ => rfl, fun_mk (st := s_InvalidRows_init) l_InvalidRows_init o_InvalidRows_init k_InvalidRows_init, (fun_mk (st := s_InvalidRows_init) l_InvalidRows_init o_InvalidRows_init k_InvalidRows_init).binds (ps := ["self", "position"]) fun _ _ _ _ _ _ us hl => match us, hl with | [_, _], _ => rfl, fun_mk (st := s_InvalidSize_init) l_InvalidSize_init o_InvalidSize_init k_InvalidSize_init, (fun_mk (st := s_InvalidSize_init) l_InvalidSize_init o_InvalidSize_init k_InvalidSize_init).binds (ps := ["self", "value"]) fun _ _ _ _ _ _ us hl => match us, hl with | [_, _], _ => rfl, fun_mk (st := s_InvalidStander_init) l_InvalidStander_init o_InvalidStander_init k_InvalidStander_init, (fun_mk (st := s_InvalidStander_init) l_InvalidStander_init o_InvalidStander_init k_InvalidStander_init).binds (ps := ["self", "value"]) fun _ _ _ _ _ _ us hl => match us, hl with | [_, _], _ => rfl, fun_mk (st := s_InvalidStep_init) l_InvalidStep_init o_InvalidStep_init k_InvalidStep_init, (fun_mk (st := s_InvalidStep_init) l_InvalidStep_init o_InvalidStep_init k_InvalidStep_init).binds (ps := ["self", "value"]) fun _ _ _ _ _ _ us hl => match us, hl with | [_, _], _ => rfl, fun_mk (st := s_InvalidTeam_init) l_InvalidTeam_init o_InvalidTeam_init k_InvalidTeam_init, (fun_mk (st := s_InvalidTeam_init) l_InvalidTeam_init o_InvalidTeam_init k_InvalidTeam_init).binds (ps := ["self", "value"]) fun _ _ _ _ _ _ us hl => match us, hl with | [_, _], _ => rfl, fun_mk (st := s_InvalidText_init) l_InvalidText_init o_InvalidText_init k_InvalidText_init, (fun_mk (st := s_InvalidText_init) l_InvalidText_init o_InvalidText_init k_InvalidText_init).binds (ps := ["self", "line"]) fun _ _ _ _ _ _ us hl => match us, hl with | [_, _], _ => rfl, fun_mk (st := s_InvalidTurned_init) l_InvalidTurned_init o_InvalidTurned_init k_InvalidTurned_init, (fun_mk (st := s_InvalidTurned_init) l_InvalidTurned_init o_InvalidTurned_init k_InvalidTurned_init).binds (ps := ["self", "value"]) fun _ _ _ _ _ _ us hl => match us, hl with | [_, _], _ => rfl, fun_mk (st := s_InvalidValues_init) l_InvalidValues_init o_InvalidValues_init k_InvalidValues_init, (fun_mk (st := s_InvalidValues_init) l_InvalidValues_init o_InvalidValues_init k_InvalidValues_init).binds (ps := ["self", "position"]) fun _ _ _ _ _ _ us hl => match us, hl with | [_, _], _ => rfl, fun_mk (st := s_NoRound_init) l_NoRound_init o_NoRound_init k_NoRound_init, (fun_mk (st := s_NoRound_init) l_NoRound_init o_NoRound_init k_NoRound_init).binds (ps := ["self"]) fun _ _ _ _ _ _ us hl => match us, hl with | [_], _ => rfl, fun_mk (st := s_NotOpen_init) l_NotOpen_init o_NotOpen_init k_NotOpen_init, (fun_mk (st := s_NotOpen_init) l_NotOpen_init o_NotOpen_init k_NotOpen_init).binds (ps := ["self", "home", "away"]) fun _ _ _ _ _ _ us hl => match us, hl with | [_, _, _], _ => rfl, fun_mk (st := s_NotRight_init) l_NotRight_init o_NotRight_init k_NotRight_init, (fun_mk (st := s_NotRight_init) l_NotRight_init o_NotRight_init k_NotRight_init).binds (ps := ["self", "size"]) fun _ _ _ _ _ _ us hl => match us, hl with | [_, _], _ => rfl, fun_mk (st := s_NotSingle_init) l_NotSingle_init o_NotSingle_init k_NotSingle_init, (fun_mk (st := s_NotSingle_init) l_NotSingle_init o_NotSingle_init k_NotSingle_init).binds (ps := ["self", "one", "other"]) fun _ _ _ _ _ _ us hl => match us, hl with | [_, _, _], _ => rfl, fun_mk (st := s_NothingToUndo_init) l_NothingToUndo_init o_NothingToUndo_init k_NothingToUndo_init, (fun_mk (st := s_NothingToUndo_init) l_NothingToUndo_init o_NothingToUndo_init k_NothingToUndo_init).binds (ps := ["self"]) fun _ _ _ _ _ _ us hl => match us, hl with | [_], _ => rfl, fun_mk (st := s_TooMany_init) l_TooMany_init o_TooMany_init k_TooMany_init, (fun_mk (st := s_TooMany_init) l_TooMany_init o_TooMany_init k_TooMany_init).binds (ps := ["self", "what", "limit"]) fun _ _ _ _ _ _ us hl => match us, hl with | [_, _, _], _ => rfl, fun_mk (st := s_Unplayed_init) l_Unplayed_init o_Unplayed_init k_Unplayed_init, (fun_mk (st := s_Unplayed_init) l_Unplayed_init o_Unplayed_init k_Unplayed_init).binds (ps := ["self", "home", "away"]) fun _ _ _ _ _ _ us hl => match us, hl with | [_, _, _], _ => rfl, PySem.W.mg_none_of X G z_ArithmeticError, PySem.W.mg_none_of X G z_LookupError, PySem.W.mg_none_of X G z_RuntimeError, PySem.W.mg_none_of X G z_TypeError, PySem.W.mg_none_of X G z_ValueError, PySem.W.mg_none_of X G z_ZeroDivisionError, PySem.W.mg_none_of X G z_abs, PySem.W.mg_none_of X G z_all, PySem.W.mg_none_of X G z_dict, PySem.W.mg_none_of X G z_divmod, PySem.W.mg_none_of X G z_enumerate, PySem.W.mg_none_of X G z_int, PySem.W.mg_none_of X G z_isinstance, PySem.W.mg_none_of X G z_len, PySem.W.mg_none_of X G z_list, PySem.W.mg_none_of X G z_max, PySem.W.mg_none_of X G z_min, PySem.W.mg_none_of X G z_range, PySem.W.mg_none_of X G z_repr, PySem.W.mg_none_of X G z_tuple, PySem.W.mg_none_of X G z_zip, ⟨fun s us ws _ h1 h2 => match us, ws, h1, h2 with | [_], [_], _, _ => .of_eq rfl, fun r1 r2 => r1.append (.cons (vals_getD r2 0) (.nil))⟩, ⟨fun s us ws _ h1 h2 => match us, ws, h1, h2 with | [_], [_], _, _ => .of_eq rfl, fun r1 r2 => r1.append (.cons (vals_getD r2 0) (.nil))⟩, ⟨fun s us ws _ h1 h2 => match us, ws, h1, h2 with | [_], [_], _, _ => .of_eq rfl, fun r1 r2 => r1.append (.cons (vals_getD r2 0) (.nil))⟩, ⟨fun s us ws _ h1 h2 => match us, ws, h1, h2 with | [_], [_], _, _ => .of_eq rfl, fun r1 r2 => r1.append (.cons (vals_getD r2 0) (.nil))⟩, ⟨fun s us ws _ h1 h2 => match us, ws, h1, h2 with | [_], [_], _, _ => .of_eq rfl, fun r1 r2 => r1.append (.cons (vals_getD r2 0) (.nil))⟩, ⟨fun s us ws _ h1 h2 => match us, ws, h1, h2 with | [_], [_], _, _ => .of_eq rfl, fun r1 r2 => r1.append (.cons (vals_getD r2 0) (.nil))⟩, ⟨fun s us ws _ h1 h2 => match us, ws, h1, h2 with | [_], [_], _, _ => .of_eq rfl, fun r1 r2 => r1.append (.cons (vals_getD r2 0) (.nil))⟩, ⟨fun s us ws _ h1 h2 => match us, ws, h1, h2 with | [_], [_], _, _ => .of_eq rfl, fun r1 r2 => r1.append (.cons (vals_getD r2 0) (.nil))⟩, ⟨fun s us ws _ h1 h2 => match us, ws, h1, h2 with | [_], [_], _, _ => .of_eq rfl, fun r1 r2 => r1.append (.cons (vals_getD r2 0) (.nil))⟩, ⟨fun s us ws _ h1 h2 => match us, ws, h1, h2 with | [_], [_], _, _ => .of_eq rfl, fun r1 r2 => r1.append (.cons (vals_getD r2 0) (.nil))⟩, ⟨fun s us ws _ h1 h2 => match us, ws, h1, h2 with | [_], [_], _, _ => .of_eq rfl, fun r1 r2 => r1.append (.cons (vals_getD r2 0) (.nil))⟩, ⟨fun s us ws _ h1 h2 => match us, ws, h1, h2 with | [_], [_], _, _ => .of_eq rfl, fun r1 r2 => r1.append (.cons (vals_getD r2 0) (.nil))⟩, ⟨fun s us ws _ h1 h2 => match us, ws, h1, h2 with | [_], [_], _, _ => .of_eq rfl, fun r1 r2 => r1.append (.cons (vals_getD r2 0) (.nil))⟩, ⟨fun s us ws _ h1 h2 => match us, ws, h1, h2 with | [_], [_], _, _ => .of_eq rfl, fun r1 r2 => r1.append (.cons (vals_getD r2 0) (.nil))⟩, ⟨fun s us ws _ h1 h2 => match us, ws, h1, h2 with | [_], [_], _, _ => .of_eq rfl, fun r1 r2 => r1.append (.cons (vals_getD r2 0) (.nil))⟩, ⟨fun s us ws _ h1 h2 => match us, ws, h1, h2 with | [_], [_], _, _ => .of_eq rfl, fun r1 r2 => r1.append (.cons (vals_getD r2 0) (.nil))⟩, ⟨fun s us ws _ h1 h2 => match us, ws, h1, h2 with | [_], [_], _, _ => .of_eq rfl, fun r1 r2 => r1.append (.cons (vals_getD r2 0) (.nil))⟩, ⟨fun s us ws _ h1 h2 => match us, ws, h1, h2 with | [_], [_], _, _ => .of_eq rfl, fun r1 r2 => r1.append (.cons (vals_getD r2 0) (.nil))⟩, ⟨fun s us ws _ h1 h2 => match us, ws, h1, h2 with | [_], [_], _, _ => .of_eq rfl, fun r1 r2 => r1.append (.cons (vals_getD r2 0) (.nil))⟩, ⟨fun s us ws _ h1 h2 => match us, ws, h1, h2 with | [_], [_], _, _ => .of_eq rfl, fun r1 r2 => r1.append (.cons (vals_getD r2 0) (.nil))⟩, ⟨fun s us ws _ h1 h2 => match us, ws, h1, h2 with | [_], [_], _, _ => .of_eq rfl, fun r1 r2 => r1.append (.cons (vals_getD r2 0) (.nil))⟩, ⟨fun s us ws _ h1 h2 => match us, ws, h1, h2 with | [_], [_], _, _ => .of_eq rfl, fun r1 r2 => r1.append (.cons (vals_getD r2 0) (.nil))⟩, ⟨fun s us ws _ h1 h2 => match us, ws, h1, h2 with | [_], [_], _, _ => .of_eq rfl, fun r1 r2 => r1.append (.cons (vals_getD r2 0) (.nil))⟩, ⟨fun s us ws _ h1 h2 => match us, ws, h1, h2 with | [_], [], _, _ => .of_eq rfl, fun r1 r2 => r1.append (.nil)⟩, ⟨fun s us ws _ h1 h2 => match us, ws, h1, h2 with | [_], [_, _], _, _ => .of_eq rfl, fun r1 r2 => r1.append (.cons (vals_getD r2 1) (.cons (vals_getD r2 0) (.nil)))⟩, ⟨fun s us ws _ h1 h2 => match us, ws, h1, h2 with | [_], [_], _, _ => .of_eq rfl, fun r1 r2 => r1.append (.cons (vals_getD r2 0) (.nil))⟩, ⟨fun s us ws _ h1 h2 => match us, ws, h1, h2 with | [_], [_, _], _, _ => .of_eq rfl, fun r1 r2 => r1.append (.cons (vals_getD r2 1) (.cons (vals_getD r2 0) (.nil)))⟩, ⟨fun s us ws _ h1 h2 => match us, ws, h1, h2 with | [_], [], _, _ => .of_eq rfl, fun r1 r2 => r1.append (.nil)⟩, ⟨fun s us ws _ h1 h2 => match us, ws, h1, h2 with | [_], [_, _], _, _ => .of_eq rfl, fun r1 r2 => r1.append (.cons (vals_getD r2 1) (.cons (vals_getD r2 0) (.nil)))⟩, ⟨fun s us ws _ h1 h2 => match us, ws, h1, h2 with | [_], [_, _], _, _ => .of_eq rfl, fun r1 r2 => r1.append (.cons (vals_getD r2 1) (.cons (vals_getD r2 0) (.nil)))⟩⟩
  exact ⟨_, fun s v => .of_eq rfl, fun base _ _ => ok_law T⟩
theorem ob_eq (s : PySem.W.SharedT) : ob s = hk.obs s.abs := obF_eq s
theorem facts {l : PySem.W.OpenLaw} {w : World} {mg : Str → Option Value} {fa : Addr} {h : Heap} (Y : hk.says w h) (G : h.Ns mainGlobals mg) (hfa : mg "law" = some (.ref fa)) :
    ∃ K : PySem.W.Frag, K.In h ∧ ∃ (fd : FuncData) (sp : Sp), (∀ (s : Shared) (u : Value), BindsTo s fd ⟨[u], []⟩ [("_law_script", u)]) ∧
      (∀ (H : Hp) (a : Addr) (ns : List Int), ns.length ≤ 63 → Only H → SqL K H a (ns.map V.int) → sp [.ref a] H (fun v _ => v = .bl true) E0) ∧
      ∀ base : Heap, K.In base → base.Ns mainGlobals mg → FnG l.prog w K mg base 5 fa fd ["_law_script"] sp := by
  obtain ⟨K, KX, c_⟩ := Y
  have cx0_ : (gxa K && gxb K) = true := congrArg (fun z : AlR => z.1) c_
  obtain ⟨cx_, cy_⟩ := He.ba cx0_
  have cf_ : (fnL.map fun a => shR K (a K)) = fnV := congrArg (fun z : AlR => z.2.1) c_
  have ct_ : (tsL.map fun t => He.dicW K (t.1 K)) = tsL.map fun t => some (He.keysIn w.params t.2) := congrArg (fun z : AlR => z.2.2) c_
  obtain ⟨g0_, cx_⟩ := He.ba cx_
  obtain ⟨a_draw, fd_draw, o_draw, k_draw, a_pick, fd_pick, o_pick, k_pick, a_all, fd_all⟩ := of_decide_eq_true g0_
  obtain ⟨g1_, cx_⟩ := He.ba cx_
  obtain ⟨o_all, k_all, a_named, fd_named, o_named, k_named, a_kept, fd_kept, o_kept, k_kept⟩ := of_decide_eq_true g1_
  obtain ⟨g2_, cx_⟩ := He.ba cx_
  obtain ⟨a_width, fd_width, o_width, k_width, a_flags, fd_flags, o_flags, k_flags, a_grounds, fd_grounds⟩ := of_decide_eq_true g2_
  obtain ⟨g3_, cx_⟩ := He.ba cx_
  obtain ⟨o_grounds, k_grounds, a_ground, fd_ground, o_ground, k_ground, a_due_grounds, fd_due_grounds, o_due_grounds, k_due_grounds⟩ := of_decide_eq_true g3_
  obtain ⟨g4_, cx_⟩ := He.ba cx_
  obtain ⟨a_right, fd_right, o_right, k_right, a_pot, fd_pot, o_pot, k_pot, a_law, fd_law⟩ := of_decide_eq_true g4_
  obtain ⟨g5_, cx_⟩ := He.ba cx_
  obtain ⟨o_law, k_law, a_CommandFailed_init, i_CommandFailed_init, fd_CommandFailed_init, o_CommandFailed_init, k_CommandFailed_init, a_InvalidCells_init, i_InvalidCells_init, fd_InvalidCells_init⟩ := of_decide_eq_true g5_
  obtain ⟨g6_, cx_⟩ := He.ba cx_
  obtain ⟨o_InvalidCells_init, k_InvalidCells_init, a_InvalidClaim_init, i_InvalidClaim_init, fd_InvalidClaim_init, o_InvalidClaim_init, k_InvalidClaim_init, a_InvalidCommand_init, i_InvalidCommand_init, fd_InvalidCommand_init⟩ := of_decide_eq_true g6_
  obtain ⟨g7_, cx_⟩ := He.ba cx_
  obtain ⟨o_InvalidCommand_init, k_InvalidCommand_init, a_InvalidCount_init, i_InvalidCount_init, fd_InvalidCount_init, o_InvalidCount_init, k_InvalidCount_init, a_InvalidFirst_init, i_InvalidFirst_init, fd_InvalidFirst_init⟩ := of_decide_eq_true g7_
  obtain ⟨g8_, cx_⟩ := He.ba cx_
  obtain ⟨o_InvalidFirst_init, k_InvalidFirst_init, a_InvalidFixed_init, i_InvalidFixed_init, fd_InvalidFixed_init, o_InvalidFixed_init, k_InvalidFixed_init, a_InvalidGauge_init, i_InvalidGauge_init, fd_InvalidGauge_init⟩ := of_decide_eq_true g8_
  obtain ⟨g9_, cx_⟩ := He.ba cx_
  obtain ⟨o_InvalidGauge_init, k_InvalidGauge_init, a_InvalidLegs_init, i_InvalidLegs_init, fd_InvalidLegs_init, o_InvalidLegs_init, k_InvalidLegs_init, a_InvalidLot_init, i_InvalidLot_init, fd_InvalidLot_init⟩ := of_decide_eq_true g9_
  obtain ⟨g10_, cx_⟩ := He.ba cx_
  obtain ⟨o_InvalidLot_init, k_InvalidLot_init, a_InvalidMarks_init, i_InvalidMarks_init, fd_InvalidMarks_init, o_InvalidMarks_init, k_InvalidMarks_init, a_InvalidNumber_init, i_InvalidNumber_init, fd_InvalidNumber_init⟩ := of_decide_eq_true g10_
  obtain ⟨g11_, cx_⟩ := He.ba cx_
  obtain ⟨o_InvalidNumber_init, k_InvalidNumber_init, a_InvalidPlace_init, i_InvalidPlace_init, fd_InvalidPlace_init, o_InvalidPlace_init, k_InvalidPlace_init, a_InvalidRound_init, i_InvalidRound_init, fd_InvalidRound_init⟩ := of_decide_eq_true g11_
  obtain ⟨g12_, cx_⟩ := He.ba cx_
  obtain ⟨o_InvalidRound_init, k_InvalidRound_init, a_InvalidRounds_init, i_InvalidRounds_init, fd_InvalidRounds_init, o_InvalidRounds_init, k_InvalidRounds_init, a_InvalidRows_init, i_InvalidRows_init, fd_InvalidRows_init⟩ := of_decide_eq_true g12_
  obtain ⟨g13_, cx_⟩ := He.ba cx_
  obtain ⟨o_InvalidRows_init, k_InvalidRows_init, a_InvalidSize_init, i_InvalidSize_init, fd_InvalidSize_init, o_InvalidSize_init, k_InvalidSize_init, a_InvalidStander_init, i_InvalidStander_init, fd_InvalidStander_init⟩ := of_decide_eq_true g13_
  obtain ⟨g14_, cx_⟩ := He.ba cx_
  obtain ⟨o_InvalidStander_init, k_InvalidStander_init, a_InvalidStep_init, i_InvalidStep_init, fd_InvalidStep_init, o_InvalidStep_init, k_InvalidStep_init, a_InvalidTeam_init, i_InvalidTeam_init, fd_InvalidTeam_init⟩ := of_decide_eq_true g14_
  obtain ⟨g15_, cx_⟩ := He.ba cx_
  obtain ⟨o_InvalidTeam_init, k_InvalidTeam_init, a_InvalidText_init, i_InvalidText_init, fd_InvalidText_init, o_InvalidText_init, k_InvalidText_init, a_InvalidTurned_init, i_InvalidTurned_init, fd_InvalidTurned_init⟩ := of_decide_eq_true g15_
  obtain ⟨g16_, cx_⟩ := He.ba cx_
  obtain ⟨o_InvalidTurned_init, k_InvalidTurned_init, a_InvalidValues_init, i_InvalidValues_init, fd_InvalidValues_init, o_InvalidValues_init, k_InvalidValues_init, a_NoRound_init, i_NoRound_init, fd_NoRound_init⟩ := of_decide_eq_true g16_
  obtain ⟨g17_, cx_⟩ := He.ba cx_
  obtain ⟨o_NoRound_init, k_NoRound_init, a_NotOpen_init, i_NotOpen_init, fd_NotOpen_init, o_NotOpen_init, k_NotOpen_init, a_NotRight_init, i_NotRight_init, fd_NotRight_init⟩ := of_decide_eq_true g17_
  obtain ⟨g18_, cx_⟩ := He.ba cx_
  obtain ⟨o_NotRight_init, k_NotRight_init, a_NotSingle_init, i_NotSingle_init, fd_NotSingle_init, o_NotSingle_init, k_NotSingle_init, a_NothingToUndo_init, i_NothingToUndo_init, fd_NothingToUndo_init⟩ := of_decide_eq_true g18_
  obtain ⟨g19_, cx_⟩ := He.ba cx_
  obtain ⟨o_NothingToUndo_init, k_NothingToUndo_init, a_TooMany_init, i_TooMany_init, fd_TooMany_init, o_TooMany_init, k_TooMany_init, a_Unplayed_init, i_Unplayed_init, fd_Unplayed_init⟩ := of_decide_eq_true g19_
  obtain ⟨g20_, cx_⟩ := He.ba cx_
  obtain ⟨o_Unplayed_init, k_Unplayed_init, aC_CommandFailed, aC_InvalidCells, aC_InvalidClaim, aC_InvalidCommand, aC_InvalidCount, aC_InvalidFirst, aC_InvalidFixed, aC_InvalidGauge⟩ := of_decide_eq_true g20_
  obtain ⟨g21_, cx_⟩ := He.ba cx_
  obtain ⟨aC_InvalidLegs, aC_InvalidLot, aC_InvalidMarks, aC_InvalidNumber, aC_InvalidPlace, aC_InvalidRound, aC_InvalidRounds, aC_InvalidRows, aC_InvalidSize, aC_InvalidStander⟩ := of_decide_eq_true g21_
  obtain ⟨g22_, cx_⟩ := He.ba cx_
  obtain ⟨aC_InvalidStep, aC_InvalidTeam, aC_InvalidText, aC_InvalidTurned, aC_InvalidValues, aC_LeagueError, aC_LimitError, aC_NoRound, aC_NotOpen, aC_NotRight⟩ := of_decide_eq_true g22_
  obtain ⟨g23_, cx_⟩ := He.ba cx_
  obtain ⟨aC_NotSingle, aC_NothingToUndo, aC_StateError, aC_TooMany, aC_Unplayed, xg1_CommandFailed, xg2_CommandFailed, xg3_CommandFailed, xs_CommandFailed, xe_CommandFailed⟩ := of_decide_eq_true g23_
  obtain ⟨g24_, cx_⟩ := He.ba cx_
  obtain ⟨xt_CommandFailed, xp_CommandFailed, no_CommandFailed_position, xg1_InvalidCells, xg2_InvalidCells, xg3_InvalidCells, xs_InvalidCells, xe_InvalidCells, xt_InvalidCells, xp_InvalidCells⟩ := of_decide_eq_true g24_
  obtain ⟨g25_, cx_⟩ := He.ba cx_
  obtain ⟨no_InvalidCells_position, xg1_InvalidClaim, xg2_InvalidClaim, xg3_InvalidClaim, xs_InvalidClaim, xe_InvalidClaim, xt_InvalidClaim, xp_InvalidClaim, no_InvalidClaim_value, xg1_InvalidCommand⟩ := of_decide_eq_true g25_
  obtain ⟨g26_, cx_⟩ := He.ba cx_
  obtain ⟨xg2_InvalidCommand, xg3_InvalidCommand, xs_InvalidCommand, xe_InvalidCommand, xt_InvalidCommand, xp_InvalidCommand, no_InvalidCommand_value, xg1_InvalidCount, xg2_InvalidCount, xg3_InvalidCount⟩ := of_decide_eq_true g26_
  obtain ⟨g27_, cx_⟩ := He.ba cx_
  obtain ⟨xs_InvalidCount, xe_InvalidCount, xt_InvalidCount, xp_InvalidCount, no_InvalidCount_value, xg1_InvalidFirst, xg2_InvalidFirst, xg3_InvalidFirst, xs_InvalidFirst, xe_InvalidFirst⟩ := of_decide_eq_true g27_
  obtain ⟨g28_, cx_⟩ := He.ba cx_
  obtain ⟨xt_InvalidFirst, xp_InvalidFirst, no_InvalidFirst_value, xg1_InvalidFixed, xg2_InvalidFixed, xg3_InvalidFixed, xs_InvalidFixed, xe_InvalidFixed, xt_InvalidFixed, xp_InvalidFixed⟩ := of_decide_eq_true g28_
  have g29_ := cx_
  obtain ⟨no_InvalidFixed_position, xg1_InvalidGauge, xg2_InvalidGauge, xg3_InvalidGauge, xs_InvalidGauge, xe_InvalidGauge, xt_InvalidGauge, xp_InvalidGauge, no_InvalidGauge_position, xg1_InvalidLegs⟩ := of_decide_eq_true g29_
  obtain ⟨g30_, cy_⟩ := He.ba cy_
  obtain ⟨xg2_InvalidLegs, xg3_InvalidLegs, xs_InvalidLegs, xe_InvalidLegs, xt_InvalidLegs, xp_InvalidLegs, no_InvalidLegs_position, xg1_InvalidLot, xg2_InvalidLot, xg3_InvalidLot⟩ := of_decide_eq_true g30_
  obtain ⟨g31_, cy_⟩ := He.ba cy_
  obtain ⟨xs_InvalidLot, xe_InvalidLot, xt_InvalidLot, xp_InvalidLot, no_InvalidLot_position, xg1_InvalidMarks, xg2_InvalidMarks, xg3_InvalidMarks, xs_InvalidMarks, xe_InvalidMarks⟩ := of_decide_eq_true g31_
  obtain ⟨g32_, cy_⟩ := He.ba cy_
  obtain ⟨xt_InvalidMarks, xp_InvalidMarks, no_InvalidMarks_value, xg1_InvalidNumber, xg2_InvalidNumber, xg3_InvalidNumber, xs_InvalidNumber, xe_InvalidNumber, xt_InvalidNumber, xp_InvalidNumber⟩ := of_decide_eq_true g32_
  obtain ⟨g33_, cy_⟩ := He.ba cy_
  obtain ⟨no_InvalidNumber_value, xg1_InvalidPlace, xg2_InvalidPlace, xg3_InvalidPlace, xs_InvalidPlace, xe_InvalidPlace, xt_InvalidPlace, xp_InvalidPlace, no_InvalidPlace_value, xg1_InvalidRound⟩ := of_decide_eq_true g33_
  obtain ⟨g34_, cy_⟩ := He.ba cy_
  obtain ⟨xg2_InvalidRound, xg3_InvalidRound, xs_InvalidRound, xe_InvalidRound, xt_InvalidRound, xp_InvalidRound, no_InvalidRound_value, xg1_InvalidRounds, xg2_InvalidRounds, xg3_InvalidRounds⟩ := of_decide_eq_true g34_
  obtain ⟨g35_, cy_⟩ := He.ba cy_
  obtain ⟨xs_InvalidRounds, xe_InvalidRounds, xt_InvalidRounds, xp_InvalidRounds, no_InvalidRounds_position, xg1_InvalidRows, xg2_InvalidRows, xg3_InvalidRows, xs_InvalidRows, xe_InvalidRows⟩ := of_decide_eq_true g35_
  obtain ⟨g36_, cy_⟩ := He.ba cy_
  obtain ⟨xt_InvalidRows, xp_InvalidRows, no_InvalidRows_position, xg1_InvalidSize, xg2_InvalidSize, xg3_InvalidSize, xs_InvalidSize, xe_InvalidSize, xt_InvalidSize, xp_InvalidSize⟩ := of_decide_eq_true g36_
  obtain ⟨g37_, cy_⟩ := He.ba cy_
  obtain ⟨no_InvalidSize_value, xg1_InvalidStander, xg2_InvalidStander, xg3_InvalidStander, xs_InvalidStander, xe_InvalidStander, xt_InvalidStander, xp_InvalidStander, no_InvalidStander_value, xg1_InvalidStep⟩ := of_decide_eq_true g37_
  obtain ⟨g38_, cy_⟩ := He.ba cy_
  obtain ⟨xg2_InvalidStep, xg3_InvalidStep, xs_InvalidStep, xe_InvalidStep, xt_InvalidStep, xp_InvalidStep, no_InvalidStep_value, xg1_InvalidTeam, xg2_InvalidTeam, xg3_InvalidTeam⟩ := of_decide_eq_true g38_
  obtain ⟨g39_, cy_⟩ := He.ba cy_
  obtain ⟨xs_InvalidTeam, xe_InvalidTeam, xt_InvalidTeam, xp_InvalidTeam, no_InvalidTeam_value, xg1_InvalidText, xg2_InvalidText, xg3_InvalidText, xs_InvalidText, xe_InvalidText⟩ := of_decide_eq_true g39_
  obtain ⟨g40_, cy_⟩ := He.ba cy_
  obtain ⟨xt_InvalidText, xp_InvalidText, no_InvalidText_line, xg1_InvalidTurned, xg2_InvalidTurned, xg3_InvalidTurned, xs_InvalidTurned, xe_InvalidTurned, xt_InvalidTurned, xp_InvalidTurned⟩ := of_decide_eq_true g40_
  obtain ⟨g41_, cy_⟩ := He.ba cy_
  obtain ⟨no_InvalidTurned_value, xg1_InvalidValues, xg2_InvalidValues, xg3_InvalidValues, xs_InvalidValues, xe_InvalidValues, xt_InvalidValues, xp_InvalidValues, no_InvalidValues_position, xg1_NoRound⟩ := of_decide_eq_true g41_
  obtain ⟨g42_, cy_⟩ := He.ba cy_
  obtain ⟨xg2_NoRound, xg3_NoRound, xs_NoRound, xe_NoRound, xt_NoRound, xp_NoRound, xg1_NotOpen, xg2_NotOpen, xg3_NotOpen, xs_NotOpen⟩ := of_decide_eq_true g42_
  obtain ⟨g43_, cy_⟩ := He.ba cy_
  obtain ⟨xe_NotOpen, xt_NotOpen, xp_NotOpen, no_NotOpen_home, no_NotOpen_away, xg1_NotRight, xg2_NotRight, xg3_NotRight, xs_NotRight, xe_NotRight⟩ := of_decide_eq_true g43_
  obtain ⟨g44_, cy_⟩ := He.ba cy_
  obtain ⟨xt_NotRight, xp_NotRight, no_NotRight_size, xg1_NotSingle, xg2_NotSingle, xg3_NotSingle, xs_NotSingle, xe_NotSingle, xt_NotSingle, xp_NotSingle⟩ := of_decide_eq_true g44_
  obtain ⟨g45_, cy_⟩ := He.ba cy_
  obtain ⟨no_NotSingle_one, no_NotSingle_other, xg1_NothingToUndo, xg2_NothingToUndo, xg3_NothingToUndo, xs_NothingToUndo, xe_NothingToUndo, xt_NothingToUndo, xp_NothingToUndo, xg1_TooMany⟩ := of_decide_eq_true g45_
  obtain ⟨g46_, cy_⟩ := He.ba cy_
  obtain ⟨xg2_TooMany, xg3_TooMany, xs_TooMany, xe_TooMany, xt_TooMany, xp_TooMany, no_TooMany_what, no_TooMany_limit, xg1_Unplayed, xg2_Unplayed⟩ := of_decide_eq_true g46_
  obtain ⟨g47_, cy_⟩ := He.ba cy_
  obtain ⟨xg3_Unplayed, xs_Unplayed, xe_Unplayed, xt_Unplayed, xp_Unplayed, no_Unplayed_home, no_Unplayed_away, xva1, xva2, xva3⟩ := of_decide_eq_true g47_
  obtain ⟨g48_, cy_⟩ := He.ba cy_
  obtain ⟨xk_ArithmeticError, xd_ArithmeticError, xk_CommandFailed, xd_CommandFailed, xk_InvalidCells, xd_InvalidCells, xk_InvalidClaim, xd_InvalidClaim, xk_InvalidCommand, xd_InvalidCommand⟩ := of_decide_eq_true g48_
  obtain ⟨g49_, cy_⟩ := He.ba cy_
  obtain ⟨xk_InvalidCount, xd_InvalidCount, xk_InvalidFirst, xd_InvalidFirst, xk_InvalidFixed, xd_InvalidFixed, xk_InvalidGauge, xd_InvalidGauge, xk_InvalidLegs, xd_InvalidLegs⟩ := of_decide_eq_true g49_
  obtain ⟨g50_, cy_⟩ := He.ba cy_
  obtain ⟨xk_InvalidLot, xd_InvalidLot, xk_InvalidMarks, xd_InvalidMarks, xk_InvalidNumber, xd_InvalidNumber, xk_InvalidPlace, xd_InvalidPlace, xk_InvalidRound, xd_InvalidRound⟩ := of_decide_eq_true g50_
  obtain ⟨g51_, cy_⟩ := He.ba cy_
  obtain ⟨xk_InvalidRounds, xd_InvalidRounds, xk_InvalidRows, xd_InvalidRows, xk_InvalidSize, xd_InvalidSize, xk_InvalidStander, xd_InvalidStander, xk_InvalidStep, xd_InvalidStep⟩ := of_decide_eq_true g51_
  obtain ⟨g52_, cy_⟩ := He.ba cy_
  obtain ⟨xk_InvalidTeam, xd_InvalidTeam, xk_InvalidText, xd_InvalidText, xk_InvalidTurned, xd_InvalidTurned, xk_InvalidValues, xd_InvalidValues, xk_LeagueError, xd_LeagueError⟩ := of_decide_eq_true g52_
  obtain ⟨g53_, cy_⟩ := He.ba cy_
  obtain ⟨xk_LimitError, xd_LimitError, xk_LookupError, xd_LookupError, xk_NoRound, xd_NoRound, xk_NotOpen, xd_NotOpen, xk_NotRight, xd_NotRight⟩ := of_decide_eq_true g53_
  obtain ⟨g54_, cy_⟩ := He.ba cy_
  obtain ⟨xk_NotSingle, xd_NotSingle, xk_NothingToUndo, xd_NothingToUndo, xk_RuntimeError, xd_RuntimeError, xk_StateError, xd_StateError, xk_TooMany, xd_TooMany⟩ := of_decide_eq_true g54_
  obtain ⟨g55_, cy_⟩ := He.ba cy_
  obtain ⟨xk_TypeError, xd_TypeError, xk_Unplayed, xd_Unplayed, xk_ValueError, xd_ValueError, xk_ZeroDivisionError, xd_ZeroDivisionError, x0_LeagueError, kp_LeagueError⟩ := of_decide_eq_true g55_
  obtain ⟨g56_, cy_⟩ := He.ba cy_
  obtain ⟨x0_LimitError, kp_LimitError, x0_StateError, kp_StateError, z_ArithmeticError, z_LookupError, z_RuntimeError, z_TypeError, z_ValueError, z_ZeroDivisionError⟩ := of_decide_eq_true g56_
  obtain ⟨g57_, cy_⟩ := He.ba cy_
  obtain ⟨z_abs, z_all, z_dict, z_divmod, z_enumerate, z_int, z_isinstance, z_len, z_list, z_max⟩ := of_decide_eq_true g57_
  have g58_ := cy_
  obtain ⟨z_min, z_range, z_repr, z_tuple, z_zip⟩ := of_decide_eq_true g58_
  obtain ⟨_, _, _, _, _, _, _, _, l_draw⟩ := shR_ok (fnAt cf_ 0 (a := xa_Adraw) (v := sv_draw) (by rfl) (by rfl)) fd_draw rfl
  obtain ⟨_, _, _, _, _, _, _, _, l_pick⟩ := shR_ok (fnAt cf_ 1 (a := xa_Apick) (v := sv_pick) (by rfl) (by rfl)) fd_pick rfl
  obtain ⟨_, _, _, _, _, _, _, _, l_all⟩ := shR_ok (fnAt cf_ 2 (a := xa_Aall) (v := sv_all) (by rfl) (by rfl)) fd_all rfl
  obtain ⟨_, _, _, _, _, _, _, _, l_named⟩ := shR_ok (fnAt cf_ 3 (a := xa_Anamed) (v := sv_named) (by rfl) (by rfl)) fd_named rfl
  obtain ⟨_, _, _, _, _, _, _, _, l_kept⟩ := shR_ok (fnAt cf_ 4 (a := xa_Akept) (v := sv_kept) (by rfl) (by rfl)) fd_kept rfl
  obtain ⟨_, _, _, _, _, _, _, _, l_width⟩ := shR_ok (fnAt cf_ 5 (a := xa_Awidth) (v := sv_width) (by rfl) (by rfl)) fd_width rfl
  obtain ⟨_, _, _, _, _, _, _, _, l_flags⟩ := shR_ok (fnAt cf_ 6 (a := xa_Aflags) (v := sv_flags) (by rfl) (by rfl)) fd_flags rfl
  obtain ⟨_, _, _, _, _, _, _, _, l_grounds⟩ := shR_ok (fnAt cf_ 7 (a := xa_Agrounds) (v := sv_grounds) (by rfl) (by rfl)) fd_grounds rfl
  obtain ⟨_, _, _, _, _, _, _, _, l_ground⟩ := shR_ok (fnAt cf_ 8 (a := xa_Aground) (v := sv_ground) (by rfl) (by rfl)) fd_ground rfl
  obtain ⟨_, _, _, _, _, _, _, _, l_due_grounds⟩ := shR_ok (fnAt cf_ 9 (a := xa_Adue_grounds) (v := sv_due_grounds) (by rfl) (by rfl)) fd_due_grounds rfl
  obtain ⟨_, _, _, _, _, _, _, _, l_right⟩ := shR_ok (fnAt cf_ 10 (a := xa_Aright) (v := sv_right) (by rfl) (by rfl)) fd_right rfl
  obtain ⟨_, _, _, _, _, _, _, _, l_pot⟩ := shR_ok (fnAt cf_ 11 (a := xa_Apot) (v := sv_pot) (by rfl) (by rfl)) fd_pot rfl
  obtain ⟨_, _, _, _, _, _, _, _, l_law⟩ := shR_ok (fnAt cf_ 12 (a := xa_Alaw) (v := sv_law) (by rfl) (by rfl)) fd_law rfl
  obtain ⟨_, _, _, _, _, _, _, _, l_CommandFailed_init⟩ := shR_ok (fnAt cf_ 13 (a := xa_ACommandFailed_init) (v := sv_CommandFailed_init) (by rfl) (by rfl)) fd_CommandFailed_init rfl
  obtain ⟨_, _, _, _, _, _, _, _, l_InvalidCells_init⟩ := shR_ok (fnAt cf_ 14 (a := xa_AInvalidCells_init) (v := sv_InvalidCells_init) (by rfl) (by rfl)) fd_InvalidCells_init rfl
  obtain ⟨_, _, _, _, _, _, _, _, l_InvalidClaim_init⟩ := shR_ok (fnAt cf_ 15 (a := xa_AInvalidClaim_init) (v := sv_InvalidClaim_init) (by rfl) (by rfl)) fd_InvalidClaim_init rfl
  obtain ⟨_, _, _, _, _, _, _, _, l_InvalidCommand_init⟩ := shR_ok (fnAt cf_ 16 (a := xa_AInvalidCommand_init) (v := sv_InvalidCommand_init) (by rfl) (by rfl)) fd_InvalidCommand_init rfl
  obtain ⟨_, _, _, _, _, _, _, _, l_InvalidCount_init⟩ := shR_ok (fnAt cf_ 17 (a := xa_AInvalidCount_init) (v := sv_InvalidCount_init) (by rfl) (by rfl)) fd_InvalidCount_init rfl
  obtain ⟨_, _, _, _, _, _, _, _, l_InvalidFirst_init⟩ := shR_ok (fnAt cf_ 18 (a := xa_AInvalidFirst_init) (v := sv_InvalidFirst_init) (by rfl) (by rfl)) fd_InvalidFirst_init rfl
  obtain ⟨_, _, _, _, _, _, _, _, l_InvalidFixed_init⟩ := shR_ok (fnAt cf_ 19 (a := xa_AInvalidFixed_init) (v := sv_InvalidFixed_init) (by rfl) (by rfl)) fd_InvalidFixed_init rfl
  obtain ⟨_, _, _, _, _, _, _, _, l_InvalidGauge_init⟩ := shR_ok (fnAt cf_ 20 (a := xa_AInvalidGauge_init) (v := sv_InvalidGauge_init) (by rfl) (by rfl)) fd_InvalidGauge_init rfl
  obtain ⟨_, _, _, _, _, _, _, _, l_InvalidLegs_init⟩ := shR_ok (fnAt cf_ 21 (a := xa_AInvalidLegs_init) (v := sv_InvalidLegs_init) (by rfl) (by rfl)) fd_InvalidLegs_init rfl
  obtain ⟨_, _, _, _, _, _, _, _, l_InvalidLot_init⟩ := shR_ok (fnAt cf_ 22 (a := xa_AInvalidLot_init) (v := sv_InvalidLot_init) (by rfl) (by rfl)) fd_InvalidLot_init rfl
  obtain ⟨_, _, _, _, _, _, _, _, l_InvalidMarks_init⟩ := shR_ok (fnAt cf_ 23 (a := xa_AInvalidMarks_init) (v := sv_InvalidMarks_init) (by rfl) (by rfl)) fd_InvalidMarks_init rfl
  obtain ⟨_, _, _, _, _, _, _, _, l_InvalidNumber_init⟩ := shR_ok (fnAt cf_ 24 (a := xa_AInvalidNumber_init) (v := sv_InvalidNumber_init) (by rfl) (by rfl)) fd_InvalidNumber_init rfl
  obtain ⟨_, _, _, _, _, _, _, _, l_InvalidPlace_init⟩ := shR_ok (fnAt cf_ 25 (a := xa_AInvalidPlace_init) (v := sv_InvalidPlace_init) (by rfl) (by rfl)) fd_InvalidPlace_init rfl
  obtain ⟨_, _, _, _, _, _, _, _, l_InvalidRound_init⟩ := shR_ok (fnAt cf_ 26 (a := xa_AInvalidRound_init) (v := sv_InvalidRound_init) (by rfl) (by rfl)) fd_InvalidRound_init rfl
  obtain ⟨_, _, _, _, _, _, _, _, l_InvalidRounds_init⟩ := shR_ok (fnAt cf_ 27 (a := xa_AInvalidRounds_init) (v := sv_InvalidRounds_init) (by rfl) (by rfl)) fd_InvalidRounds_init rfl
  obtain ⟨_, _, _, _, _, _, _, _, l_InvalidRows_init⟩ := shR_ok (fnAt cf_ 28 (a := xa_AInvalidRows_init) (v := sv_InvalidRows_init) (by rfl) (by rfl)) fd_InvalidRows_init rfl
  obtain ⟨_, _, _, _, _, _, _, _, l_InvalidSize_init⟩ := shR_ok (fnAt cf_ 29 (a := xa_AInvalidSize_init) (v := sv_InvalidSize_init) (by rfl) (by rfl)) fd_InvalidSize_init rfl
  obtain ⟨_, _, _, _, _, _, _, _, l_InvalidStander_init⟩ := shR_ok (fnAt cf_ 30 (a := xa_AInvalidStander_init) (v := sv_InvalidStander_init) (by rfl) (by rfl)) fd_InvalidStander_init rfl
  obtain ⟨_, _, _, _, _, _, _, _, l_InvalidStep_init⟩ := shR_ok (fnAt cf_ 31 (a := xa_AInvalidStep_init) (v := sv_InvalidStep_init) (by rfl) (by rfl)) fd_InvalidStep_init rfl
  obtain ⟨_, _, _, _, _, _, _, _, l_InvalidTeam_init⟩ := shR_ok (fnAt cf_ 32 (a := xa_AInvalidTeam_init) (v := sv_InvalidTeam_init) (by rfl) (by rfl)) fd_InvalidTeam_init rfl
  obtain ⟨_, _, _, _, _, _, _, _, l_InvalidText_init⟩ := shR_ok (fnAt cf_ 33 (a := xa_AInvalidText_init) (v := sv_InvalidText_init) (by rfl) (by rfl)) fd_InvalidText_init rfl
  obtain ⟨_, _, _, _, _, _, _, _, l_InvalidTurned_init⟩ := shR_ok (fnAt cf_ 34 (a := xa_AInvalidTurned_init) (v := sv_InvalidTurned_init) (by rfl) (by rfl)) fd_InvalidTurned_init rfl
  obtain ⟨_, _, _, _, _, _, _, _, l_InvalidValues_init⟩ := shR_ok (fnAt cf_ 35 (a := xa_AInvalidValues_init) (v := sv_InvalidValues_init) (by rfl) (by rfl)) fd_InvalidValues_init rfl
  obtain ⟨_, _, _, _, _, _, _, _, l_NoRound_init⟩ := shR_ok (fnAt cf_ 36 (a := xa_ANoRound_init) (v := sv_NoRound_init) (by rfl) (by rfl)) fd_NoRound_init rfl
  obtain ⟨_, _, _, _, _, _, _, _, l_NotOpen_init⟩ := shR_ok (fnAt cf_ 37 (a := xa_ANotOpen_init) (v := sv_NotOpen_init) (by rfl) (by rfl)) fd_NotOpen_init rfl
  obtain ⟨_, _, _, _, _, _, _, _, l_NotRight_init⟩ := shR_ok (fnAt cf_ 38 (a := xa_ANotRight_init) (v := sv_NotRight_init) (by rfl) (by rfl)) fd_NotRight_init rfl
  obtain ⟨_, _, _, _, _, _, _, _, l_NotSingle_init⟩ := shR_ok (fnAt cf_ 39 (a := xa_ANotSingle_init) (v := sv_NotSingle_init) (by rfl) (by rfl)) fd_NotSingle_init rfl
  obtain ⟨_, _, _, _, _, _, _, _, l_NothingToUndo_init⟩ := shR_ok (fnAt cf_ 40 (a := xa_ANothingToUndo_init) (v := sv_NothingToUndo_init) (by rfl) (by rfl)) fd_NothingToUndo_init rfl
  obtain ⟨_, _, _, _, _, _, _, _, l_TooMany_init⟩ := shR_ok (fnAt cf_ 41 (a := xa_ATooMany_init) (v := sv_TooMany_init) (by rfl) (by rfl)) fd_TooMany_init rfl
  obtain ⟨_, _, _, _, _, _, _, _, l_Unplayed_init⟩ := shR_ok (fnAt cf_ 42 (a := xa_AUnplayed_init) (v := sv_Unplayed_init) (by rfl) (by rfl)) fd_Unplayed_init rfl
  obtain ⟨fd_, b_, F_⟩ := all_mk (l := l) KX G hfa a_draw l_draw o_draw k_draw a_pick l_pick o_pick k_pick a_all l_all o_all k_all a_named l_named o_named k_named a_kept l_kept o_kept k_kept a_width l_width o_width k_width a_flags l_flags o_flags k_flags a_grounds l_grounds o_grounds k_grounds a_ground l_ground o_ground k_ground a_due_grounds l_due_grounds o_due_grounds k_due_grounds a_right l_right o_right k_right a_pot l_pot o_pot k_pot a_law l_law o_law k_law a_CommandFailed_init i_CommandFailed_init l_CommandFailed_init o_CommandFailed_init k_CommandFailed_init a_InvalidCells_init i_InvalidCells_init l_InvalidCells_init o_InvalidCells_init k_InvalidCells_init a_InvalidClaim_init i_InvalidClaim_init l_InvalidClaim_init o_InvalidClaim_init k_InvalidClaim_init a_InvalidCommand_init i_InvalidCommand_init l_InvalidCommand_init o_InvalidCommand_init k_InvalidCommand_init a_InvalidCount_init i_InvalidCount_init l_InvalidCount_init o_InvalidCount_init k_InvalidCount_init a_InvalidFirst_init i_InvalidFirst_init l_InvalidFirst_init o_InvalidFirst_init k_InvalidFirst_init a_InvalidFixed_init i_InvalidFixed_init l_InvalidFixed_init o_InvalidFixed_init k_InvalidFixed_init a_InvalidGauge_init i_InvalidGauge_init l_InvalidGauge_init o_InvalidGauge_init k_InvalidGauge_init a_InvalidLegs_init i_InvalidLegs_init l_InvalidLegs_init o_InvalidLegs_init k_InvalidLegs_init a_InvalidLot_init i_InvalidLot_init l_InvalidLot_init o_InvalidLot_init k_InvalidLot_init a_InvalidMarks_init i_InvalidMarks_init l_InvalidMarks_init o_InvalidMarks_init k_InvalidMarks_init a_InvalidNumber_init i_InvalidNumber_init l_InvalidNumber_init o_InvalidNumber_init k_InvalidNumber_init a_InvalidPlace_init i_InvalidPlace_init l_InvalidPlace_init o_InvalidPlace_init k_InvalidPlace_init a_InvalidRound_init i_InvalidRound_init l_InvalidRound_init o_InvalidRound_init k_InvalidRound_init a_InvalidRounds_init i_InvalidRounds_init l_InvalidRounds_init o_InvalidRounds_init k_InvalidRounds_init a_InvalidRows_init i_InvalidRows_init l_InvalidRows_init o_InvalidRows_init k_InvalidRows_init a_InvalidSize_init i_InvalidSize_init l_InvalidSize_init o_InvalidSize_init k_InvalidSize_init a_InvalidStander_init i_InvalidStander_init l_InvalidStander_init o_InvalidStander_init k_InvalidStander_init a_InvalidStep_init i_InvalidStep_init l_InvalidStep_init o_InvalidStep_init k_InvalidStep_init a_InvalidTeam_init i_InvalidTeam_init l_InvalidTeam_init o_InvalidTeam_init k_InvalidTeam_init a_InvalidText_init i_InvalidText_init l_InvalidText_init o_InvalidText_init k_InvalidText_init a_InvalidTurned_init i_InvalidTurned_init l_InvalidTurned_init o_InvalidTurned_init k_InvalidTurned_init a_InvalidValues_init i_InvalidValues_init l_InvalidValues_init o_InvalidValues_init k_InvalidValues_init a_NoRound_init i_NoRound_init l_NoRound_init o_NoRound_init k_NoRound_init a_NotOpen_init i_NotOpen_init l_NotOpen_init o_NotOpen_init k_NotOpen_init a_NotRight_init i_NotRight_init l_NotRight_init o_NotRight_init k_NotRight_init a_NotSingle_init i_NotSingle_init l_NotSingle_init o_NotSingle_init k_NotSingle_init a_NothingToUndo_init i_NothingToUndo_init l_NothingToUndo_init o_NothingToUndo_init k_NothingToUndo_init a_TooMany_init i_TooMany_init l_TooMany_init o_TooMany_init k_TooMany_init a_Unplayed_init i_Unplayed_init l_Unplayed_init o_Unplayed_init k_Unplayed_init aC_CommandFailed aC_InvalidCells aC_InvalidClaim aC_InvalidCommand aC_InvalidCount aC_InvalidFirst aC_InvalidFixed aC_InvalidGauge aC_InvalidLegs aC_InvalidLot aC_InvalidMarks aC_InvalidNumber aC_InvalidPlace aC_InvalidRound aC_InvalidRounds aC_InvalidRows aC_InvalidSize aC_InvalidStander aC_InvalidStep aC_InvalidTeam aC_InvalidText aC_InvalidTurned aC_InvalidValues aC_LeagueError aC_LimitError aC_NoRound aC_NotOpen aC_NotRight aC_NotSingle aC_NothingToUndo aC_StateError aC_TooMany aC_Unplayed xg1_CommandFailed xg2_CommandFailed xg3_CommandFailed xs_CommandFailed xe_CommandFailed xt_CommandFailed xp_CommandFailed no_CommandFailed_position xg1_InvalidCells xg2_InvalidCells xg3_InvalidCells xs_InvalidCells xe_InvalidCells xt_InvalidCells xp_InvalidCells no_InvalidCells_position xg1_InvalidClaim xg2_InvalidClaim xg3_InvalidClaim xs_InvalidClaim xe_InvalidClaim xt_InvalidClaim xp_InvalidClaim no_InvalidClaim_value xg1_InvalidCommand xg2_InvalidCommand xg3_InvalidCommand xs_InvalidCommand xe_InvalidCommand xt_InvalidCommand xp_InvalidCommand no_InvalidCommand_value xg1_InvalidCount xg2_InvalidCount xg3_InvalidCount xs_InvalidCount xe_InvalidCount xt_InvalidCount xp_InvalidCount no_InvalidCount_value xg1_InvalidFirst xg2_InvalidFirst xg3_InvalidFirst xs_InvalidFirst xe_InvalidFirst xt_InvalidFirst xp_InvalidFirst no_InvalidFirst_value xg1_InvalidFixed xg2_InvalidFixed xg3_InvalidFixed xs_InvalidFixed xe_InvalidFixed xt_InvalidFixed xp_InvalidFixed no_InvalidFixed_position xg1_InvalidGauge xg2_InvalidGauge xg3_InvalidGauge xs_InvalidGauge xe_InvalidGauge xt_InvalidGauge xp_InvalidGauge no_InvalidGauge_position xg1_InvalidLegs xg2_InvalidLegs xg3_InvalidLegs xs_InvalidLegs xe_InvalidLegs xt_InvalidLegs xp_InvalidLegs no_InvalidLegs_position xg1_InvalidLot xg2_InvalidLot xg3_InvalidLot xs_InvalidLot xe_InvalidLot xt_InvalidLot xp_InvalidLot no_InvalidLot_position xg1_InvalidMarks xg2_InvalidMarks xg3_InvalidMarks xs_InvalidMarks xe_InvalidMarks xt_InvalidMarks xp_InvalidMarks no_InvalidMarks_value xg1_InvalidNumber xg2_InvalidNumber xg3_InvalidNumber xs_InvalidNumber xe_InvalidNumber xt_InvalidNumber xp_InvalidNumber no_InvalidNumber_value xg1_InvalidPlace xg2_InvalidPlace xg3_InvalidPlace xs_InvalidPlace xe_InvalidPlace xt_InvalidPlace xp_InvalidPlace no_InvalidPlace_value xg1_InvalidRound xg2_InvalidRound xg3_InvalidRound xs_InvalidRound xe_InvalidRound xt_InvalidRound xp_InvalidRound no_InvalidRound_value xg1_InvalidRounds xg2_InvalidRounds xg3_InvalidRounds xs_InvalidRounds xe_InvalidRounds xt_InvalidRounds xp_InvalidRounds no_InvalidRounds_position xg1_InvalidRows xg2_InvalidRows xg3_InvalidRows xs_InvalidRows xe_InvalidRows xt_InvalidRows xp_InvalidRows no_InvalidRows_position xg1_InvalidSize xg2_InvalidSize xg3_InvalidSize xs_InvalidSize xe_InvalidSize xt_InvalidSize xp_InvalidSize no_InvalidSize_value xg1_InvalidStander xg2_InvalidStander xg3_InvalidStander xs_InvalidStander xe_InvalidStander xt_InvalidStander xp_InvalidStander no_InvalidStander_value xg1_InvalidStep xg2_InvalidStep xg3_InvalidStep xs_InvalidStep xe_InvalidStep xt_InvalidStep xp_InvalidStep no_InvalidStep_value xg1_InvalidTeam xg2_InvalidTeam xg3_InvalidTeam xs_InvalidTeam xe_InvalidTeam xt_InvalidTeam xp_InvalidTeam no_InvalidTeam_value xg1_InvalidText xg2_InvalidText xg3_InvalidText xs_InvalidText xe_InvalidText xt_InvalidText xp_InvalidText no_InvalidText_line xg1_InvalidTurned xg2_InvalidTurned xg3_InvalidTurned xs_InvalidTurned xe_InvalidTurned xt_InvalidTurned xp_InvalidTurned no_InvalidTurned_value xg1_InvalidValues xg2_InvalidValues xg3_InvalidValues xs_InvalidValues xe_InvalidValues xt_InvalidValues xp_InvalidValues no_InvalidValues_position xg1_NoRound xg2_NoRound xg3_NoRound xs_NoRound xe_NoRound xt_NoRound xp_NoRound xg1_NotOpen xg2_NotOpen xg3_NotOpen xs_NotOpen xe_NotOpen xt_NotOpen xp_NotOpen no_NotOpen_home no_NotOpen_away xg1_NotRight xg2_NotRight xg3_NotRight xs_NotRight xe_NotRight xt_NotRight xp_NotRight no_NotRight_size xg1_NotSingle xg2_NotSingle xg3_NotSingle xs_NotSingle xe_NotSingle xt_NotSingle xp_NotSingle no_NotSingle_one no_NotSingle_other xg1_NothingToUndo xg2_NothingToUndo xg3_NothingToUndo xs_NothingToUndo xe_NothingToUndo xt_NothingToUndo xp_NothingToUndo xg1_TooMany xg2_TooMany xg3_TooMany xs_TooMany xe_TooMany xt_TooMany xp_TooMany no_TooMany_what no_TooMany_limit xg1_Unplayed xg2_Unplayed xg3_Unplayed xs_Unplayed xe_Unplayed xt_Unplayed xp_Unplayed no_Unplayed_home no_Unplayed_away xva1 xva2 xva3 xk_ArithmeticError xd_ArithmeticError xk_CommandFailed xd_CommandFailed xk_InvalidCells xd_InvalidCells xk_InvalidClaim xd_InvalidClaim xk_InvalidCommand xd_InvalidCommand xk_InvalidCount xd_InvalidCount xk_InvalidFirst xd_InvalidFirst xk_InvalidFixed xd_InvalidFixed xk_InvalidGauge xd_InvalidGauge xk_InvalidLegs xd_InvalidLegs xk_InvalidLot xd_InvalidLot xk_InvalidMarks xd_InvalidMarks xk_InvalidNumber xd_InvalidNumber xk_InvalidPlace xd_InvalidPlace xk_InvalidRound xd_InvalidRound xk_InvalidRounds xd_InvalidRounds xk_InvalidRows xd_InvalidRows xk_InvalidSize xd_InvalidSize xk_InvalidStander xd_InvalidStander xk_InvalidStep xd_InvalidStep xk_InvalidTeam xd_InvalidTeam xk_InvalidText xd_InvalidText xk_InvalidTurned xd_InvalidTurned xk_InvalidValues xd_InvalidValues xk_LeagueError xd_LeagueError xk_LimitError xd_LimitError xk_LookupError xd_LookupError xk_NoRound xd_NoRound xk_NotOpen xd_NotOpen xk_NotRight xd_NotRight xk_NotSingle xd_NotSingle xk_NothingToUndo xd_NothingToUndo xk_RuntimeError xd_RuntimeError xk_StateError xd_StateError xk_TooMany xd_TooMany xk_TypeError xd_TypeError xk_Unplayed xd_Unplayed xk_ValueError xd_ValueError xk_ZeroDivisionError xd_ZeroDivisionError x0_LeagueError kp_LeagueError x0_LimitError kp_LimitError x0_StateError kp_StateError z_ArithmeticError z_LookupError z_RuntimeError z_TypeError z_ValueError z_ZeroDivisionError z_abs z_all z_dict z_divmod z_enumerate z_int z_isinstance z_len z_list z_max z_min z_range z_repr z_tuple z_zip
  exact ⟨K, KX, fd_, _, b_, fun H a ns hl hO hS => law_enter hl hO hS, F_⟩
end Lw
open PySem PySem.W PyProof.Rows in
set_option maxRecDepth 100000 in
set_option maxHeartbeats 0 in
theorem PySem.Challenge.cw_ringrows_k19_errors_made_holds : PySem.Challenge.rw_ringrows_k19_errors_made.Holds := by
  w_on; o_law
  refine HandSHeadRun.head_any (r := OpenLaw.row PySem.Challenge.rw_ringrows_k19_errors_made) (q := Lw.qV) (H := Lw.hk) (ob := Lw.ob) (M := 60000) (loose := Lw.looseL) (d := HandSHeadRun.topDef (OpenLaw.row PySem.Challenge.rw_ringrows_k19_errors_made).prog 47) (kwd := []) Lw.ob_eq (by kernel_rfl) (fun s => by kernel_rfl) Lw.run (by kernel_rfl) (by kernel_rfl) (by kernel_rfl) (by rfl) (by first | assumption | decide +kernel) (by decide +kernel) ⟨rfl, rfl, rfl, rfl, rfl, by decide +kernel⟩ ?hw ?hc
  case hw => w_witness2
  case hc =>
    refine Rx.walk_ofGE (l := PySem.Challenge.rw_ringrows_k19_errors_made) (n := 63) (k := 5) (x := "_law_script") rfl (by decide) (by kernel_rfl) ⟨rfl, by decide, by decide⟩ ?F
    intro w mg fa h Y G hmg0
    have hmg : mg ("law" : PySem.Str) = some (.ref fa) := by
      have e : (HandSHeadRun.topDef (OpenLaw.row PySem.Challenge.rw_ringrows_k19_errors_made).prog 47).name = ("law" : PySem.Str) := by kernel_rfl
      rw [← e]
      exact hmg0
    exact Lw.facts Y G hmg
